/- The laws' helpers over rows of bytes: counted, copied, compared, marked, looked at again. -/
import Derived.Test.YtfagafglloopbaaBi5
import Derived.Handy
namespace Go.Proofs.Ytfagafglloopbaa
open Go.ChangeShapes Go.WideShapes Go.ChangeAt Go.RowKit
open Go.Sort (grow)
set_option linter.unusedVariables false
set_option linter.unusedSimpArgs false
set_option maxHeartbeats 1000000 in
theorem szBy (v : Value) (n b o : Nat) (l : Int) (w : World) (h : Sl v n b o) (l0 : 0 ≤ l) (l1 : l ≤ 1048576) :
    Calls Try.prog 33 #[v, .int .i64 l] w fun e w' => e = .returned (.int .i64 (less l n)) ∧ w' = w := by
  obtain ⟨⟨a, cap, rfl, h1, h2⟩, h3⟩ := h
  have g1 : (n : Int) ≤ 140737488355328 := by omega
  by_cases hl : l < n
  · have e : Kp (less l n = -1) := ⟨by unfold less; rw [if_pos hl]⟩
    have q : l - (n : Int) < 0 := by omega
    clear h2
    go_enter Try.func33, Try.ntmps33
    go_wp2
    go_ret
    exact ⟨by rw [e.out]; rfl, rfl⟩
  · have e : Kp (less l n = l - n) := ⟨by unfold less; rw [if_neg hl]⟩
    have q : ¬ l - (n : Int) < 0 := by omega
    clear h2
    go_enter Try.func33, Try.ntmps33
    go_wp2
    go_ret
    exact ⟨by rw [e.out]; rfl, rfl⟩
theorem mkB (n : Nat) (hn : n ≤ 2097152) : ∃ O : Obj, (∀ W : World, (Instr.makeSlice 22 (.int .i64 (n : Int)) (.int .i64 (n : Int))).run Try.prog W = .ok (.slice (some ⟨W.heap.size, 0, none⟩) n n) (W.alloc O)) ∧ ∀ W : World, (W.alloc O).ownsRow W.heap.size 5 1 (.slice (some ⟨W.heap.size, 0, none⟩) n n) n ((List.replicate n 0).map (Value.int .u8)) := by
  obtain ⟨i, hi, hz, hs, hbb⟩ := info_parts info8
  refine ⟨.cells (madeCells (Value.int .u8 0).cells (n * 1)) 5, fun W => ?_, fun W => ?_⟩
  · have hb' : (i.bytes : Int) * (n : Int) ≤ 281474976710656 := by rw [hbb]; omega
    have hr := run_make (P := Try.prog) W 22 5 i _ Try.underlying22 hi hz .i64 .i64 n n (by omega) (Int.le_refl _) hb' (by omega)
    simp only [Int.toNat_natCast, hs] at hr
    exact hr
  · have h := World.ownsRow_lit (base := W.heap.size) (e := 5) (size := 1) W (madeCells (Value.int .u8 0).cells (n * 1)) n (Nat.le_refl _) (by unfold maxLen; omega) (size_madeCells _ _)
    have e : (madeCells (Value.int .u8 0).cells (n * 1)).toList = (List.replicate n (0 : Int)).map (Value.int .u8) := by
      rw [Nat.mul_one]
      exact (toList_madeCells_one (.int .u8 0) n).trans (by rw [List.map_replicate])
    rwa [e] at h
theorem fill_step (xs : List Int) (i : Nat) (hi : i < xs.length) : (xs.take i ++ List.replicate (xs.length - i) 0).set i xs[i] = xs.take (i + 1) ++ List.replicate (xs.length - (i + 1)) 0 := by
  have hl : (xs.take i).length = i := by simp; omega
  have e : xs.length - i = (xs.length - (i + 1)) + 1 := by omega
  rw [List.set_append_right _ _ (by omega), hl, Nat.sub_self, e, List.replicate_succ, List.set_cons_zero, List.take_succ_eq_append_getElem hi, List.append_assoc]
  rfl
set_option maxRecDepth 100000 in
set_option maxHeartbeats 2000000 in
theorem toBy (v : Value) (xs : List Int) (w : World) {lo : Nat} (h : Ints lo .u8 w v xs) (hn : xs.length ≤ 2097152) :
    Calls Try.prog 36 #[v] w fun e w' => ∃ v', e = .returned v' ∧ OwnB w' w.heap.size v' xs ∧ Below w.heap.size w w' := by
  obtain ⟨b, o, ⟨⟨a, cap, rfl, h1, h2⟩, h3⟩, -, hc⟩ := h.ex
  have g1 : (xs.length : Int) ≤ 2097152 := by omega
  obtain ⟨O, hmk, hrw⟩ := mkB xs.length hn
  have HR : Kp _ := ⟨hrw w⟩
  clear hrw
  go_enter Try.func36, Try.ntmps36
  go_wp2_with fail
  go_loopw [4] (fun s wr => ∃ i : Nat, i ≤ xs.length ∧ s = .int .i64 i ∧ Below w.heap.size w wr ∧ Kp (wr.ownsRow w.heap.size 5 1 (.slice (some ⟨w.heap.size, 0, none⟩) xs.length xs.length) xs.length ((xs.take i ++ List.replicate (xs.length - i) 0).map (Value.int .u8)))) (fun s _ => xs.length - (intOf s).toNat)
  case atStart => exact ⟨0, Nat.zero_le _, rfl, bel_alloc _ _, ⟨by simpa using HR.out⟩⟩
  case round =>
    obtain ⟨i, hi, rfl, hB, hO⟩ := hrel
    by_cases hlt : i < xs.length
    · have ha := h2 (by omega)
      subst ha
      have cx := at_keep (hc i hlt) hB
      obtain ⟨z, cz⟩ : ∃ z, wr.cell? ⟨w.heap.size, i, none⟩ = some z := ⟨_, by rw [hO.out.cellAt i (by omega)]; exact List.getElem?_eq_getElem (by simp; omega)⟩
      have fz := hO.out.frozenAt i
      have hst := Kp.mk (hO.out.stored i (.int .u8 xs[i])).1
      have hfs := Kp.mk (fill_step xs i hlt)
      clear hc
      go_wp2_with fail
      refine ⟨⟨i + 1, by omega, by go_num, hB.setCell (Nat.le_refl _) _, ⟨?_⟩⟩, by simp [intOf]; omega⟩
      have := hst.out
      rw [← List.map_set, hfs.out] at this
      exact this
    · clear h2 hc hmk
      obtain rfl : i = xs.length := by omega
      have hO2 : Kp (OwnB wr w.heap.size (.slice (some ⟨w.heap.size, 0, none⟩) xs.length xs.length) xs) := ⟨by have := hO.out; simpa using this⟩
      clear hO
      go_wp2_with fail
      go_ret
      exact ⟨_, rfl, hO2.out, hB⟩
set_option linter.unusedVariables false
set_option linter.unusedSimpArgs false
set_option maxRecDepth 100000 in
set_option maxHeartbeats 2000000 in
theorem eqBy (v u : Value) (xs : List Int) (w : World) {lo l2 : Nat} (h : Ints lo .u8 w v xs) (k : Ints l2 .u8 w u xs) (hn : xs.length ≤ 2097152) :
    Calls Try.prog 37 #[v, u] w fun e w' => e = .returned (.bool true) ∧ Below w.heap.size w w' := by
  obtain ⟨b, o, ⟨⟨a, cap, rfl, h1, h2⟩, h3⟩, -, hc⟩ := h.ex
  obtain ⟨b', o', ⟨⟨a', cap', rfl, h1', h2'⟩, h3'⟩, -, hc'⟩ := k.ex
  have g1 : (xs.length : Int) ≤ 2097152 := by omega
  have HC : Kp (∀ i (h : i < xs.length), At w b (o + i) (.int .u8 xs[i]) ∧ At w b' (o' + i) (.int .u8 xs[i])) := ⟨fun i h => ⟨hc i h, hc' i h⟩⟩
  have H2 : Kp (0 < xs.length → a = some ⟨b, o, none⟩ ∧ a' = some ⟨b', o', none⟩) := ⟨fun q => ⟨h2 q, h2' q⟩⟩
  clear hc hc' h k h2 h2'
  go_enter Try.func37, Try.ntmps37
  go_wp2_with fail
  go_loopw [5] (fun s wr => ∃ i : Nat, i ≤ xs.length ∧ s = .int .i64 i ∧ Below w.heap.size w wr) (fun s _ => xs.length - (intOf s).toNat)
  case atStart => exact ⟨0, Nat.zero_le _, rfl, Below.refl _ _⟩
  case round =>
    obtain ⟨i, hi, rfl, hB⟩ := hrel
    by_cases hlt : i < xs.length
    · obtain ⟨rfl, rfl⟩ := H2.out (by omega)
      have c1 := at_keep (HC.out i hlt).1 hB
      have c2 := at_keep (HC.out i hlt).2 hB
      generalize xs[i] = x at c1 c2
      go_upto_region 6 with fail
      have k1 := cell_regrown c1
      have k2 := cell_regrown c2
      refine wp_region_quiet_below (by kernel_rfl) (by kernel_rfl) ?_
      repeat (quiet_step (fail))
      refine wpQuiet_nil ?_
      intro _ hw'
      obtain ⟨⟨dq, osq⟩, hw''⟩ := hw'
      subst hw''
      have hB2 := bel_trans hB (below_regrown wr dq osq)
      clear k1 k2 c1 c2
      generalize grow (redrawn wr dq) osq = V at *
      go_wp2_with fail
      exact ⟨⟨i + 1, by omega, by go_num, hB2⟩, by simp [intOf]; omega⟩
    · go_wp2_with fail
      go_ret
      exact ⟨rfl, hB⟩

set_option maxRecDepth 100000 in
set_option maxHeartbeats 2000000 in
theorem markBy (v : Value) (xs : List Int) (base : Nat) (k : Int) (w : World) (h : OwnB w base v xs) (hn : xs.length ≤ 2097152) (k0 : 0 ≤ k) (k1 : k ≤ 1048576) :
    Calls Try.prog 38 #[v, .int .i64 k] w fun e w' => e = .returned (.int .i64 (k + xs.length)) ∧ ∃ ys, ys.length = xs.length ∧ OwnB w' base v ys ∧ (∀ j (hj : j < ys.length), ys[j] = (k + j) % 256) ∧ Below base w w' ∧ w'.heap.size = w.heap.size ∧ (∀ b, some b ≠ v.ownBlock → w'.heap[b]? = w.heap[b]?) := by
  have g1 : (xs.length : Int) ≤ 2097152 := by omega
  obtain ⟨a, cap, rfl⟩ := h.form
  have HO := Kp.mk h
  have hsh : Kp (0 < xs.length → ∃ g, a = some ⟨g, 0, none⟩ ∧ base ≤ g) := ⟨fun h0 => by
    obtain ⟨g, cap', e, hb, -, -⟩ := h.shape h0
    injection e with e1 _ _
    exact ⟨g, e1, hb⟩⟩
  clear h
  go_enter Try.func38, Try.ntmps38
  go_wp2_with fail
  go_loopw [1, 5] (fun r s wr => ∃ (i : Nat) (ys : List Int), i ≤ xs.length ∧ s = .int .i64 i ∧ r = .int .i64 (k + i) ∧ Kp (ys.length = xs.length) ∧ Kp (wr.ownsRow base 5 1 (.slice a xs.length cap) xs.length (ys.map (Value.int .u8))) ∧ Kp (∀ j (hj : j < ys.length), j < i → ys[j] = (k + j) % 256) ∧ Below base w wr ∧ Kp (wr.heap.size = w.heap.size) ∧ Kp (∀ b, some b ≠ (Value.slice a xs.length cap).ownBlock → wr.heap[b]? = w.heap[b]?)) (fun _ s _ => xs.length - (intOf s).toNat)
  case atStart => exact ⟨0, xs, Nat.zero_le _, rfl, by simp, ⟨rfl⟩, HO, ⟨fun j _ h => absurd h (by omega)⟩, Below.refl _ _, ⟨rfl⟩, ⟨fun _ _ => rfl⟩⟩
  case round =>
    clear HO
    obtain ⟨i, ys, hi, rfl, rfl, hl, hO, hm, hB, hs, hk⟩ := hrel
    by_cases hlt : i < xs.length
    · obtain ⟨g, rfl, hg⟩ := hsh.out (by omega)
      obtain ⟨z, cz⟩ : ∃ z, wr.cell? ⟨g, i, none⟩ = some z := ⟨_, by rw [hO.out.cellAt i (by omega)]; exact List.getElem?_eq_getElem (by simp [hl.out]; omega)⟩
      have fz := hO.out.frozenAt i
      have hst := Kp.mk (fun z => (hO.out.stored i (.int .u8 z)).1)
      clear hO
      go_wp2_with fail
      refine ⟨⟨i + 1, ys.set i ((k + i) % 256), by omega, by go_num, by go_num, ⟨by rw [List.length_set]; exact hl.out⟩, ⟨?_⟩, ⟨fun j hj hji => ?_⟩, bel_set hB hg _, ⟨by rw [World.size_setCell]; exact hs.out⟩, ⟨fun b hb => ?_⟩⟩, by simp [intOf]; omega⟩
      · have := hst.out ((k + i) % 256)
        rw [← List.map_set] at this
        exact this
      · rw [List.length_set] at hj
        by_cases e : i = j
        · subst e
          simp
        · rw [List.getElem_set_ne e]
          exact hm.out j hj (by omega)
      · rw [heap_set _ _ _ _ _ (fun e => hb (by simp [Value.ownBlock, e]))]
        exact hk.out b hb
    · obtain rfl : i = xs.length := by omega
      go_wp2_with fail
      go_ret
      exact ⟨rfl, ys, hl.out, by have := hO.out; rw [← hl.out] at this; rw [← hl.out]; exact this, fun j hj => hm.out j hj (by have := hl.out; omega), hB, hs.out, hk.out⟩
set_option maxRecDepth 100000 in
set_option maxHeartbeats 2000000 in
theorem heldBy (v : Value) (ys : List Int) (k : Int) (w : World) {lo : Nat} (h : Ints lo .u8 w v ys) (hm : ∀ j (hj : j < ys.length), ys[j] = (k + j) % 256) (hn : ys.length ≤ 2097152) (k0 : 0 ≤ k) (k1 : k ≤ 1048576) :
    Calls Try.prog 39 #[v, .int .i64 k] w fun e w' => e = .returned (.int .i64 (k + ys.length)) ∧ Below w.heap.size w w' := by
  obtain ⟨b, o, ⟨⟨a, cap, rfl, h1, h2⟩, h3⟩, -, hc⟩ := h.ex
  have g1 : (ys.length : Int) ≤ 2097152 := by omega
  replace h2 := Kp.mk h2
  replace hc := Kp.mk hc
  replace hm := Kp.mk hm
  clear h
  go_enter Try.func39, Try.ntmps39
  go_wp2_with fail
  go_loopw [1, 5] (fun r s wr => ∃ i : Nat, i ≤ ys.length ∧ s = .int .i64 i ∧ r = .int .i64 (k + i) ∧ Below w.heap.size w wr) (fun _ s _ => ys.length - (intOf s).toNat)
  case atStart => exact ⟨0, Nat.zero_le _, rfl, by simp, Below.refl _ _⟩
  case round =>
    obtain ⟨i, hi, rfl, rfl, hB⟩ := hrel
    by_cases hlt : i < ys.length
    · obtain rfl := h2.out (by omega)
      have c1 := at_keep (hc.out i hlt) hB
      rw [hm.out i hlt] at c1
      go_wp2_with fail
      exact ⟨⟨i + 1, by omega, by go_num, by go_num, hB⟩, by simp [intOf]; omega⟩
    · obtain rfl : i = ys.length := by omega
      go_wp2_with fail
      go_ret
      exact ⟨rfl, hB⟩
end Go.Proofs.Ytfagafglloopbaa
