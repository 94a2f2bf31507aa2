/- Rows of words: counted, copied, compared, one the beginning of another. -/
import Derived.Test.YtbacbigcecmfbaaBi0
import Derived.Handy
import Derived.BigRegion
namespace Go.Proofs.Ytbacbigcecmfbaa
open Go.ChangeShapes Go.WideShapes Go.ChangeAt Go.RowKit
open Go.Sort (grow)
set_option linter.unusedVariables false
set_option linter.unusedSimpArgs false
theorem infoW : (Try.prog.info? 22).map (fun i => (i.zero, i.size, i.bytes)) = some (some (.int .u64 0), 1, 8) := by kernel_rfl
theorem info_parts {i? : Option TypeInfo} {z : Value} {s b : Nat} (h : i?.map (fun i => (i.zero, i.size, i.bytes)) = some (some z, s, b)) : ∃ i, i? = some i ∧ i.zero = some z ∧ i.size = s ∧ i.bytes = b := by
  obtain ⟨i, hi, hzz⟩ := Option.map_eq_some_iff.1 h
  simp only [Prod.mk.injEq] at hzz
  exact ⟨i, hi, hzz.1, hzz.2.1, hzz.2.2⟩
abbrev OwnW (w : World) (base : Nat) (v : Value) (xs : List Int) : Prop := w.ownsRow base 22 1 v xs.length (xs.map (Value.int .u64))
theorem OwnW.shape {w : World} {base : Nat} {v : Value} {xs : List Int} (h : OwnW w base v xs) (h0 : 0 < xs.length) : ∃ g cap, v = .slice (some ⟨g, 0, none⟩) xs.length cap ∧ base ≤ g ∧ g < w.heap.size ∧ xs.length ≤ cap := by
  rcases h.2 with ⟨rfl, e⟩ | ⟨g, cap, cur, rfl, hb, hg, h1, _⟩
  · omega
  · exact ⟨g, cap, rfl, hb, (Array.getElem?_eq_some_iff.1 hg).1, h1⟩
theorem OwnW.same {w w' : World} {base : Nat} {v : Value} {xs : List Int} (h : OwnW w base v xs) (hk : ∀ g, v.ownBlock = some g → w'.heap[g]? = w.heap[g]?) : OwnW w' base v xs := by
  refine ⟨h.1, ?_⟩
  rcases h.2 with e | ⟨g, cap, cur, rfl, hb, hg, r⟩
  · exact .inl e
  · exact .inr ⟨g, cap, cur, rfl, hb, (hk g rfl).trans hg, r⟩
theorem OwnW.keep {w w' : World} {base : Nat} {v : Value} {xs : List Int} (h : OwnW w base v xs) (hb : Below w.heap.size w w') : OwnW w' base v xs := h.same (fun g hg => hb.block g (h.lt g hg).2)
theorem OwnW.at {w : World} {base g cap : Nat} {xs : List Int} (h : OwnW w base (.slice (some ⟨g, 0, none⟩) xs.length cap) xs) (j : Nat) (hj : j < xs.length) : w.cell? ⟨g, j, none⟩ = some (.int .u64 xs[j]) := by
  rw [h.cellAt j (by omega)]
  simp [hj]
theorem OwnW.bytes {w : World} {base : Nat} {v : Value} {xs : List Int} (h : OwnW w base v xs) (hn : xs.length ≤ 1099511627776) : Ints base .u64 w v xs := by
  rcases h.2 with ⟨rfl, e⟩ | ⟨g, cap, cur, rfl, hb, hg, h1, h2, h3, h4⟩
  · obtain rfl : xs = [] := List.length_eq_zero_iff.1 e
    exact ⟨base, 0, ⟨⟨none, 0, rfl, Nat.le_refl _, fun h => absurd h (by simp)⟩, by simp⟩, Nat.le_refl _, fun i hi => by simp at hi⟩
  · exact ⟨g, 0, ⟨⟨_, _, rfl, h1, fun _ => rfl⟩, by omega⟩, hb, fun i hi => by rw [Nat.zero_add]; exact h.at i hi⟩
theorem OwnW.mono {w : World} {base base' : Nat} {v : Value} {xs : List Int} (h : OwnW w base v xs) (hb : base' ≤ base) : OwnW w base' v xs :=
  ⟨h.1, h.2.elim Or.inl (fun ⟨g, cap, cur, hv, hg, r⟩ => Or.inr ⟨g, cap, cur, hv, by omega, r⟩)⟩
theorem OwnW.form {w : World} {base : Nat} {v : Value} {xs : List Int} (h : OwnW w base v xs) : ∃ a cap, v = .slice a xs.length cap := by
  rcases h.2 with ⟨rfl, e⟩ | ⟨g, cap, cur, rfl, _⟩
  · rw [e]; exact ⟨_, _, rfl⟩
  · exact ⟨_, _, rfl⟩
set_option maxHeartbeats 1000000 in
theorem szW (v : Value) (n b o : Nat) (l : Int) (w : World) (h : Sl v n b o) (l0 : 0 ≤ l) (l1 : l ≤ 1048576) :
    Calls Try.prog 11 #[v, .int .i64 l] w fun e w' => e = .returned (.int .i64 (less l n)) ∧ w' = w := by
  obtain ⟨⟨a, cap, rfl, h1, h2⟩, h3⟩ := h
  have g1 : (n : Int) ≤ 140737488355328 := by omega
  by_cases hl : l < n
  · have e : Kp (less l n = -1) := ⟨by unfold less; rw [if_pos hl]⟩
    have q : l - (n : Int) < 0 := by omega
    clear h2
    go_enter Try.func11, Try.ntmps11
    go_wp2
    go_ret
    exact ⟨by rw [e.out]; rfl, rfl⟩
  · have e : Kp (less l n = l - n) := ⟨by unfold less; rw [if_neg hl]⟩
    have q : ¬ l - (n : Int) < 0 := by omega
    clear h2
    go_enter Try.func11, Try.ntmps11
    go_wp2
    go_ret
    exact ⟨by rw [e.out]; rfl, rfl⟩
theorem mkW (n : Nat) (hn : n ≤ 2097152) : ∃ O : Obj, (∀ W : World, (Instr.makeSlice 25 (.int .i64 (n : Int)) (.int .i64 (n : Int))).run Try.prog W = .ok (.slice (some ⟨W.heap.size, 0, none⟩) n n) (W.alloc O)) ∧ ∀ W : World, (W.alloc O).ownsRow W.heap.size 22 1 (.slice (some ⟨W.heap.size, 0, none⟩) n n) n ((List.replicate n 0).map (Value.int .u64)) := by
  obtain ⟨i, hi, hz, hs, hbb⟩ := info_parts infoW
  refine ⟨.cells (madeCells (Value.int .u64 0).cells (n * 1)) 22, fun W => ?_, fun W => ?_⟩
  · have hb' : (i.bytes : Int) * (n : Int) ≤ 281474976710656 := by rw [hbb]; omega
    have hr := run_make (P := Try.prog) W 25 22 i _ Try.underlying25 hi hz .i64 .i64 n n (by omega) (Int.le_refl _) hb' (by omega)
    simp only [Int.toNat_natCast, hs] at hr
    exact hr
  · have h := World.ownsRow_lit (base := W.heap.size) (e := 22) (size := 1) W (madeCells (Value.int .u64 0).cells (n * 1)) n (Nat.le_refl _) (by unfold maxLen; omega) (size_madeCells _ _)
    have e : (madeCells (Value.int .u64 0).cells (n * 1)).toList = (List.replicate n (0 : Int)).map (Value.int .u64) := by
      rw [Nat.mul_one]
      exact (toList_madeCells_one (.int .u64 0) n).trans (by rw [List.map_replicate])
    rwa [e] at h
theorem fill_step (xs : List Int) (i : Nat) (hi : i < xs.length) : (xs.take i ++ List.replicate (xs.length - i) 0).set i xs[i] = xs.take (i + 1) ++ List.replicate (xs.length - (i + 1)) 0 := by
  have hl : (xs.take i).length = i := by simp; omega
  have e : xs.length - i = (xs.length - (i + 1)) + 1 := by omega
  rw [List.set_append_right _ _ (by omega), hl, Nat.sub_self, e, List.replicate_succ, List.set_cons_zero, List.take_succ_eq_append_getElem hi, List.append_assoc]
  rfl
set_option maxRecDepth 100000 in
set_option maxHeartbeats 2000000 in
theorem toW (v : Value) (xs : List Int) (w : World) {lo : Nat} (h : Ints lo .u64 w v xs) (hn : xs.length ≤ 2097152) :
    Calls Try.prog 14 #[v] w fun e w' => ∃ v', e = .returned v' ∧ OwnW w' w.heap.size v' xs ∧ Below w.heap.size w w' := by
  obtain ⟨b, o, ⟨⟨a, cap, rfl, h1, h2⟩, h3⟩, -, hc⟩ := h.ex
  have g1 : (xs.length : Int) ≤ 2097152 := by omega
  obtain ⟨O, hmk, hrw⟩ := mkW xs.length hn
  have HR : Kp _ := ⟨hrw w⟩
  clear hrw
  go_enter Try.func14, Try.ntmps14
  go_wp2_with fail
  go_loopw [4] (fun s wr => ∃ i : Nat, i ≤ xs.length ∧ s = .int .i64 i ∧ Below w.heap.size w wr ∧ Kp (wr.ownsRow w.heap.size 22 1 (.slice (some ⟨w.heap.size, 0, none⟩) xs.length xs.length) xs.length ((xs.take i ++ List.replicate (xs.length - i) 0).map (Value.int .u64)))) (fun s _ => xs.length - (intOf s).toNat)
  case atStart => exact ⟨0, Nat.zero_le _, rfl, bel_alloc _ _, ⟨by simpa using HR.out⟩⟩
  case round =>
    obtain ⟨i, hi, rfl, hB, hO⟩ := hrel
    by_cases hlt : i < xs.length
    · have ha := h2 (by omega)
      subst ha
      have cx := at_keep (hc i hlt) hB
      obtain ⟨z, cz⟩ : ∃ z, wr.cell? ⟨w.heap.size, i, none⟩ = some z := ⟨_, by rw [hO.out.cellAt i (by omega)]; exact List.getElem?_eq_getElem (by simp; omega)⟩
      have fz := hO.out.frozenAt i
      have hst := Kp.mk (hO.out.stored i (.int .u64 xs[i])).1
      have hfs := Kp.mk (fill_step xs i hlt)
      clear hc
      go_wp2_with fail
      refine ⟨⟨i + 1, by omega, by go_num, hB.setCell (Nat.le_refl _) _, ⟨?_⟩⟩, by simp [intOf]; omega⟩
      have := hst.out
      rw [← List.map_set, hfs.out] at this
      exact this
    · clear h2 hc hmk
      obtain rfl : i = xs.length := by omega
      have hO2 : Kp (OwnW wr w.heap.size (.slice (some ⟨w.heap.size, 0, none⟩) xs.length xs.length) xs) := ⟨by have := hO.out; simpa using this⟩
      clear hO
      go_wp2_with fail
      go_ret
      exact ⟨_, rfl, hO2.out, hB⟩
set_option maxRecDepth 100000 in
set_option maxHeartbeats 2000000 in
theorem eqW (v u : Value) (xs : List Int) (w : World) {lo l2 : Nat} (h : Ints lo .u64 w v xs) (k : Ints l2 .u64 w u xs) (hn : xs.length ≤ 2097152) :
    Calls Try.prog 18 #[v, u] w fun e w' => e = .returned (.bool true) ∧ Below w.heap.size w w' := by
  obtain ⟨b, o, ⟨⟨a, cap, rfl, h1, h2⟩, h3⟩, -, hc⟩ := h.ex
  obtain ⟨b', o', ⟨⟨a', cap', rfl, h1', h2'⟩, h3'⟩, -, hc'⟩ := k.ex
  have g1 : (xs.length : Int) ≤ 2097152 := by omega
  have HC : Kp (∀ i (h : i < xs.length), At w b (o + i) (.int .u64 xs[i]) ∧ At w b' (o' + i) (.int .u64 xs[i])) := ⟨fun i h => ⟨hc i h, hc' i h⟩⟩
  have H2 : Kp (0 < xs.length → a = some ⟨b, o, none⟩ ∧ a' = some ⟨b', o', none⟩) := ⟨fun q => ⟨h2 q, h2' q⟩⟩
  clear hc hc' h k h2 h2'
  go_enter Try.func18, Try.ntmps18
  go_wp2_with fail
  go_loopw [5] (fun s wr => ∃ i : Nat, i ≤ xs.length ∧ s = .int .i64 i ∧ Below w.heap.size w wr) (fun s _ => xs.length - (intOf s).toNat)
  case atStart => exact ⟨0, Nat.zero_le _, rfl, Below.refl _ _⟩
  case round =>
    obtain ⟨i, hi, rfl, hB⟩ := hrel
    by_cases hlt : i < xs.length
    · obtain ⟨rfl, rfl⟩ := H2.out (by omega)
      have c1 := at_keep (HC.out i hlt).1 hB
      have c2 := at_keep (HC.out i hlt).2 hB
      generalize xs[i] = x at c1 c2
      go_upto_region 6 with fail
      have k1 := cell_regrown c1
      have k2 := cell_regrown c2
      refine wp_region_quiet_below (by kernel_rfl) (by kernel_rfl) ?_
      repeat (quiet_step (fail))
      refine wpQuiet_nil ?_
      intro _ hw'
      obtain ⟨⟨dq, osq⟩, hw''⟩ := hw'
      subst hw''
      have hB2 := bel_trans hB (below_regrown wr dq osq)
      clear k1 k2 c1 c2
      generalize grow (redrawn wr dq) osq = V at *
      go_wp2_with fail
      exact ⟨⟨i + 1, by omega, by go_num, hB2⟩, by simp [intOf]; omega⟩
    · go_wp2_with fail
      go_ret
      exact ⟨rfl, hB⟩

/-- Is the one row a beginning of the other one? -/
def begB (xs ys : List Int) : Bool := decide (xs = ys.take xs.length)
theorem begB_no {xs ys : List Int} (i : Nat) (hi : i < xs.length) (hn : ys[i]? ≠ some xs[i]) : begB xs ys = false := by
  unfold begB
  refine decide_eq_false fun h => hn ?_
  have e : xs[i]? = (ys.take xs.length)[i]? := by rw [← h]
  rw [List.getElem?_take, if_pos hi, List.getElem?_eq_getElem hi] at e
  exact e.symm
theorem begB_yes {xs ys : List Int} (h : ∀ i (hi : i < xs.length), ys[i]? = some xs[i]) : begB xs ys = true := by
  unfold begB
  refine decide_eq_true (List.ext_getElem? fun i => ?_)
  rw [List.getElem?_take]
  split
  · rw [h i (by assumption), List.getElem?_eq_getElem (by assumption)]
  · exact List.getElem?_eq_none (by omega)
set_option maxRecDepth 100000 in
set_option maxHeartbeats 4000000 in
theorem begS (v u : Value) (xs ys : List Int) (w : World) {lo l2 : Nat} (h : Ints lo .u64 w v xs) (k : Ints l2 .u64 w u ys) :
    Calls Try.prog 12 #[v, u] w fun e w' => e = .returned (.bool (begB xs ys)) ∧ Below w.heap.size w w' := by
  obtain ⟨b, o, ⟨⟨a, cap, rfl, h1, h2⟩, h3⟩, -, hc⟩ := h.ex
  obtain ⟨b', o', ⟨⟨a', cap', rfl, h1', h2'⟩, h3'⟩, -, hc'⟩ := k.ex
  replace hc := Kp.mk hc
  replace hc' := Kp.mk hc'
  replace h2 := Kp.mk h2
  replace h2' := Kp.mk h2'
  have g1 : (xs.length : Int) ≤ 140737488355328 := by omega
  have g2 : (ys.length : Int) ≤ 140737488355328 := by omega
  clear h k
  by_cases hl : ys.length < xs.length
  · have e : Kp (begB xs ys = false) := ⟨begB_no ys.length hl (by simp)⟩
    have hl2 : (ys.length : Int) < xs.length := by omega
    go_enter Try.func12, Try.ntmps12
    go_wp2_with fail
    go_ret
    exact ⟨by rw [e.out]; rfl, Below.refl _ _⟩
  have hl2 : ¬ (ys.length : Int) < xs.length := by omega
  go_enter Try.func12, Try.ntmps12
  go_wp2_with fail
  go_loopw [5] (fun s wr => ∃ i : Nat, i ≤ xs.length ∧ s = .int .i64 i ∧ Below w.heap.size w wr ∧ Kp (∀ j (hj : j < xs.length), j < i → ys[j]? = some xs[j])) (fun s _ => xs.length - (intOf s).toNat)
  case atStart => exact ⟨0, Nat.zero_le _, rfl, Below.refl _ _, ⟨fun j _ h => absurd h (by omega)⟩⟩
  case round =>
    obtain ⟨i, hi, rfl, hB, hq⟩ := hrel
    by_cases hlt : i < xs.length
    · have hlt' : i < ys.length := by omega
      obtain rfl := h2.out (by omega)
      obtain rfl := h2'.out (by omega)
      have c1 := at_keep (hc.out i hlt) hB
      have c2 := at_keep (hc'.out i hlt') hB
      have HY : Kp (ys[i]? = some ys[i]) := ⟨List.getElem?_eq_getElem hlt'⟩
      have HX : Kp (∀ (hj : i < xs.length), xs[i]'hj = xs[i]) := ⟨fun _ => rfl⟩
      obtain ⟨x, hx⟩ : ∃ x, x = xs[i] := ⟨_, rfl⟩
      obtain ⟨y, hy⟩ : ∃ y, y = ys[i] := ⟨_, rfl⟩
      rw [← hx] at c1
      rw [← hy] at c2 HY
      replace hx := Kp.mk hx
      clear hy HX
      by_cases e : x = y
      · subst e
        go_upto_region 6 with fail
        have k1 := cell_regrown c1
        have k2 := cell_regrown c2
        refine wp_region_quiet_below (by kernel_rfl) (by kernel_rfl) ?_
        repeat (quiet_step (fail))
        refine wpQuiet_nil ?_
        intro _ hw'
        obtain ⟨⟨dq, osq⟩, hw''⟩ := hw'
        subst hw''
        have hB2 := bel_trans hB (below_regrown wr dq osq)
        clear k1 k2 c1 c2
        generalize grow (redrawn wr dq) osq = V at *
        go_wp2_with fail
        exact ⟨⟨i + 1, by omega, by go_num, hB2, ⟨fun j hj hji => by
          by_cases e : j = i
          · subst e; rw [HY.out, hx.out]
          · exact hq.out j hj (by omega)⟩⟩, by simp [intOf]; omega⟩
      · have E : Kp (begB xs ys = false) := ⟨begB_no i hlt (by rw [HY.out, ← hx.out]; simp; exact fun h => e h.symm)⟩
        go_upto_region 6 with fail
        have k1 := cell_regrown c1
        have k2 := cell_regrown c2
        refine wp_region_quiet_below (by kernel_rfl) (by kernel_rfl) ?_
        repeat (quiet_step (fail))
        refine wpQuiet_nil ?_
        intro _ hw'
        obtain ⟨⟨dq, osq⟩, hw''⟩ := hw'
        subst hw''
        have hB2 := bel_trans hB (below_regrown wr dq osq)
        clear k1 k2 c1 c2
        generalize grow (redrawn wr dq) osq = V at *
        go_wp2_with fail
        go_ret
        exact ⟨by rw [E.out]; rfl, hB2⟩
    · have E : Kp (begB xs ys = true) := ⟨begB_yes (fun j hj => hq.out j hj (by omega))⟩
      go_wp2_with fail
      go_ret
      exact ⟨by rw [E.out]; rfl, hB⟩
set_option maxRecDepth 100000 in
set_option maxHeartbeats 4000000 in
theorem eqqS (v u : Value) (xs ys : List Int) (w : World) {lo l2 : Nat} (h : Ints lo .u64 w v xs) (k : Ints l2 .u64 w u ys) :
    Calls Try.prog 15 #[v, u] w fun e w' => e = .returned (.bool (decide (xs = ys))) ∧ Below w.heap.size w w' := by
  obtain ⟨b, o, ⟨⟨a, cap, rfl, h1, h2⟩, h3⟩, -, hc⟩ := h.ex
  obtain ⟨b', o', ⟨⟨a', cap', rfl, h1', h2'⟩, h3'⟩, -, hc'⟩ := k.ex
  replace hc := Kp.mk hc
  replace hc' := Kp.mk hc'
  replace h2 := Kp.mk h2
  replace h2' := Kp.mk h2'
  have g1 : (xs.length : Int) ≤ 140737488355328 := by omega
  have g2 : (ys.length : Int) ≤ 140737488355328 := by omega
  clear h k
  by_cases hl : xs.length ≠ ys.length
  · have e : Kp (decide (xs = ys) = false) := ⟨decide_eq_false (fun h => hl (by rw [h]))⟩
    have hl2 : ¬ (xs.length : Int) = ys.length := by omega
    go_enter Try.func15, Try.ntmps15
    go_wp2_with fail
    go_ret
    exact ⟨by rw [e.out]; rfl, Below.refl _ _⟩
  have hl' : ys.length = xs.length := (Decidable.not_not.1 hl).symm
  have E1 : Kp (∀ i (hi : i < xs.length), ys[i]? ≠ some xs[i] → decide (xs = ys) = false) := ⟨fun i hi hn => decide_eq_false (fun h => hn (by subst h; exact List.getElem?_eq_getElem hi))⟩
  have E2 : Kp ((∀ i (hi : i < xs.length), ys[i]? = some xs[i]) → decide (xs = ys) = true) := ⟨fun h => decide_eq_true (List.ext_getElem? fun i => by
    by_cases hi : i < xs.length
    · rw [h i hi, List.getElem?_eq_getElem hi]
    · rw [List.getElem?_eq_none (by omega), List.getElem?_eq_none (by omega)])⟩
  have HL : Kp (ys.length = xs.length) := ⟨hl'⟩
  rw [hl']
  generalize decide (xs = ys) = R at E1 E2 ⊢
  clear hl hl' g2 h1' h3'
  go_enter Try.func15, Try.ntmps15
  go_wp2_with fail
  go_loopw [5, 13] (fun _ s wr => ∃ i : Nat, i ≤ xs.length ∧ s = .int .i64 i ∧ Below w.heap.size w wr ∧ Kp (∀ j (hj : j < xs.length), j < i → ys[j]? = some xs[j])) (fun _ s _ => xs.length - (intOf s).toNat)
  case atStart => exact ⟨0, Nat.zero_le _, rfl, Below.refl _ _, ⟨fun j _ h => absurd h (by omega)⟩⟩
  case round =>
    obtain ⟨i, hi, rfl, hB, hq⟩ := hrel
    by_cases hlt : i < xs.length
    · obtain rfl := h2.out (by omega)
      obtain rfl := h2'.out (by have := HL.out; omega)
      have hlt' : i < ys.length := by have := HL.out; omega
      have c1 := at_keep (hc.out i hlt) hB
      have c2 := at_keep (hc'.out i hlt') hB
      have HY : Kp (ys[i]? = some ys[i]) := ⟨List.getElem?_eq_getElem hlt'⟩
      obtain ⟨x, hx⟩ : ∃ x, x = xs[i] := ⟨_, rfl⟩
      obtain ⟨y, hy⟩ : ∃ y, y = ys[i] := ⟨_, rfl⟩
      rw [← hx] at c1
      rw [← hy] at c2 HY
      replace hx := Kp.mk hx
      clear hy hlt'
      by_cases e : x = y
      · subst e
        go_upto_region 6 with fail
        have k1 := cell_regrown c1
        have k2 := cell_regrown c2
        refine wp_region_quiet_below (by kernel_rfl) (by kernel_rfl) ?_
        repeat (quiet_step (fail))
        refine wpQuiet_nil ?_
        intro _ hw'
        obtain ⟨⟨dq, osq⟩, hw''⟩ := hw'
        subst hw''
        have hB2 := bel_trans hB (below_regrown wr dq osq)
        clear k1 k2 c1 c2
        generalize grow (redrawn wr dq) osq = V at *
        go_wp2_with fail
        exact ⟨⟨i + 1, by omega, by go_num, hB2, ⟨fun j hj hji => by
          by_cases e : j = i
          · subst e; rw [HY.out, hx.out]
          · exact hq.out j hj (by omega)⟩⟩, by simp [intOf]; omega⟩
      · have E : Kp (R = false) := ⟨E1.out i hlt (by rw [HY.out, ← hx.out]; simp; exact fun h => e h.symm)⟩
        clear E1 E2
        go_upto_region 6 with fail
        have k1 := cell_regrown c1
        have k2 := cell_regrown c2
        refine wp_region_quiet_below (by kernel_rfl) (by kernel_rfl) ?_
        repeat (quiet_step (fail))
        refine wpQuiet_nil ?_
        intro _ hw'
        obtain ⟨⟨dq, osq⟩, hw''⟩ := hw'
        subst hw''
        have hB2 := bel_trans hB (below_regrown wr dq osq)
        clear k1 k2 c1 c2
        generalize grow (redrawn wr dq) osq = V at *
        go_wp2_with fail
        go_ret
        exact ⟨by rw [E.out]; rfl, hB2⟩
    · have E : Kp (R = true) := ⟨E2.out (fun j hj => hq.out j hj (by omega))⟩
      clear E1 E2
      go_wp2_with fail
      go_ret
      exact ⟨by rw [E.out]; rfl, hB⟩
end Go.Proofs.Ytbacbigcecmfbaa
