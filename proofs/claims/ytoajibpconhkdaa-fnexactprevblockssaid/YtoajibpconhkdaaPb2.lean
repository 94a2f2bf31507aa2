/- Which blocks go to one: the program's answer. -/
import Derived.Test.YtoajibpconhkdaaPb1
namespace Go.Proofs.Ytoajibpconhkdaa
open Go.ChangeShapes Go.WideShapes Go.ChangeAt Go.RowKit
set_option linter.unusedVariables false
set_option linter.unusedSimpArgs false
set_option maxRecDepth 100000 in
set_option maxHeartbeats 2000000 in
theorem indexI (v : Value) (xs : List Int) (x : Int) (w0 w : World) {lo : Nat} (h : Ints lo .i64 w0 v xs) (hB : Below w0.heap.size w0 w) (hn : xs.length ≤ 1048576) :
    Calls Try.prog 40 #[v, .int .i64 x] w fun e w' => (∃ r : Int, e = .returned (.int .i64 r) ∧ decide (0 ≤ r) = xs.contains x) ∧ w' = w := by
  obtain ⟨b, o, ⟨⟨a, cap, rfl, h1, h2⟩, h3⟩, -, hc⟩ := h.ex
  obtain ⟨R, hR⟩ : ∃ R, R = xs.contains x := ⟨_, rfl⟩
  rw [← hR]
  replace hR := Kp.mk hR
  replace h2 := Kp.mk h2
  replace hc := Kp.mk hc
  go_enter Try.func40, Try.ntmps40
  go_wp2_with fail
  go_loopw [8] (fun s wr => ∃ i : Nat, i ≤ xs.length ∧ s = .int .i64 i ∧ Kp ((xs.drop i).contains x = R) ∧ wr = w) (fun s _ => xs.length - (intOf s).toNat)
  case atStart => exact ⟨0, Nat.zero_le _, rfl, ⟨by rw [List.drop_zero]; exact hR.out.symm⟩, rfl⟩
  case round =>
    obtain ⟨i, hi, rfl, hd, rfl⟩ := hrel
    by_cases hlt : i < xs.length
    · obtain rfl := h2.out (by omega)
      have c0 := at_keep (hc.out i hlt) hB
      have hd2 : Kp ((x == xs[i] || (xs.drop (i + 1)).contains x) = R) := ⟨by rw [← hd.out, List.drop_eq_getElem_cons hlt, List.contains_cons]⟩
      generalize xs[i] = q at *
      clear hd
      by_cases e1 : x = q
      · subst e1
        have e : R = true := by rw [← hd2.out]; simp
        subst e
        go_wp2_with fail
        go_ret
        exact ⟨⟨_, rfl, by simp⟩, rfl⟩
      · have b2 : (x == q) = false := beq_eq_false_iff_ne.2 e1
        rw [b2] at hd2
        have hd3 := hd2.out
        simp only [Bool.false_or] at hd3
        replace hd3 := Kp.mk hd3
        clear hd2
        go_wp2_with fail
        exact ⟨⟨i + 1, by omega, by go_num, hd3, trivial⟩, by simp [intOf]; omega⟩
    · have e : R = false := by rw [← hd.out, List.drop_eq_nil_of_le (by omega)]; rfl
      subst e
      go_wp2_with fail
      go_ret
      exact ⟨⟨_, rfl, by simp⟩, rfl⟩
set_option maxRecDepth 100000 in
theorem containsI (v : Value) (xs : List Int) (x : Int) (w0 w : World) {lo : Nat} (h : Ints lo .i64 w0 v xs) (hB : Below w0.heap.size w0 w) (hn : xs.length ≤ 1048576) :
    Calls Try.prog 29 #[v, .int .i64 x] w fun e w' => e = .returned (.bool (xs.contains x)) ∧ w' = w := by
  have C := Kp.mk (indexI v xs x w0 w h hB hn)
  go_enter Try.func29, Try.ntmps29
  go_wp2_with fail
  refine C.out.mono ?_
  rintro e w1 ⟨⟨r, rfl, hr⟩, rfl⟩
  replace hr := Kp.mk hr
  go_wp2_with fail
  go_ret
  exact ⟨by rw [← hr.out]; simp, rfl⟩
set_option maxRecDepth 100000 in
set_option maxHeartbeats 8000000 in
theorem prevI (d : FnD) (vp vb : Value) (t : Int) (w : World) {lo : Nat} (h : FnAt lo w d vp vb) (hn : fnN d ≤ 1048576) :
    Calls Try.prog 16 #[fnV d vp vb, .int .i64 t] w fun e w' => ∃ v, e = .returned v ∧ OwnI w' w.heap.size v (prevTo d.blocks t d.blocks.length) ∧ Below w.heap.size w w' := by
  have CN : Kp (∀ W (k : Nat), Below w.heap.size w W → Calls Try.prog 24 #[fnV d vp vb, .int .i64 k] W fun e w' => ∃ v, e = .returned v ∧ Ints lo .i64 w v (lastBl d.blocks k) ∧ Below W.heap.size W w') := ⟨fun W k hW => namedI d vp vb k w W h hW hn⟩
  unfold fnN at hn
  obtain ⟨name, link, params, res, blocks⟩ := d
  obtain ⟨-, hp, hb⟩ := h
  dsimp only [fnV] at *
  have nn := blsN_nn blocks
  have n2 : (blocks.length : Int) ≤ 1048576 := by omega
  obtain ⟨a1, k1, rfl⟩ := hp.shape
  obtain ⟨a2, k2, rfl⟩ := hb.shape
  obtain ⟨i0, hi0, hz0, hz1, hz2⟩ := info_parts info64
  have n3 : blsN blocks ≤ 1048576 := by omega
  have CH : Kp (∀ (W : World) (v : Value) (k : Nat), Below w.heap.size w W → Ints lo .i64 w v (lastBl blocks k) → Calls Try.prog 29 #[v, .int .i64 t] W fun e w' => e = .returned (.bool ((lastBl blocks k).contains t)) ∧ w' = W) := ⟨fun W v k hB ho => by
    have hl : (lastBl blocks k).length ≤ 1048576 := by have := @lastBl_len blocks k; omega
    exact containsI v _ t w W ho hB hl⟩
  clear hn nn hp hb n3
  have CI : Kp (∀ w, Calls Try.prog 25 #[.int .i64 t, .int .i64 blocks.length] w _) := ⟨fun w => isIx t blocks.length w⟩
  obtain ⟨F, hF⟩ : ∃ F, Kp (F = Go.Obj.cells #[.string name, .int .i64 link, .slice a1 params.length k1, .int .i64 res, .slice a2 blocks.length k2] 30 (0, 0)) := ⟨_, ⟨rfl⟩⟩
  by_cases hin : 0 ≤ t ∧ t < blocks.length
  case neg =>
    rw [prevTo_out blocks t hin]
    rw [show (decide (0 ≤ t) && decide (t < (blocks.length : Int))) = false by simp; omega] at CI
    go_enter Try.func16, Try.ntmps16
    go_wp2_with fail
    refine (CI.out _).mono ?_
    rintro e w1 ⟨rfl, rfl⟩
    go_wp2_with fail
    go_ret
    exact ⟨_, rfl, ⟨World.ownsRow_nil _ _ _ _⟩, bel_alloc _ _⟩
  case pos =>
  rw [show (decide (0 ≤ t) && decide (t < (blocks.length : Int))) = true by simp; omega] at CI
  have hin2 : (decide (0 ≤ t) && decide (t < (blocks.length : Int))) = true := by simp; omega
  replace hin2 := Kp.mk hin2
  clear hin
  obtain ⟨W0, hW⟩ : ∃ W0, Kp (W0 = w.alloc (Go.Obj.cells #[.string name, .int .i64 link, .slice a1 params.length k1, .int .i64 res, .slice a2 blocks.length k2] 30)) := ⟨_, ⟨rfl⟩⟩
  have hF0 : W0.heap[w.heap.size]? = some F := by rw [hF.out, hW.out]; exact new_cells w _
  have hB0 : Below w.heap.size w W0 := by rw [hW.out]; exact bel_alloc w _
  have hs0 : w.heap.size + 1 ≤ W0.heap.size := by rw [hW.out]; simp
  have x4 : W0.cell? ⟨w.heap.size, 4, none⟩ = some (.slice a2 blocks.length k2) := at_cells (hF0.trans (by rw [hF.out])) rfl
  obtain ⟨A, hA⟩ : ∃ A, Kp (prevTo blocks t blocks.length = A) := ⟨_, ⟨rfl⟩⟩
  rw [hA.out]
  go_enter Try.func16, Try.ntmps16
  go_upto_region 1 with fail
  rw [← hW.out]
  clear hW
  go_wp2_with fail
  refine (CI.out _).mono ?_
  rintro e w1 ⟨rfl, rfl⟩
  go_wp2_with fail
  go_loopw [5, 16] (fun s r wr => ∃ (k : Nat), k ≤ blocks.length ∧ r = .int .i64 k ∧ OwnI wr (w.heap.size + 1) s (prevTo blocks t k) ∧ wr.heap[w.heap.size]? = some F ∧ w.heap.size + 1 ≤ wr.heap.size ∧ Below w.heap.size w wr) (fun _ r _ => blocks.length - (intOf r).toNat)
  case atStart => exact ⟨0, Nat.zero_le _, rfl, ⟨World.ownsRow_nil _ _ _ _⟩, hF0, hs0, hB0⟩
  case round =>
    clear hF0 hs0 hB0 x4
    obtain ⟨k, hk, rfl, hown, hF1, hs1, hBl⟩ := hrel
    have hkl := prevTo_len blocks t k
    have x0 : wr.cell? ⟨w.heap.size, 0, none⟩ = _ := at_cells (hF1.trans (by rw [hF.out])) rfl
    have x1 : wr.cell? ⟨w.heap.size, 1, none⟩ = _ := at_cells (hF1.trans (by rw [hF.out])) rfl
    have x2 : wr.cell? ⟨w.heap.size, 2, none⟩ = _ := at_cells (hF1.trans (by rw [hF.out])) rfl
    have x3 : wr.cell? ⟨w.heap.size, 3, none⟩ = _ := at_cells (hF1.trans (by rw [hF.out])) rfl
    have x4 : wr.cell? ⟨w.heap.size, 4, none⟩ = _ := at_cells (hF1.trans (by rw [hF.out])) rfl
    by_cases hlt : k < blocks.length
    · have hC := Kp.mk (CN.out wr k hBl)
      have hstep : Kp (prevTo blocks t (k + 1) = if (lastBl blocks k).contains t = true then prevTo blocks t k ++ [(k : Int)] else prevTo blocks t k) := ⟨by
        have := nextL_has blocks k t
        rw [hin2.out, Bool.and_true] at this
        rw [← this]; rfl⟩
      go_wp2_with fail
      refine hC.out.mono ?_
      rintro e w2 ⟨v2, rfl, hO2, hb2⟩
      have hBl2 := bel_trans hBl hb2
      have hC2 := Kp.mk (CH.out _ _ _ hBl2 hO2)
      have hown2 := (hown.keep hb2).r
      have hF2 := keep_cells hF1 hb2
      have hs2 : w.heap.size + 1 ≤ w2.heap.size := by have := hb2.size; omega
      clear hown hF1 hBl x0 x1 x2 x3 x4 hC hO2 hb2
      go_wp2_with fail
      refine hC2.out.mono ?_
      rintro e w3 ⟨rfl, rfl⟩
      clear hC2
      by_cases hm : (lastBl blocks k).contains t = true
      · have hst2 : Kp (prevTo blocks t (k + 1) = prevTo blocks t k ++ [(k : Int)]) := ⟨by rw [hstep.out, if_pos hm]⟩
        rw [hm]
        clear hstep hm
        go_wp2_with (at_builtin; refine wpList_append_vals _ rfl _ _ 22 rfl (w.heap.size + 1) 2 i0 (.int .i64 0) 1 8 Try.underlying22 hi0 hz0 hz1 hz2 rfl (by decide) _ _ _ rfl (hown2.alloc _) (some ⟨w3.heap.size, 0, none⟩) w3.heap.size 0 1 1 [.int .i64 k] rfl (fun _ => rfl) rfl (one_new w3 _ _) one_cell (by unfold maxLen; omega) (by omega) (by simp; omega) ?_; intro v4 w4 hown4 hgrow4)
        have hB4 := own_bel (hBl2.alloc hBl2.size _) (Joins_le (hown2.alloc _)) hgrow4 (by simp; omega)
        have hF4 : w4.heap[w.heap.size]? = some F := by
          rw [hgrow4.block w.heap.size (by simp; omega) (fun e => own_ne_at hown2 (by omega) e.symm), (MapKept.heap_alloc _ _).2 _ (by omega)]
          exact hF2
        have hs4 : w.heap.size + 1 ≤ w4.heap.size := by have := hgrow4.size; simp at this; omega
        have hown5 : w4.ownsRow (w.heap.size + 1) 2 1 v4 (prevTo blocks t (k + 1)).length ((prevTo blocks t (k + 1)).map (Value.int .i64)) := by rw [hst2.out]; simpa using hown4
        clear hown2 hown4 hgrow4 hBl2 hF2 hst2
        go_wp2_with fail
        exact ⟨⟨k + 1, by omega, by go_num, ⟨hown5⟩, hF4, hs4, hB4⟩, by simp [intOf]; omega⟩
      · have hst2 : Kp (prevTo blocks t (k + 1) = prevTo blocks t k) := ⟨by rw [hstep.out, if_neg hm]⟩
        have hm2 : (lastBl blocks k).contains t = false := by simpa using hm
        rw [hm2]
        clear hstep hm hm2
        have hown4 : OwnI w3 (w.heap.size + 1) _ (prevTo blocks t (k + 1)) := ⟨by rw [hst2.out]; exact hown2⟩
        clear hown2 hst2
        go_wp2_with fail
        exact ⟨⟨k + 1, by omega, by go_num, hown4, hF2, hs2, hBl2⟩, by simp [intOf]; omega⟩
    · obtain rfl : k = blocks.length := by omega
      rw [hA.out] at hown
      replace hown := Kp.mk hown
      go_wp2_with fail
      go_ret
      exact ⟨_, rfl, ⟨Joins_le hown.out.r⟩, hBl⟩
end Go.Proofs.Ytoajibpconhkdaa
