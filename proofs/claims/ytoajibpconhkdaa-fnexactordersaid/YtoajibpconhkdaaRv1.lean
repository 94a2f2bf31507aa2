/- slices.Reverse of a row that a call owns. -/
import Derived.Test.YtoajibpconhkdaaGs1
namespace Go.Proofs.Ytoajibpconhkdaa
open Go.ChangeShapes Go.WideShapes Go.ChangeAt Go.RowKit
set_option linter.unusedVariables false
set_option linter.unusedSimpArgs false
/-- The first i and the last i turned round. -/
def revAt (xs : List Int) (i : Nat) : List Int := (List.range xs.length).map (fun q => if q < i ∨ xs.length - 1 - i < q then xs.getD (xs.length - 1 - q) 0 else xs.getD q 0)
theorem revAt_len (xs : List Int) (i : Nat) : (revAt xs i).length = xs.length := by simp [revAt]
theorem revAt_at (xs : List Int) (i q : Nat) (hq : q < xs.length) : (revAt xs i)[q]'(by rw [revAt_len]; exact hq) = if q < i ∨ xs.length - 1 - i < q then xs.getD (xs.length - 1 - q) 0 else xs.getD q 0 := by
  simp [revAt]
theorem revAt_zero (xs : List Int) : revAt xs 0 = xs := by
  apply List.ext_getElem (revAt_len xs 0)
  intro q h1 h2
  rw [revAt_at xs 0 q h2, if_neg (by omega)]
  simp [h2]
theorem revAt_end (xs : List Int) (i : Nat) (h : xs.length ≤ 2 * i + 1) : revAt xs i = xs.reverse := by
  apply List.ext_getElem (by rw [revAt_len, List.length_reverse])
  intro q h1 h2
  have hq : q < xs.length := by rwa [revAt_len] at h1
  rw [revAt_at xs i q hq, List.getElem_reverse]
  split
  · simp [show xs.length - 1 - q < xs.length by omega]
  · have : xs.length - 1 - q = q := by omega
    simp [hq, this]
theorem revAt_step (xs : List Int) (i : Nat) (h : 2 * i + 1 < xs.length) : revAt xs (i + 1) = ((revAt xs i).set i ((revAt xs i).getD (xs.length - 1 - i) 0)).set (xs.length - 1 - i) ((revAt xs i).getD i 0) := by
  have hi : i < xs.length := by omega
  have hj : xs.length - 1 - i < xs.length := by omega
  have g : ∀ p, p < xs.length → ¬ (p < i ∨ xs.length - 1 - i < p) → (revAt xs i).getD p 0 = xs.getD p 0 := fun p hp hc => by
    rw [List.getD_eq_getElem?_getD, List.getElem?_eq_getElem (by rw [revAt_len]; exact hp), Option.getD_some, revAt_at xs i p hp, if_neg hc]
  rw [g i hi (by omega), g _ hj (by omega)]
  apply List.ext_getElem (by simp [revAt_len])
  intro q h1 h2
  have hq : q < xs.length := by rwa [revAt_len] at h1
  rw [revAt_at xs (i + 1) q hq, List.getElem_set]
  by_cases e1 : xs.length - 1 - i = q
  · rw [if_pos (show q < i + 1 ∨ xs.length - 1 - (i + 1) < q by omega), if_pos e1]
    congr 1
    omega
  · rw [if_neg e1, List.getElem_set]
    by_cases e2 : i = q
    · rw [if_pos (show q < i + 1 ∨ xs.length - 1 - (i + 1) < q by omega), if_pos e2]
      congr 1
      omega
    · rw [if_neg e2, revAt_at xs i q hq]
      by_cases c : q < i ∨ xs.length - 1 - i < q
      · rw [if_pos c, if_pos (show q < i + 1 ∨ xs.length - 1 - (i + 1) < q by omega)]
      · rw [if_neg c, if_neg (show ¬ (q < i + 1 ∨ xs.length - 1 - (i + 1) < q) by omega)]
theorem OwnI.setAt {w : World} {base g j cap : Nat} {xs : List Int} (h : OwnI w base (.slice (some ⟨g, 0, none⟩) xs.length cap) xs) (hj : j < xs.length) (y : Int) : OwnI (w.setCell ⟨g, j, none⟩ (.int .i64 y)) base (.slice (some ⟨g, 0, none⟩) xs.length cap) (xs.set j y) := by
  obtain ⟨hl, ⟨e, q⟩ | ⟨g', cap', cur, e, h1, h2, h3, h4, h5, h6⟩⟩ := h.r
  · cases e
  · cases e
    have e : (xs.set j y).length = xs.length := by simp
    refine ⟨?_⟩
    rw [e]
    refine ⟨by simp, .inr ⟨g, cap, cur.setIfInBounds j (.int .i64 y), rfl, h1, set_cells h2 _ _, h3, h4, by simp [h5], ?_⟩⟩
    rw [Array.toList_setIfInBounds, List.take_set, h6, List.map_set]
theorem OwnI.cell {w : World} {base g n cap : Nat} {xs : List Int} (h : OwnI w base (.slice (some ⟨g, 0, none⟩) n cap) xs) {i : Nat} (hi : i < xs.length) : At w g i (.int .i64 xs[i]) := by
  obtain ⟨hl, ⟨e, q⟩ | ⟨g', cap', cur, e, h1, h2, h3, h4, h5, h6⟩⟩ := h.r
  · cases e
  · injection e with e1 e2 e3
    cases e1
    refine at_cells h2 ?_
    have : (cur.toList.take (xs.length * 1))[i]? = some (.int .i64 xs[i]) := by rw [h6]; simp [hi]
    rw [List.getElem?_take] at this
    split at this
    · simpa using this
    · cases this
theorem OwnI.set2 {w : World} {base g n cap j : Nat} {xs : List Int} (h : OwnI w base (.slice (some ⟨g, 0, none⟩) n cap) xs) (hn : xs.length = n) (hj : j < n) (y : Int) : OwnI (w.setCell ⟨g, j, none⟩ (.int .i64 y)) base (.slice (some ⟨g, 0, none⟩) n cap) (xs.set j y) := by
  subst hn
  exact h.setAt hj y
theorem OwnI.frz {w : World} {base g n cap : Nat} {xs : List Int} (h : OwnI w base (.slice (some ⟨g, 0, none⟩) n cap) xs) (i : Nat) : w.frozen? ⟨g, i, none⟩ = false := by
  obtain ⟨hl, ⟨e, q⟩ | ⟨g', cap', cur, e, h1, h2, h3, h4, h5, h6⟩⟩ := h.r
  · cases e
  · injection e with e1 e2 e3
    cases e1
    exact rw_cells h2 i
set_option maxRecDepth 100000 in
set_option maxHeartbeats 4000000 in
theorem revI (v : Value) (xs : List Int) (w : World) {base : Nat} (h : OwnI w base v xs) (hn : xs.length ≤ 1048576) (hbw : base ≤ w.heap.size) :
    Calls Try.prog 35 #[v] w fun e w' => (∃ u, e = .returned u) ∧ OwnI w' base v xs.reverse ∧ Below base w w' ∧ w.grownBy w' v.ownBlock := by
  by_cases h0 : xs.length ≤ 1
  · have e : xs.reverse = xs := by
      match xs, h0 with
      | [], _ => rfl
      | [x], _ => rfl
    rw [e]
    obtain ⟨a, c, rfl⟩ := h.shape
    replace h := Kp.mk h
    have hlt : decide ((0 : Int) < (xs.length : Int) - 1) = false := by simp; omega
    go_enter Try.func35, Try.ntmps35
    go_wp2_with fail
    refine wp_loop_rounds 1 ?_
    rw [rounds_succ]
    go_wp2_with fail
    refine bodyPost_end (results_none rfl _ _ _) rfl ?_
    exact ⟨⟨_, rfl⟩, h.out, Below.refl _ _, ⟨rfl, rfl, rfl, Nat.le_refl _, fun _ _ _ => rfl⟩⟩
  · obtain ⟨-, ⟨e, q⟩ | ⟨g, cap, cur, rfl, hg, -⟩⟩ := h.r
    · omega
    obtain ⟨n, hn0⟩ : ∃ n, Kp (xs.length = n) := ⟨_, ⟨rfl⟩⟩
    rw [hn0.out] at h hn h0 ⊢
    have hr0 : OwnI w base (.slice (some ⟨g, 0, none⟩) n cap) (revAt xs 0) := by rw [revAt_zero]; exact h
    clear h
    go_enter Try.func35, Try.ntmps35
    go_wp2_with fail
    go_loopw [2, 3] (fun s r wr => ∃ i : Nat, 2 * i ≤ n ∧ s = .int .i64 i ∧ r = .int .i64 ((n : Int) - 1 - i) ∧ OwnI wr base (.slice (some ⟨g, 0, none⟩) n cap) (revAt xs i) ∧ Below base w wr ∧ w.grownBy wr (some g)) (fun s _ _ => n - (intOf s).toNat)
    case atStart => exact ⟨0, by omega, rfl, by simp, hr0, Below.refl _ _, ⟨rfl, rfl, rfl, Nat.le_refl _, fun _ _ _ => rfl⟩⟩
    case round =>
      clear hr0
      obtain ⟨i, hi, rfl, rfl, hO, hB, hG⟩ := hrel
      by_cases hlt : 2 * i + 1 < n
      · obtain ⟨j, hj⟩ : ∃ j : Nat, (n : Int) - 1 - i = j := ⟨n - 1 - i, by omega⟩
        have hjn : n - 1 - i = j := by omega
        rw [hj]
        have hij : (i : Int) < (j : Int) := by omega
        have hi1 : (i : Int) < (n : Int) := by omega
        have hj1 : (j : Int) < (n : Int) := by omega
        have hi0 : (0 : Int) ≤ (i : Int) := by omega
        have hj0 : (0 : Int) ≤ (j : Int) := by omega
        have hl : (revAt xs i).length = n := by rw [revAt_len]; exact hn0.out
        have ci := hO.cell (i := i) (by omega)
        have cj := hO.cell (i := j) (by omega)
        have fi := hO.frz i
        have fj := hO.frz j
        have hst := revAt_step xs i (by rw [hn0.out]; exact hlt)
        rw [hn0.out, hjn] at hst
        have gi : (revAt xs i).getD i 0 = (revAt xs i)[i]'(by omega) := by simp [show i < (revAt xs i).length by omega]
        have gj : (revAt xs i).getD j 0 = (revAt xs i)[j]'(by omega) := by simp [show j < (revAt xs i).length by omega]
        rw [gi, gj] at hst
        generalize (revAt xs i)[i]'(by omega) = a at *
        generalize (revAt xs i)[j]'(by omega) = b at *
        obtain ⟨ys, hys⟩ : ∃ ys, Kp (revAt xs i = ys) := ⟨_, ⟨rfl⟩⟩
        rw [hys.out] at hO hl hst
        replace hst := Kp.mk hst
        replace hl := Kp.mk hl
        replace hO := Kp.mk hO
        clear gi gj
        have hne : i ≠ j := by omega
        go_upto_region 3 with fail
        go_region
        go_wp2_with fail
        have hO2 : OwnI ((wr.setCell ⟨g, i, none⟩ (.int .i64 b)).setCell ⟨g, j, none⟩ (.int .i64 a)).drew base (.slice (some ⟨g, 0, none⟩) n cap) (revAt xs (i + 1)) := by
          rw [hst.out]
          exact ((hO.out.set2 hl.out (by omega) b).set2 (by rw [List.length_set]; exact hl.out) (by omega) a).keep (bel_drew _)
        exact ⟨⟨i + 1, by omega, by go_num, by rw [show ((n : Int) - 1 - ((i + 1 : Nat) : Int)) = (j : Int) - 1 by omega], hO2, ((hB.setCell (by show base ≤ g; omega) _).setCell (by show base ≤ g; omega) _).trans (Below.mono (bel_drew _) (by have := hB.size; simp [World.setCell]; omega)), ((hG.trans (Fam.setHd.gset _ g i _)).trans (Fam.setHd.gset _ g j _)).trans ⟨rfl, rfl, rfl, Nat.le_refl _, fun _ _ _ => rfl⟩⟩, by simp [intOf]; omega⟩
      · have hsb : decide ((i : Int) < (n : Int) - 1 - (i : Int)) = false := by simp; omega
        have e := revAt_end xs i (by rw [hn0.out]; omega)
        rw [e] at hO
        replace hO := Kp.mk hO
        go_wp2_with fail
        refine bodyPost_end (results_none rfl _ _ _) rfl ?_
        exact ⟨⟨_, rfl⟩, hO.out, hB, hG⟩
end Go.Proofs.Ytoajibpconhkdaa
