/- slices.Reverse of a row that a call owns. -/
import Derived.Test.YtpeplfjndidkhaaGs1
namespace Go.Proofs.Ytpeplfjndidkhaa
open Go.ChangeShapes Go.WideShapes Go.ChangeAt Go.RowKit
set_option linter.unusedVariables false
set_option linter.unusedSimpArgs false
/-- The first i and the last i turned round. -/
def revAt (xs : List Int) (i : Nat) : List Int := (List.range xs.length).map (fun q => if q < i ∨ xs.length - 1 - i < q then xs.getD (xs.length - 1 - q) 0 else xs.getD q 0)
theorem revAt_len (xs : List Int) (i : Nat) : (revAt xs i).length = xs.length := by simp [revAt]
theorem revAt_at (xs : List Int) (i q : Nat) (hq : q < xs.length) : (revAt xs i)[q]'(by rw [revAt_len]; exact hq) = if q < i ∨ xs.length - 1 - i < q then xs.getD (xs.length - 1 - q) 0 else xs.getD q 0 := by
  simp [revAt]
theorem revAt_zero (xs : List Int) : revAt xs 0 = xs := by
  apply List.ext_getElem (revAt_len xs 0)
  intro q h1 h2
  rw [revAt_at xs 0 q h2, if_neg (by omega)]
  simp [h2]
theorem revAt_end (xs : List Int) (i : Nat) (h : xs.length ≤ 2 * i + 1) : revAt xs i = xs.reverse := by
  apply List.ext_getElem (by rw [revAt_len, List.length_reverse])
  intro q h1 h2
  have hq : q < xs.length := by rwa [revAt_len] at h1
  rw [revAt_at xs i q hq, List.getElem_reverse]
  split
  · simp [show xs.length - 1 - q < xs.length by omega]
  · have : xs.length - 1 - q = q := by omega
    simp [hq, this]
theorem revAt_step (xs : List Int) (i : Nat) (h : 2 * i + 1 < xs.length) : revAt xs (i + 1) = ((revAt xs i).set i ((revAt xs i).getD (xs.length - 1 - i) 0)).set (xs.length - 1 - i) ((revAt xs i).getD i 0) := by
  have hi : i < xs.length := by omega
  have hj : xs.length - 1 - i < xs.length := by omega
  have g : ∀ p, p < xs.length → ¬ (p < i ∨ xs.length - 1 - i < p) → (revAt xs i).getD p 0 = xs.getD p 0 := fun p hp hc => by
    rw [List.getD_eq_getElem?_getD, List.getElem?_eq_getElem (by rw [revAt_len]; exact hp), Option.getD_some, revAt_at xs i p hp, if_neg hc]
  rw [g i hi (by omega), g _ hj (by omega)]
  apply List.ext_getElem (by simp [revAt_len])
  intro q h1 h2
  have hq : q < xs.length := by rwa [revAt_len] at h1
  rw [revAt_at xs (i + 1) q hq, List.getElem_set]
  by_cases e1 : xs.length - 1 - i = q
  · rw [if_pos (show q < i + 1 ∨ xs.length - 1 - (i + 1) < q by omega), if_pos e1]
    congr 1
    omega
  · rw [if_neg e1, List.getElem_set]
    by_cases e2 : i = q
    · rw [if_pos (show q < i + 1 ∨ xs.length - 1 - (i + 1) < q by omega), if_pos e2]
      congr 1
      omega
    · rw [if_neg e2, revAt_at xs i q hq]
      by_cases c : q < i ∨ xs.length - 1 - i < q
      · rw [if_pos c, if_pos (show q < i + 1 ∨ xs.length - 1 - (i + 1) < q by omega)]
      · rw [if_neg c, if_neg (show ¬ (q < i + 1 ∨ xs.length - 1 - (i + 1) < q) by omega)]
theorem OwnI.setAt {w : World} {base g j cap : Nat} {xs : List Int} (h : OwnI w base (.slice (some ⟨g, 0, none⟩) xs.length cap) xs) (hj : j < xs.length) (y : Int) : OwnI (w.setCell ⟨g, j, none⟩ (.int .i64 y)) base (.slice (some ⟨g, 0, none⟩) xs.length cap) (xs.set j y) := by
  obtain ⟨hl, ⟨e, q⟩ | ⟨g', cap', cur, e, h1, h2, h3, h4, h5, h6⟩⟩ := h.r
  · cases e
  · cases e
    have e : (xs.set j y).length = xs.length := by simp
    refine ⟨?_⟩
    rw [e]
    refine ⟨by simp, .inr ⟨g, cap, cur.setIfInBounds j (.int .i64 y), rfl, h1, set_cells h2 _ _, h3, h4, by simp [h5], ?_⟩⟩
    rw [Array.toList_setIfInBounds, List.take_set, h6, List.map_set]
theorem OwnI.cell {w : World} {base g n cap : Nat} {xs : List Int} (h : OwnI w base (.slice (some ⟨g, 0, none⟩) n cap) xs) {i : Nat} (hi : i < xs.length) : At w g i (.int .i64 xs[i]) := by
  obtain ⟨hl, ⟨e, q⟩ | ⟨g', cap', cur, e, h1, h2, h3, h4, h5, h6⟩⟩ := h.r
  · cases e
  · injection e with e1 e2 e3
    cases e1
    refine at_cells h2 ?_
    have : (cur.toList.take (xs.length * 1))[i]? = some (.int .i64 xs[i]) := by rw [h6]; simp [hi]
    rw [List.getElem?_take] at this
    split at this
    · simpa using this
    · cases this
theorem OwnI.set2 {w : World} {base g n cap j : Nat} {xs : List Int} (h : OwnI w base (.slice (some ⟨g, 0, none⟩) n cap) xs) (hn : xs.length = n) (hj : j < n) (y : Int) : OwnI (w.setCell ⟨g, j, none⟩ (.int .i64 y)) base (.slice (some ⟨g, 0, none⟩) n cap) (xs.set j y) := by
  subst hn
  exact h.setAt hj y
theorem OwnI.frz {w : World} {base g n cap : Nat} {xs : List Int} (h : OwnI w base (.slice (some ⟨g, 0, none⟩) n cap) xs) (i : Nat) : w.frozen? ⟨g, i, none⟩ = false := by
  obtain ⟨hl, ⟨e, q⟩ | ⟨g', cap', cur, e, h1, h2, h3, h4, h5, h6⟩⟩ := h.r
  · cases e
  · injection e with e1 e2 e3
    cases e1
    exact rw_cells h2 i
end Go.Proofs.Ytpeplfjndidkhaa
