/- Dominators: the specification's search over the table of dominators. -/
import Derived.Test.YticoippnglkmbaaId0
import Derived.Test.YticoippnglkmbaaRe1
import Derived.Test.YticoippnglkmbaaGs1
namespace Go.Proofs.Yticoippnglkmbaa
open Go.ChangeShapes Go.WideShapes Go.ChangeAt Go.RowKit
set_option linter.unusedVariables false
set_option linter.unusedSimpArgs false
/-- A table of Booleans, to be read. -/
structure Mtx (w : World) (v : Value) (n : Nat) (dm : Nat → Nat → Bool) : Prop where
  ex : ∃ a c, v = .slice a n c ∧ ∀ i, i < n → ∃ hb bi ci, a = some ⟨hb, 0, none⟩ ∧ At w hb i (.slice (some ⟨bi, 0, none⟩) n ci) ∧ ∀ j, j < n → At w bi j (.bool (dm i j))
theorem Mtx.keep {w w' : World} {v : Value} {n : Nat} {dm : Nat → Nat → Bool} (h : Mtx w v n dm) (hb : Below w.heap.size w w') : Mtx w' v n dm := by
  obtain ⟨a, c, e, h⟩ := h.ex
  refine ⟨a, c, e, fun i hi => ?_⟩
  obtain ⟨g, bi, ci, h1, h2, h3⟩ := h i hi
  exact ⟨g, bi, ci, h1, at_keep h2 hb, fun j hj => at_keep (h3 j hj) hb⟩
/-- The best so far, by a table. -/
def bsf (dm : Nat → Nat → Bool) (b : Nat) : Nat → Int
  | 0 => -1
  | k + 1 => if k ≠ b ∧ dm k b = true ∧ (bsf dm b k < 0 ∨ dm (bsf dm b k).toNat k = true) then (k : Int) else bsf dm b k
theorem bsf_lo (dm : Nat → Nat → Bool) (b : Nat) : ∀ k, -1 ≤ bsf dm b k ∧ bsf dm b k < k
  | 0 => by unfold bsf; omega
  | k + 1 => by
    have := bsf_lo dm b k
    unfold bsf
    split <;> omega
theorem bsf_bst {bls : List (List InD)} {dm : Nat → Nat → Bool} {n : Nat} (h : ∀ i j : Nat, i < n → j < n → dm i j = dmB bls i j) {b : Nat} (hb : b < n) : ∀ k, k ≤ n → bsf dm b k = bst bls b k
  | 0, _ => rfl
  | k + 1, hk => by
    have ih := bsf_bst h hb k (by omega)
    have l := bsf_lo dm b k
    show (if _ then _ else _) = (if _ then _ else _)
    rw [← ih, h k b (by omega) hb]
    have : (bsf dm b k < 0 ∨ dm (bsf dm b k).toNat k = true) ↔ (bsf dm b k < 0 ∨ dmB bls (bsf dm b k) k = true) := by
      by_cases q : bsf dm b k < 0
      · simp [q]
      · rw [h _ k (by omega) (by omega), show (((bsf dm b k).toNat : Nat) : Int) = bsf dm b k by omega]
    simp only [this]
end Go.Proofs.Yticoippnglkmbaa
