/- Which value a place defines: the specification's answer. -/
import Derived.Test.YtbfpfjkjeekbdaaDp14
namespace Go.Proofs.Ytbfpfjkjeekbdaa
open Go.ChangeShapes Go.WideShapes Go.ChangeAt Go.RowKit
open Go.Sort (grow)
set_option linter.unusedVariables false
set_option linter.unusedSimpArgs false
/-- The number of the value that a place defines, the first instruction's being n; -1: none. -/
def rOf (B I n : Int) : List (Nat × Nat × Int) → Int
  | [] => -1
  | (b, i, t) :: r => if (b : Int) = B ∧ (i : Int) = I then (if t = 0 then -1 else n) else rOf B I (if t = 0 then n else n + 1) r
theorem rOf_none (B I : Int) (L : List (Nat × Nat × Int)) (n : Int) (h : ∀ e, e ∈ L → (e.1 : Int) = B → (e.2.1 : Int) = I → e.2.2 = 0) : rOf B I n L = -1 := by
  induction L generalizing n with
  | nil => rfl
  | cons x r ih =>
    obtain ⟨b, i, t⟩ := x
    unfold rOf
    split
    · rename_i hh
      rw [if_pos (h (b, i, t) (List.mem_cons_self ..) hh.1 hh.2)]
    · exact ih _ (fun e he => h e (List.mem_cons_of_mem _ he))
theorem inPl_mem (b i : Nat) (xs : List InD) (e : Nat × Nat × Int) (h : e ∈ inPl b i xs) : e.1 = b ∧ i ≤ e.2.1 ∧ ∃ q : e.2.1 - i < xs.length, e.2.2 = (xs[e.2.1 - i]).ty := by
  induction xs generalizing i with
  | nil => cases h
  | cons d r ih =>
    rcases List.mem_cons.1 h with rfl | h
    · exact ⟨rfl, Nat.le_refl _, by simp, by simp⟩
    · obtain ⟨h1, h2, h3, h4⟩ := ih (i + 1) h
      refine ⟨h1, by omega, by simp only [List.length_cons]; omega, ?_⟩
      rw [h4]
      have e : e.2.1 - i = (e.2.1 - (i + 1)) + 1 := by omega
      simp only [e, List.getElem_cons_succ]
theorem blPl_mem (b : Nat) (xs : List (List InD)) (e : Nat × Nat × Int) (h : e ∈ blPl b xs) : b ≤ e.1 ∧ ∃ q : e.1 - b < xs.length, ∃ q2 : e.2.1 < (xs[e.1 - b]).length, e.2.2 = ((xs[e.1 - b])[e.2.1]).ty := by
  induction xs generalizing b with
  | nil => cases h
  | cons d r ih =>
    rcases List.mem_append.1 h with h | h
    · obtain ⟨h1, h2, h3, h4⟩ := inPl_mem b 0 d e h
      refine ⟨by omega, by simp only [List.length_cons]; omega, ?_⟩
      have e0 : e.1 - b = 0 := by omega
      simp only [e0, List.getElem_cons_zero]
      exact ⟨by simpa using h3, by simpa using h4⟩
    · obtain ⟨h1, h2, h3, h4⟩ := ih (b + 1) h
      have e0 : e.1 - b = (e.1 - (b + 1)) + 1 := by omega
      refine ⟨by omega, by simp only [List.length_cons]; omega, ?_⟩
      simp only [e0, List.getElem_cons_succ]
      exact ⟨h3, h4⟩
end Go.Proofs.Ytbfpfjkjeekbdaa
