/- Where a value is defined: the specification's answer. -/
import Derived.Test.YtbfpfjkjeekbdaaDp11
namespace Go.Proofs.Ytbfpfjkjeekbdaa
open Go.ChangeShapes Go.WideShapes Go.ChangeAt Go.RowKit
open Go.Sort (grow)
set_option linter.unusedVariables false
set_option linter.unusedSimpArgs false
/-- The places of a block's instructions from one on, with their types; of the blocks from one on. -/
def inPl (b i : Nat) : List InD → List (Nat × Nat × Int)
  | [] => []
  | d :: r => (b, i, d.ty) :: inPl b (i + 1) r
def blPl (b : Nat) : List (List InD) → List (Nat × Nat × Int)
  | [] => []
  | x :: r => inPl b 0 x ++ blPl (b + 1) r
/-- The place of a value, the first instruction's being n. -/
def dAt (v n : Int) : List (Nat × Nat × Int) → Int × Int
  | [] => (-1, -1)
  | (b, i, t) :: r => if t = 0 then dAt v n r else if n = v then (b, i) else dAt v (n + 1) r
theorem inPl_drop (b i : Nat) (xs : List InD) (h : i < xs.length) : inPl b i (xs.drop i) = (b, i, (xs[i]).ty) :: inPl b (i + 1) (xs.drop (i + 1)) := by
  rw [List.drop_eq_getElem_cons h]; rfl
theorem inPl_end (b i : Nat) (xs : List InD) (h : xs.length ≤ i) : inPl b i (xs.drop i) = [] := by
  rw [List.drop_eq_nil_of_le h]; rfl
theorem blPl_drop (b : Nat) (xs : List (List InD)) (h : b < xs.length) : blPl b (xs.drop b) = inPl b 0 ((xs[b]).drop 0) ++ blPl (b + 1) (xs.drop (b + 1)) := by
  rw [List.drop_eq_getElem_cons h]; rfl
theorem blPl_end (b : Nat) (xs : List (List InD)) (h : xs.length ≤ b) : blPl b (xs.drop b) = [] := by
  rw [List.drop_eq_nil_of_le h]; rfl
theorem inPl_len (b i : Nat) (xs : List InD) : (inPl b i xs).length = xs.length := by
  induction xs generalizing i with
  | nil => rfl
  | cons d r ih => simp only [inPl, List.length_cons, ih]
theorem blPl_len (b : Nat) (xs : List (List InD)) : ((blPl b xs).length : Int) ≤ blsN xs := by
  induction xs generalizing b with
  | nil => exact Int.le_refl _
  | cons d r ih =>
    have := ih (b + 1)
    have e : blsN (d :: r) = blN d + blsN r := by simp [blsN]
    have n0 := insN_nn d
    unfold blN at e
    simp only [blPl, List.length_append, inPl_len]
    omega
end Go.Proofs.Ytbfpfjkjeekbdaa
