/- The types of a function's values: the specification's answer. -/
import Derived.Test.YtoajibpconhkdaaApn
namespace Go.Proofs.Ytoajibpconhkdaa
open Go.ChangeShapes Go.WideShapes Go.ChangeAt Go.RowKit
set_option linter.unusedVariables false
set_option linter.unusedSimpArgs false
/-- The types that are told, in order. -/
def tysOf : List (Nat × Nat × Int) → List Int
  | [] => []
  | (_, _, t) :: r => if t = 0 then tysOf r else t :: tysOf r
theorem tysOf_app (a b : List (Nat × Nat × Int)) : tysOf (a ++ b) = tysOf a ++ tysOf b := by
  induction a with
  | nil => rfl
  | cons x r ih =>
    obtain ⟨p, q, t⟩ := x
    simp only [List.cons_append, tysOf, ih]
    split <;> rfl
theorem tysOf_len (a : List (Nat × Nat × Int)) : (tysOf a).length ≤ a.length := by
  induction a with
  | nil => exact Nat.le_refl _
  | cons x r ih =>
    obtain ⟨p, q, t⟩ := x
    simp only [tysOf]
    split <;> simp only [List.length_cons] <;> omega
theorem info64 : (Try.prog.info? 2).map (fun i => (i.zero, i.size, i.bytes)) = some (some (.int .i64 0), 1, 8) := by kernel_rfl
/-- A row of whole numbers that a call owns. -/
structure OwnI (w : World) (base : Nat) (v : Value) (xs : List Int) : Prop where
  r : w.ownsRow base 2 1 v xs.length (xs.map (Value.int .i64))
theorem OwnI.ints {w : World} {base : Nat} {v : Value} {xs : List Int} (h : OwnI w base v xs) (hn : xs.length ≤ 1048576) : Ints base .i64 w v xs := by
  obtain ⟨hl, h0 | ⟨g, cap, cur, rfl, hb, hg, h1, h2, h3, h4⟩⟩ := h.r
  · obtain ⟨rfl, h0⟩ := h0
    obtain rfl : xs = [] := List.length_eq_zero_iff.1 h0
    exact ⟨base, 0, ⟨⟨none, 0, rfl, Nat.le_refl _, fun h => absurd h (by simp)⟩, by simp⟩, Nat.le_refl _, fun i hi => by simp at hi⟩
  · refine ⟨g, 0, ⟨⟨_, _, rfl, h1, fun _ => rfl⟩, by omega⟩, hb, fun i hi => ?_⟩
    refine at_cells hg ?_
    have : (cur.toList.take (xs.length * 1))[i]? = some (.int .i64 xs[i]) := by rw [h4]; simp [hi]
    rw [List.getElem?_take] at this
    split at this
    · simpa using this
    · cases this
theorem OwnI.keep {w w' : World} {base : Nat} {v : Value} {xs : List Int} (h : OwnI w base v xs) (hb : Below w.heap.size w w') : OwnI w' base v xs := by
  refine ⟨h.r.1, ?_⟩
  rcases h.r.2 with h0 | ⟨g, cap, cur, rfl, hb1, hg, rest⟩
  · exact .inl h0
  · exact .inr ⟨g, cap, cur, rfl, hb1, keep_cells' hg hb, rest⟩
where keep_cells' {w w' : World} {b : Nat} {o : Obj} (h : w.heap[b]? = some o) (hb : Below w.heap.size w w') : w'.heap[b]? = some o := (hb.block b (Array.getElem?_eq_some_iff.1 h).1).trans h
theorem Joins_le {w : World} {base size n : Nat} {e : TypeId} {v : Value} {xs : List Value} (h : w.ownsRow (base + 1) e size v n xs) : w.ownsRow base e size v n xs :=
  ⟨h.1, h.2.elim Or.inl (fun ⟨g, cap, cur, hv, hg, r⟩ => Or.inr ⟨g, cap, cur, hv, by omega, r⟩)⟩
theorem OwnI.own {w : World} {base : Nat} {v : Value} {xs : List Int} (h : OwnI w base v xs) (hn : xs.length ≤ 1048576) (h0 : 0 < xs.length) : ∃ B, Own64 w v xs.length B 0 ∧ base ≤ B := by
  obtain ⟨hl, q | ⟨g, cap, cur, rfl, hb, hg, h1, h2, h3, h4⟩⟩ := h.r
  · omega
  · exact ⟨g, ⟨⟨⟨_, _, rfl, h1, fun _ => rfl⟩, by omega⟩, cap * 1, ⟨2, fun j => cur.getD j undef, cur, hg, h3, fun i hi => by simp [Array.getD, show i < cur.size by omega]⟩, by omega⟩, hb⟩
end Go.Proofs.Ytoajibpconhkdaa
