/- A row that a call owns, and a copied function that is marked (in a seat without ValueTypes; else Vt4 says the same). -/
import Derived.Test.YtoajibpconhkdaaVt2
import Derived.Deep.RegionHeld3
namespace Go.Proofs.Ytoajibpconhkdaa
open Go.ChangeShapes Go.WideShapes Go.ChangeAt Go.RowKit
set_option linter.unusedVariables false
set_option linter.unusedSimpArgs false
theorem OwnI.mkd {w w' : World} {lo E base : Nat} {v : Value} {xs : List Int} (h : OwnI w base v xs) (m : Mk lo E w w') (hb : E ≤ base) : OwnI w' base v xs := by
  refine ⟨h.r.1, ?_⟩
  rcases h.r.2 with h0 | ⟨g, cap, cur, rfl, hb1, hg, rest⟩
  · exact .inl h0
  · exact .inr ⟨g, cap, cur, rfl, hb1, (m.hi g (by omega)).trans hg, rest⟩
/-- The copied function, marked: what lies ahead of it is as it was, and so is what a later call owns. -/
structure Mkd (lo E : Nat) (w w' : World) : Prop where
  bel : Below lo w w'
  own : ∀ base v xs, OwnI w base v xs → E ≤ base → base ≤ w.heap.size → OwnI w' base v xs
theorem mkd_of {lo E : Nat} {w W w' : World} (h : Below w.heap.size w W) (m : Mk lo E W w') (hl : lo ≤ w.heap.size) : Mkd lo E w w' :=
  ⟨(h.mono hl).trans m.bel, fun base v xs o hb _ => (o.keep h).mkd m hb⟩
end Go.Proofs.Ytoajibpconhkdaa
