/- Texts of one claim. -/
import Derived.Test.YtgdcgjlmkmdklaaGreatDoorPk16
import Derived.Test.YtgdcgjlmkmdklaaGreatDoorPk17
namespace Go.Proofs.YtgdcgjlmkmdklaaGreatDoor
open Go.ChangeShapes Go.WideShapes Go.ChangeAt Go.RowKit
set_option linter.unusedVariables false
theorem l2Head (gs : List GlD) (fs : List FnD) (vg vf : Value) (f : FnD) (vp vb : Value) (bk : Int) (x : InD) (va vl vs : Value) (w : World) {lo : Nat} (hm : MoAt lo w gs fs vg vf) (hp : ∃ a n c, vp = .slice a n c) (hb : ∃ a n c, vb = .slice a n c) (hx : InV lo w va vl vs x) :
  Calls Tryz.prog 88 #[moV vg vf, fnV f vp vb, .int .i64 bk, inV x va vl vs] w fun e w' => e = .returned (.bool (hdB fs bk x)) ∧ Below w.heap.size w w' := by
 by_cases h : ¬ (0 ≤ x.fl) ∨ ¬ (bits .andNot .i64 x.fl (flgs x.op) = 0) ∨ (¬ x.op = 14 ∧ ¬ x.pr = 0) ∨ (¬ x.op = 25 ∧ ¬ x.ca = 0) ∨ (¬ x.op = 21 ∧ ¬ x.sz = 0) ∨ (¬ x.op = 29 ∧ ¬ x.ws.length = 0)
 ·exact l2HeadNo gs fs vg vf f vp vb bk x va vl vs w hm hp hb hx h
 ·have hA : 0 ≤ x.fl := by
   rcases Int.decLe 0 x.fl with q | q
   ·exact absurd (.inl q) h
   ·exact q
  have hB : bits .andNot .i64 x.fl (flgs x.op) = 0 := Decidable.byContradiction fun q => h (.inr (.inl q))
  have hC : x.op = 14 ∨ x.pr = 0 := by
   by_cases q : x.op = 14
   ·exact .inl q
   ·exact .inr (Decidable.byContradiction fun r => h (.inr (.inr (.inl ⟨q, r⟩))))
  have hD : x.op = 25 ∨ x.ca = 0 := by
   by_cases q : x.op = 25
   ·exact .inl q
   ·exact .inr (Decidable.byContradiction fun r => h (.inr (.inr (.inr (.inl ⟨q, r⟩)))))
  have hE : x.op = 21 ∨ x.sz = 0 := by
   by_cases q : x.op = 21
   ·exact .inl q
   ·exact .inr (Decidable.byContradiction fun r => h (.inr (.inr (.inr (.inr (.inl ⟨q, r⟩))))))
  have hG : x.op = 29 ∨ x.ws.length = 0 := by
   by_cases q : x.op = 29
   ·exact .inl q
   ·exact .inr (Decidable.byContradiction fun r => h (.inr (.inr (.inr (.inr (.inr ⟨q, r⟩))))))
  by_cases hop : x.op = 14 ∨ x.op = 21 ∨ x.op = 25 ∨ x.op = 29
  ·exact l2HeadYesA gs fs vg vf f vp vb bk x va vl vs w hm hp hb hx hA hB hC hD hE hG hop
  ·exact l2HeadYesB gs fs vg vf f vp vb bk x va vl vs w hm hp hb hx hA hB hC hD hE hG hop
end Go.Proofs.YtgdcgjlmkmdklaaGreatDoor
