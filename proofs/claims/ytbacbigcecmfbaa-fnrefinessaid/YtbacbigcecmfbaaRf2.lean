/- What a run may stand for: the specification's and the program's. -/
import Derived.Test.YtbacbigcecmfbaaRf1
import Derived.Lib.MinMax
import Derived.Deep.DeepFit
namespace Go.Proofs.Ytbacbigcecmfbaa
open Go.ChangeShapes Go.WideShapes Go.ChangeAt Go.RowKit
open Go.Sort (grow)
set_option linter.unusedVariables false
set_option linter.unusedSimpArgs false
theorem Ints.slice {lo : Nat} {k : IntKind} {w : World} {v : Value} {xs : List Int} (h : Ints lo k w v xs) : ∃ a cap, v = .slice a xs.length cap ∧ xs.length ≤ cap ∧ xs.length ≤ 140737488355328 := by
  obtain ⟨b, o, ⟨⟨a, cap, rfl, h1, h2⟩, h3⟩, -, hc⟩ := h.ex
  exact ⟨a, cap, rfl, h1, h3⟩
theorem Ints.cut {lo : Nat} {k : IntKind} {w : World} {a : Option Addr} {cap : Nat} {xs : List Int} (h : Ints lo k w (.slice a xs.length cap) xs) (m : Nat) (hm : m ≤ xs.length) : Ints lo k w (.slice a m cap) (xs.take m) := by
  obtain ⟨b, o, ⟨⟨a', cap', e, h1, h2⟩, h3⟩, h4, hc⟩ := h.ex
  injection e with e1 e2 e3
  subst e1
  subst e3
  have e : (xs.take m).length = m := by simp; omega
  refine ⟨b, o, ⟨⟨a, cap, by rw [e], by omega, fun q => h2 (by omega)⟩, by omega⟩, h4, fun i hi => ?_⟩
  rw [List.getElem_take]
  exact hc i (by rw [e] at hi; omega)
/-- Whether the one value may be the other one. -/
def mayB (p : Bool) (o x : Int) (p' : Bool) (o' x' : Int) : Bool := p || o != 0 || (p == p' && o == o' && x == x')
/-- Whether the one run may stand for the other one. -/
def refB (e : Int) (p : Bool) (o x : Int) (xs : List Int) (e' : Int) (p' : Bool) (o' x' : Int) (ys : List Int) : Bool :=
  if e = 7 then true else if 2 ≤ e ∧ e ≤ 6 then begB xs ys || begB ys xs else decide (e = e') && decide (xs = ys) && mayB p o x p' o' x'
set_option maxRecDepth 100000 in
set_option maxHeartbeats 4000000 in
theorem mayI (p p' : Bool) (o x o' x' : Int) (w : World) :
    Calls Try.prog 16 #[.agg #[.bool p, .int .i64 o, .int .u64 x], .agg #[.bool p', .int .i64 o', .int .u64 x']] w fun e w' => e = .returned (.bool (mayB p o x p' o' x')) ∧ Below w.heap.size w w' := by
  go_enter Try.func16, Try.ntmps16
  go_wp2_with fail
  all_goals
    go_ret
    refine ⟨?_, bel_trans (bel_alloc _ _) (bel_alloc _ _)⟩
    simp_all [mayB]
end Go.Proofs.Ytbacbigcecmfbaa
