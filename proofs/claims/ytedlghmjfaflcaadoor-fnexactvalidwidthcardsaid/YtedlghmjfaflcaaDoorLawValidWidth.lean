/- Over one translation: at every argument the law that compares ValidWidth with its specification answers true and turns nothing that was there. -/
import Derived.Test.YtedlghmjfaflcaaDoorWords1
namespace Go.Proofs.YtedlghmjfaflcaaDoor
open Go.ChangeShapes Go.WideShapes Go.ChangeAt Go.RowKit
set_option linter.unusedVariables false
set_option maxHeartbeats 1000000 in
theorem validWidth_law (a0 : Int) (w0 : (Lit.int .i64 a0).wf = true) (w : World) (hw : Wid w) :
    Calls Tryd.prog 8 #[.int .i64 a0] w fun e w' => e = .returned (.bool true) ∧ Below w.heap.size w w' := by
  clear w0
  cases hx : vw a0 with
  | true =>
    have H : Hid (vw a0 = true) := hx
    clear hx
    go_enter Tryd.func8, Tryd.ntmps8
    go_wp2_with (first | (go_at_call 26; refine (validWidth_yes _ _ hw H.out).mono ?_; rintro e w' ⟨rfl, rfl⟩) | (go_at_call 25; refine (validWidthS_yes _ _ H.out).mono ?_; rintro e w' ⟨rfl, rfl⟩))
    go_ret
    exact ⟨rfl, Below.refl _ _⟩
  | false =>
    have H : Hid (vw a0 = false) := hx
    clear hx
    go_enter Tryd.func8, Tryd.ntmps8
    go_wp2_with (first | (go_at_call 26; refine (validWidth_no _ _ hw H.out).mono ?_; rintro e w' ⟨rfl, rfl⟩) | (go_at_call 25; refine (validWidthS_no _ _ H.out).mono ?_; rintro e w' ⟨rfl, rfl⟩))
    go_ret
    exact ⟨rfl, Below.refl _ _⟩
end Go.Proofs.YtedlghmjfaflcaaDoor
