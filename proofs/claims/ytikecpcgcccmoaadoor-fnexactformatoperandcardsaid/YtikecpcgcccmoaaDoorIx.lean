/- Is it an index: the program's answer. -/
import Derived.Test.YtikecpcgcccmoaaDoorDp1
namespace Go.Proofs.YtikecpcgcccmoaaDoor
open Go.ChangeShapes Go.WideShapes Go.ChangeAt Go.RowKit
set_option linter.unusedVariables false
set_option linter.unusedSimpArgs false
/-- Is it an index of so many? -/
def isIx (n : Int) (m : Nat) : Bool := decide (0 ≤ n) && decide (n < m)
set_option maxHeartbeats 1000000 in
theorem isIx_e (n : Int) (m : Nat) (w : World) (hm : m ≤ 140737488355328) :
    Calls Tryd.prog 18 #[.int .i64 n, .int .i64 m] w fun e w' => e = .returned (.bool (isIx n m)) ∧ w' = w := by
  have g1 : (m : Int) ≤ 140737488355328 := by omega
  unfold isIx
  by_cases h0 : 0 ≤ n
  · by_cases h1 : n < m
    · go_enter Tryd.func18, Tryd.ntmps18
      go_wp2_with fail
      go_ret
      exact ⟨by simp [h0, h1], rfl⟩
    · go_enter Tryd.func18, Tryd.ntmps18
      go_wp2_with fail
      go_ret
      exact ⟨by simp [h0, h1], rfl⟩
  · go_enter Tryd.func18, Tryd.ntmps18
    go_wp2_with fail
    go_ret
    exact ⟨by simp; omega, rfl⟩
theorem isIx_c (n : Int) (m : Nat) (w : World) (hm : m ≤ 140737488355328) :
    Calls Tryd.prog 18 #[.int .i64 n, .int .i64 m] w fun e w' => e = .returned (.bool (isIx n m)) ∧ Below w.heap.size w w' :=
  (isIx_e n m w hm).mono (fun _ _ h => ⟨h.1, by rw [h.2]; exact Below.refl _ _⟩)
end Go.Proofs.YtikecpcgcccmoaaDoor
