/- Products of 64 bits by the library's function. -/
import Derived.Test.YtbfpfjkjeekbdaaDp1
import Derived.Laws.MathBits
import Derived.Shelf.Spec.BitsCarry
namespace Go.Proofs.Ytbfpfjkjeekbdaa
open Go.ChangeShapes Go.WideShapes Go.ChangeAt Go.RowKit
set_option linter.unusedVariables false
set_option linter.unusedSimpArgs false
def mLo (T : Int) : Int := T % 18446744073709551616
theorem wrapU_bd (n : Int) : 0 ≤ IntKind.u64.wrap n ∧ IntKind.u64.wrap n ≤ 18446744073709551615 := by rw [IntKind.wrap_u64]; omega
theorem and_32 (z : Int) (h0 : 0 ≤ z) (h1 : z ≤ 18446744073709551615) : bits .and .u64 z 4294967295 = z % 4294967296 := and_low32 z h0 (by omega)
set_option maxHeartbeats 1000000 in
theorem mul64_any (a c : Int) (w : World) (a0 : 0 ≤ a) (c0 : 0 ≤ c) (a1 : a ≤ 18446744073709551615) (c1 : c ≤ 18446744073709551615) :
    Calls Try.prog 88 #[.int .u64 a, .int .u64 c] w fun e w' => e = .returned (.tuple #[.int .u64 (a * c / 18446744073709551616), .int .u64 (mLo (a * c))]) ∧ w' = w := by
  have H := mul64_arith a c a0 (by omega) c0 (by omega)
  have H' : Hid _ := H
  clear H
  go_enter Try.func88, Try.ntmps88
  go_wp2_with fail
  go_ret2
  refine ⟨?_, rfl⟩
  have A1 := and_32 a a0 a1
  have C1 := and_32 c c0 c1
  simp only [A1, C1]
  rw [and_32 _ (wrapU_bd _).1 (wrapU_bd _).2]
  simp only [IntKind.wrap_u64]
  rw [H'.out]
  rfl
theorem mul_any (a c : Int) (w : World) (a0 : 0 ≤ a) (c0 : 0 ≤ c) (a1 : a ≤ 18446744073709551615) (c1 : c ≤ 18446744073709551615) :
    Calls Try.prog 72 #[.int .u64 a, .int .u64 c] w fun e w' => e = .returned (.tuple #[.int .u64 (a * c / 18446744073709551616), .int .u64 (mLo (a * c))]) ∧ w' = w := by
  have M := Kp.mk (mul64_any a c w a0 c0 a1 c1)
  generalize a * c / 18446744073709551616 = H at *
  generalize mLo (a * c) = L at *
  go_enter Try.func72, Try.ntmps72
  go_wp2_with fail
  refine M.out.mono ?_
  rintro e w1 ⟨rfl, rfl⟩
  go_wp2_with fail
  go_ret2
  exact ⟨rfl, rfl⟩
end Go.Proofs.Ytbfpfjkjeekbdaa
