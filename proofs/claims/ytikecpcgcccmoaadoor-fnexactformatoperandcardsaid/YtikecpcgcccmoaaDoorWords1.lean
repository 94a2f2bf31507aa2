/- Contracts over one translation: Cut, isWord, Signed of the program and Cut, l1Is, Signed, l1Mask, l1Top of its specification answer what the plain functions cutI, isW, sgnI say, at every argument. -/
import Derived.Test.YtikecpcgcccmoaaDoorBase
namespace Go.Proofs.YtikecpcgcccmoaaDoor
open Go.ChangeShapes Go.WideShapes Go.ChangeAt Go.RowKit
set_option linter.unusedVariables false

theorem mask1 (v : Int) (h0 : 0 ≤ v) (h1 : v ≤ 18446744073709551615) : bits .and .u64 v 1 = cutI 1 v := and_mask 1 (by decide) v 1 (by decide) h0 h1
theorem mask8 (v : Int) (h0 : 0 ≤ v) (h1 : v ≤ 18446744073709551615) : bits .and .u64 v 255 = cutI 8 v := and_mask 8 (by decide) v 255 (by decide) h0 h1
theorem mask16 (v : Int) (h0 : 0 ≤ v) (h1 : v ≤ 18446744073709551615) : bits .and .u64 v 65535 = cutI 16 v := and_mask 16 (by decide) v 65535 (by decide) h0 h1
theorem mask32 (v : Int) (h0 : 0 ≤ v) (h1 : v ≤ 18446744073709551615) : bits .and .u64 v 4294967295 = cutI 32 v := and_mask 32 (by decide) v 4294967295 (by decide) h0 h1
theorem mask64 (v : Int) (h0 : 0 ≤ v) (h1 : v ≤ 18446744073709551615) : bits .and .u64 v 18446744073709551615 = cutI 64 v := and_mask 64 (by decide) v 18446744073709551615 (by decide) h0 h1
set_option maxHeartbeats 1000000 in
theorem validWidthS_no (x : Int) (w : World) (hx : vw x = false) :
    Calls Tryd.prog 38 #[.int .i64 x] w fun e w' => e = .returned (.bool false) ∧ w' = w := by
  obtain ⟨n1, n2, n3, n4, n5⟩ := vw_not hx
  have e1 : (x == 1) = false := beq_eq_false_iff_ne.2 n1
  have e2 : (x == 8) = false := beq_eq_false_iff_ne.2 n2
  have e3 : (x == 16) = false := beq_eq_false_iff_ne.2 n3
  have e4 : (x == 32) = false := beq_eq_false_iff_ne.2 n4
  have e5 : (x == 64) = false := beq_eq_false_iff_ne.2 n5
  clear hx n1 n2 n3 n4 n5
  go_enter Tryd.func38, Tryd.ntmps38
  go_wp2
  go_ret
  exact ⟨rfl, rfl⟩
theorem validWidthS_yes (x : Int) (w : World) (hx : vw x = true) :
    Calls Tryd.prog 38 #[.int .i64 x] w fun e w' => e = .returned (.bool true) ∧ w' = w := by
  rcases vw_cases hx with rfl | rfl | rfl | rfl | rfl
  all_goals
    clear hx
    go_enter Tryd.func38, Tryd.ntmps38
    go_wp2
    go_ret
    exact ⟨rfl, rfl⟩
theorem ret_int {k : IntKind} {a b : Int} (h : a = b) : Ending.returned (.int k a) = .returned (.int k b) := by rw [h]

set_option maxHeartbeats 1000000 in
theorem cut_impl (x v : Int) (w : World) (hw : Wid w) (hx : vw x = true) (h0 : 0 ≤ v) (h1 : v ≤ 18446744073709551615) :
    Calls Tryd.prog 46 #[.int .i64 x, .int .u64 v] w fun e w' => e = .returned (.int .u64 (cutI x v)) ∧ w' = w := by
  rcases vw_cases hx with rfl | rfl | rfl | rfl | rfl
  all_goals
    clear hx
    go_enter Tryd.func46, Tryd.ntmps46
    go_wp2_with (first | (go_at_call 45; refine (validWidth_yes _ _ hw (by decide)).mono ?_; rintro e w' ⟨rfl, rfl⟩))
    go_ret
    refine ⟨ret_int ?_, rfl⟩
    first | exact mask1 v h0 h1 | exact mask8 v h0 h1 | exact mask16 v h0 h1 | exact mask32 v h0 h1 | exact mask64 v h0 h1
set_option maxHeartbeats 1000000 in
theorem cut_impl_no (x v : Int) (w : World) (hw : Wid w) (hx : vw x = false) :
    Calls Tryd.prog 46 #[.int .i64 x, .int .u64 v] w fun e w' => e = .returned (.int .u64 0) ∧ w' = w := by
  have H : Hid (vw x = false) := hx
  clear hx
  go_enter Tryd.func46, Tryd.ntmps46
  go_wp2_with (first | (go_at_call 45; refine (validWidth_no _ _ hw H.out).mono ?_; rintro e w' ⟨rfl, rfl⟩))
  go_ret
  exact ⟨rfl, rfl⟩
set_option maxHeartbeats 1000000 in
theorem cut_spec (x v : Int) (w : World) (hx : vw x = true) (h0 : 0 ≤ v) (h1 : v ≤ 18446744073709551615) :
    Calls Tryd.prog 39 #[.int .i64 x, .int .u64 v] w fun e w' => e = .returned (.int .u64 (cutI x v)) ∧ w' = w := by
  rcases vw_cases hx with rfl | rfl | rfl | rfl | rfl
  all_goals
    clear hx
    go_enter Tryd.func39, Tryd.ntmps39
    go_wp2
    go_ret
    refine ⟨ret_int ?_, rfl⟩
    first | exact mask1 v h0 h1 | exact mask8 v h0 h1 | exact mask16 v h0 h1 | exact mask32 v h0 h1 | exact mask64 v h0 h1
set_option maxHeartbeats 1000000 in
theorem cut_spec_no (x v : Int) (w : World) (hx : vw x = false) :
    Calls Tryd.prog 39 #[.int .i64 x, .int .u64 v] w fun e w' => e = .returned (.int .u64 0) ∧ w' = w := by
  have H : Hid (vw x = false) := hx
  clear hx
  go_enter Tryd.func39, Tryd.ntmps39
  go_wp2_with (first | (go_at_call 38; refine (validWidthS_no _ _ H.out).mono ?_; rintro e w' ⟨rfl, rfl⟩))
  go_ret
  exact ⟨rfl, rfl⟩
end Go.Proofs.YtikecpcgcccmoaaDoor
