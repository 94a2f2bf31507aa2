/- Contracts over one translation: Cut, isWord, Signed of the program and Cut, l1Is, Signed, l1Mask, l1Top of its specification answer what the plain functions cutI, isW, sgnI say, at every argument. -/
import Derived.Test.YtedlghmjfaflcabDoorBase
namespace Go.Proofs.YtedlghmjfaflcabDoor
open Go.ChangeShapes Go.WideShapes Go.ChangeAt Go.RowKit
set_option linter.unusedVariables false

theorem mask1 (v : Int) (h0 : 0 ≤ v) (h1 : v ≤ 18446744073709551615) : bits .and .u64 v 1 = cutI 1 v := and_mask 1 (by decide) v 1 (by decide) h0 h1
theorem mask8 (v : Int) (h0 : 0 ≤ v) (h1 : v ≤ 18446744073709551615) : bits .and .u64 v 255 = cutI 8 v := and_mask 8 (by decide) v 255 (by decide) h0 h1
theorem mask16 (v : Int) (h0 : 0 ≤ v) (h1 : v ≤ 18446744073709551615) : bits .and .u64 v 65535 = cutI 16 v := and_mask 16 (by decide) v 65535 (by decide) h0 h1
theorem mask32 (v : Int) (h0 : 0 ≤ v) (h1 : v ≤ 18446744073709551615) : bits .and .u64 v 4294967295 = cutI 32 v := and_mask 32 (by decide) v 4294967295 (by decide) h0 h1
theorem mask64 (v : Int) (h0 : 0 ≤ v) (h1 : v ≤ 18446744073709551615) : bits .and .u64 v 18446744073709551615 = cutI 64 v := and_mask 64 (by decide) v 18446744073709551615 (by decide) h0 h1
set_option maxHeartbeats 1000000 in
theorem validWidthS_no (x : Int) (w : World) (hx : vw x = false) :
    Calls Tryd.prog 16 #[.int .i64 x] w fun e w' => e = .returned (.bool false) ∧ w' = w := by
  obtain ⟨n1, n2, n3, n4, n5⟩ := vw_not hx
  have e1 : (x == 1) = false := beq_eq_false_iff_ne.2 n1
  have e2 : (x == 8) = false := beq_eq_false_iff_ne.2 n2
  have e3 : (x == 16) = false := beq_eq_false_iff_ne.2 n3
  have e4 : (x == 32) = false := beq_eq_false_iff_ne.2 n4
  have e5 : (x == 64) = false := beq_eq_false_iff_ne.2 n5
  clear hx n1 n2 n3 n4 n5
  go_enter Tryd.func16, Tryd.ntmps16
  go_wp2
  go_ret
  exact ⟨rfl, rfl⟩
theorem validWidthS_yes (x : Int) (w : World) (hx : vw x = true) :
    Calls Tryd.prog 16 #[.int .i64 x] w fun e w' => e = .returned (.bool true) ∧ w' = w := by
  rcases vw_cases hx with rfl | rfl | rfl | rfl | rfl
  all_goals
    clear hx
    go_enter Tryd.func16, Tryd.ntmps16
    go_wp2
    go_ret
    exact ⟨rfl, rfl⟩
theorem ret_int {k : IntKind} {a b : Int} (h : a = b) : Ending.returned (.int k a) = .returned (.int k b) := by rw [h]

set_option maxHeartbeats 1000000 in
theorem cut_impl (x v : Int) (w : World) (hw : Wid w) (hx : vw x = true) (h0 : 0 ≤ v) (h1 : v ≤ 18446744073709551615) :
    Calls Tryd.prog 8 #[.int .i64 x, .int .u64 v] w fun e w' => e = .returned (.int .u64 (cutI x v)) ∧ w' = w := by
  rcases vw_cases hx with rfl | rfl | rfl | rfl | rfl
  all_goals
    clear hx
    go_enter Tryd.func8, Tryd.ntmps8
    go_wp2_with (first | (go_at_call 18; refine (validWidth_yes _ _ hw (by decide)).mono ?_; rintro e w' ⟨rfl, rfl⟩))
    go_ret
    refine ⟨ret_int ?_, rfl⟩
    first | exact mask1 v h0 h1 | exact mask8 v h0 h1 | exact mask16 v h0 h1 | exact mask32 v h0 h1 | exact mask64 v h0 h1
set_option maxHeartbeats 1000000 in
theorem cut_impl_no (x v : Int) (w : World) (hw : Wid w) (hx : vw x = false) :
    Calls Tryd.prog 8 #[.int .i64 x, .int .u64 v] w fun e w' => e = .returned (.int .u64 0) ∧ w' = w := by
  have H : Hid (vw x = false) := hx
  clear hx
  go_enter Tryd.func8, Tryd.ntmps8
  go_wp2_with (first | (go_at_call 18; refine (validWidth_no _ _ hw H.out).mono ?_; rintro e w' ⟨rfl, rfl⟩))
  go_ret
  exact ⟨rfl, rfl⟩
set_option maxHeartbeats 1000000 in
theorem cut_spec (x v : Int) (w : World) (hx : vw x = true) (h0 : 0 ≤ v) (h1 : v ≤ 18446744073709551615) :
    Calls Tryd.prog 7 #[.int .i64 x, .int .u64 v] w fun e w' => e = .returned (.int .u64 (cutI x v)) ∧ w' = w := by
  rcases vw_cases hx with rfl | rfl | rfl | rfl | rfl
  all_goals
    clear hx
    go_enter Tryd.func7, Tryd.ntmps7
    go_wp2
    go_ret
    refine ⟨ret_int ?_, rfl⟩
    first | exact mask1 v h0 h1 | exact mask8 v h0 h1 | exact mask16 v h0 h1 | exact mask32 v h0 h1 | exact mask64 v h0 h1
set_option maxHeartbeats 1000000 in
theorem cut_spec_no (x v : Int) (w : World) (hx : vw x = false) :
    Calls Tryd.prog 7 #[.int .i64 x, .int .u64 v] w fun e w' => e = .returned (.int .u64 0) ∧ w' = w := by
  have H : Hid (vw x = false) := hx
  clear hx
  go_enter Tryd.func7, Tryd.ntmps7
  go_wp2_with (first | (go_at_call 16; refine (validWidthS_no _ _ H.out).mono ?_; rintro e w' ⟨rfl, rfl⟩))
  go_ret
  exact ⟨rfl, rfl⟩
/-- THE LAW OF Cut. -/
theorem cut_law (a0 a1 : Int) (w0 : (Lit.int .i64 a0).wf = true) (w1 : (Lit.int .u64 a1).wf = true) (w : World) (hw : Wid w) :
    Calls Tryd.prog 3 #[.int .i64 a0, .int .u64 a1] w fun e w' => e = .returned (.bool true) ∧ Below w.heap.size w w' := by
  have b := bounds_u64 w1
  cases hx : vw a0 with
  | true =>
    have H : Hid (vw a0 = true) := hx
    clear hx w0 w1
    go_enter Tryd.func3, Tryd.ntmps3
    go_wp2_with (first | (go_at_call 8; refine (cut_impl _ _ _ hw H.out (by omega) (by omega)).mono ?_; rintro e w' ⟨rfl, rfl⟩) | (go_at_call 7; refine (cut_spec _ _ _ H.out (by omega) (by omega)).mono ?_; rintro e w' ⟨rfl, rfl⟩))
    go_ret
    exact ⟨rfl, Below.refl _ _⟩
  | false =>
    have H : Hid (vw a0 = false) := hx
    clear hx w0 w1
    go_enter Tryd.func3, Tryd.ntmps3
    go_wp2_with (first | (go_at_call 8; refine (cut_impl_no _ _ _ hw H.out).mono ?_; rintro e w' ⟨rfl, rfl⟩) | (go_at_call 7; refine (cut_spec_no _ _ _ H.out).mono ?_; rintro e w' ⟨rfl, rfl⟩))
    go_ret
    exact ⟨rfl, Below.refl _ _⟩
end Go.Proofs.YtedlghmjfaflcabDoor
