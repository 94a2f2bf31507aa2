/- The packed texts Words1, Words2. -/
import Derived.Test.YtbnkbbcncloedaaGreatDoorRows
import Derived.WalkKit
import Derived.ProofKit
import Derived.OpenShut
import Derived.WalkLawsBesides
import Derived.Lib.LaidTab
import Derived.Below
import Derived.Laws.BitsAllLaws
import Derived.Test.YtbnkbbcncloedaaGreatDoorPk1
import Derived.Test.YtbnkbbcncloedaaGreatDoorPk3
import Derived.Test.YtbnkbbcncloedaaGreatDoorPk4
import Derived.Test.YtbnkbbcncloedaaGreatDoorPk5
import Derived.Test.YtbnkbbcncloedaaGreatDoorPk6
import Derived.Test.YtbnkbbcncloedaaGreatDoorPk7
namespace Go.Proofs.YtbnkbbcncloedaaGreatDoor
section
open Go.ChangeShapes Go.WideShapes Go.ChangeAt Go.RowKit

set_option linter.unusedVariables false

theorem mask1 (v : Int) (h0 : 0 ≤ v) (h1 : v ≤ 18446744073709551615) : bits .and .u64 v 1 = cutI 1 v := and_mask 1 (by decide) v 1 (by decide) h0 h1

theorem mask8 (v : Int) (h0 : 0 ≤ v) (h1 : v ≤ 18446744073709551615) : bits .and .u64 v 255 = cutI 8 v := and_mask 8 (by decide) v 255 (by decide) h0 h1

theorem mask16 (v : Int) (h0 : 0 ≤ v) (h1 : v ≤ 18446744073709551615) : bits .and .u64 v 65535 = cutI 16 v := and_mask 16 (by decide) v 65535 (by decide) h0 h1

theorem mask32 (v : Int) (h0 : 0 ≤ v) (h1 : v ≤ 18446744073709551615) : bits .and .u64 v 4294967295 = cutI 32 v := and_mask 32 (by decide) v 4294967295 (by decide) h0 h1

theorem mask64 (v : Int) (h0 : 0 ≤ v) (h1 : v ≤ 18446744073709551615) : bits .and .u64 v 18446744073709551615 = cutI 64 v := and_mask 64 (by decide) v 18446744073709551615 (by decide) h0 h1

set_option maxHeartbeats 1000000 in
theorem validWidthS_no (x : Int) (w : World) (hx : vw x = false) :
    Calls Tryz.prog 128 #[.int .i64 x] w fun e w' => e = .returned (.bool false) ∧ w' = w := by
  obtain ⟨n1, n2, n3, n4, n5⟩ := vw_not hx
  have e1 : (x == 1) = false := beq_eq_false_iff_ne.2 n1
  have e2 : (x == 8) = false := beq_eq_false_iff_ne.2 n2
  have e3 : (x == 16) = false := beq_eq_false_iff_ne.2 n3
  have e4 : (x == 32) = false := beq_eq_false_iff_ne.2 n4
  have e5 : (x == 64) = false := beq_eq_false_iff_ne.2 n5
  clear hx n1 n2 n3 n4 n5
  go_enter Tryz.func128, Tryz.ntmps128
  go_wp2
  go_ret
  exact ⟨rfl, rfl⟩

theorem validWidthS_yes (x : Int) (w : World) (hx : vw x = true) :
    Calls Tryz.prog 128 #[.int .i64 x] w fun e w' => e = .returned (.bool true) ∧ w' = w := by
  rcases vw_cases hx with rfl | rfl | rfl | rfl | rfl
  all_goals
    clear hx
    go_enter Tryz.func128, Tryz.ntmps128
    go_wp2
    go_ret
    exact ⟨rfl, rfl⟩

set_option maxHeartbeats 1000000 in
theorem cut_impl (x v : Int) (w : World) (hw : Wid w) (hx : vw x = true) (h0 : 0 ≤ v) (h1 : v ≤ 18446744073709551615) :
    Calls Tryz.prog 220 #[.int .i64 x, .int .u64 v] w fun e w' => e = .returned (.int .u64 (cutI x v)) ∧ w' = w := by
  rcases vw_cases hx with rfl | rfl | rfl | rfl | rfl
  all_goals
    clear hx
    go_enter Tryz.func220, Tryz.ntmps220
    go_wp2_with (first | (go_at_call 186; refine (validWidth_yes _ _ hw (by decide)).mono ?_; rintro e w' ⟨rfl, rfl⟩))
    go_ret
    refine ⟨ret_int ?_, rfl⟩
    first | exact mask1 v h0 h1 | exact mask8 v h0 h1 | exact mask16 v h0 h1 | exact mask32 v h0 h1 | exact mask64 v h0 h1

set_option maxHeartbeats 1000000 in
theorem cut_spec (x v : Int) (w : World) (hx : vw x = true) (h0 : 0 ≤ v) (h1 : v ≤ 18446744073709551615) :
    Calls Tryz.prog 182 #[.int .i64 x, .int .u64 v] w fun e w' => e = .returned (.int .u64 (cutI x v)) ∧ w' = w := by
  rcases vw_cases hx with rfl | rfl | rfl | rfl | rfl
  all_goals
    clear hx
    go_enter Tryz.func182, Tryz.ntmps182
    go_wp2
    go_ret
    refine ⟨ret_int ?_, rfl⟩
    first | exact mask1 v h0 h1 | exact mask8 v h0 h1 | exact mask16 v h0 h1 | exact mask32 v h0 h1 | exact mask64 v h0 h1
end
section
open Go.ChangeShapes Go.WideShapes Go.ChangeAt Go.RowKit

set_option linter.unusedVariables false

theorem cut_same {x v : Int} (h : isW x v = true) : cutI x v = v := by
  obtain ⟨h0, h1⟩ := isW_bd h
  unfold cutI
  exact Int.emod_eq_of_lt h0 h1

theorem cut_other {x v : Int} (hx : vw x = true) (h : isW x v = false) : ¬ cutI x v = v := by
  intro e
  have hp : (0 : Int) < 2 ^ x.toNat := Int.pow_pos (by decide)
  have h0 : 0 ≤ v % 2 ^ x.toNat := Int.emod_nonneg _ (by omega)
  have h1 : v % 2 ^ x.toNat < 2 ^ x.toNat := Int.emod_lt_of_pos _ hp
  unfold cutI at e
  rw [e] at h0 h1
  simp [isW, hx] at h
  omega

set_option maxHeartbeats 1000000 in
theorem isWord_yes (x v : Int) (w : World) (hw : Wid w) (h0 : 0 ≤ v) (h1 : v ≤ 18446744073709551615) (h : isW x v = true) :
    Calls Tryz.prog 206 #[.int .i64 x, .int .u64 v] w fun e w' => e = .returned (.bool true) ∧ w' = w := by
  have hx : Hid (vw x = true) := isW_vw h
  have hc : (cutI x v == v) = true := by simp [cut_same h]
  clear h
  go_enter Tryz.func206, Tryz.ntmps206
  go_wp2_with (first | (go_at_call 186; refine (validWidth_yes _ _ hw hx.out).mono ?_; rintro e w' ⟨rfl, rfl⟩) | (go_at_call 220; refine (cut_impl _ _ _ hw hx.out h0 h1).mono ?_; rintro e w' ⟨rfl, rfl⟩))
  go_ret
  exact ⟨rfl, rfl⟩

set_option maxHeartbeats 1000000 in
theorem isWord_no (x v : Int) (w : World) (hw : Wid w) (h0 : 0 ≤ v) (h1 : v ≤ 18446744073709551615) (h : isW x v = false) :
    Calls Tryz.prog 206 #[.int .i64 x, .int .u64 v] w fun e w' => e = .returned (.bool false) ∧ w' = w := by
  cases hv : vw x with
  | false =>
    have hx : Hid (vw x = false) := hv
    clear h hv
    go_enter Tryz.func206, Tryz.ntmps206
    go_wp2_with (first | (go_at_call 186; refine (validWidth_no _ _ hw hx.out).mono ?_; rintro e w' ⟨rfl, rfl⟩))
    go_ret
    exact ⟨rfl, rfl⟩
  | true =>
    have hx : Hid (vw x = true) := hv
    have hc : (cutI x v == v) = false := beq_eq_false_iff_ne.2 (cut_other hv h)
    clear h hv
    go_enter Tryz.func206, Tryz.ntmps206
    go_wp2_with (first | (go_at_call 186; refine (validWidth_yes _ _ hw hx.out).mono ?_; rintro e w' ⟨rfl, rfl⟩) | (go_at_call 220; refine (cut_impl _ _ _ hw hx.out h0 h1).mono ?_; rintro e w' ⟨rfl, rfl⟩))
    go_ret
    exact ⟨rfl, rfl⟩

set_option maxHeartbeats 1000000 in
theorem isS_yes (x v : Int) (w : World) (h0 : 0 ≤ v) (h1 : v ≤ 18446744073709551615) (h : isW x v = true) :
    Calls Tryz.prog 134 #[.int .i64 x, .int .u64 v] w fun e w' => e = .returned (.bool true) ∧ w' = w := by
  have hx : Hid (vw x = true) := isW_vw h
  have hc : (v == cutI x v) = true := by simp [cut_same h]
  clear h
  go_enter Tryz.func134, Tryz.ntmps134
  go_wp2_with (first | (go_at_call 128; refine (validWidthS_yes _ _ hx.out).mono ?_; rintro e w' ⟨rfl, rfl⟩) | (go_at_call 182; refine (cut_spec _ _ _ hx.out h0 h1).mono ?_; rintro e w' ⟨rfl, rfl⟩))
  go_ret
  exact ⟨rfl, rfl⟩

set_option maxHeartbeats 1000000 in
theorem isS_no (x v : Int) (w : World) (h0 : 0 ≤ v) (h1 : v ≤ 18446744073709551615) (h : isW x v = false) :
    Calls Tryz.prog 134 #[.int .i64 x, .int .u64 v] w fun e w' => e = .returned (.bool false) ∧ w' = w := by
  cases hv : vw x with
  | false =>
    have hx : Hid (vw x = false) := hv
    clear h hv
    go_enter Tryz.func134, Tryz.ntmps134
    go_wp2_with (first | (go_at_call 128; refine (validWidthS_no _ _ hx.out).mono ?_; rintro e w' ⟨rfl, rfl⟩))
    go_ret
    exact ⟨rfl, rfl⟩
  | true =>
    have hx : Hid (vw x = true) := hv
    have hc : (v == cutI x v) = false := beq_eq_false_iff_ne.2 (fun e => cut_other hv h e.symm)
    clear h hv
    go_enter Tryz.func134, Tryz.ntmps134
    go_wp2_with (first | (go_at_call 128; refine (validWidthS_yes _ _ hx.out).mono ?_; rintro e w' ⟨rfl, rfl⟩) | (go_at_call 182; refine (cut_spec _ _ _ hx.out h0 h1).mono ?_; rintro e w' ⟨rfl, rfl⟩))
    go_ret
    exact ⟨rfl, rfl⟩
end
end Go.Proofs.YtbnkbbcncloedaaGreatDoor
