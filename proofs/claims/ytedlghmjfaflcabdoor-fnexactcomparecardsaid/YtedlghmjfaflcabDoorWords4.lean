/- Contracts over one translation: Compare of the program, Compare of its specification, and the law that compares their answers: all say what the plain function cmpI says, at every argument. -/
import Derived.Test.YtedlghmjfaflcabDoorWords3
import Derived.Deep.RegionWith
namespace Go.Proofs.YtedlghmjfaflcabDoor
open Go.ChangeShapes Go.WideShapes Go.ChangeAt Go.RowKit
set_option linter.unusedVariables false

theorem isWordI (x v : Int) (w : World) (hw : Wid w) (h : isW x v = true) :
    Calls Tryd.prog 21 #[.int .i64 x, .int .u64 v] w fun e w' => e = .returned (.bool true) ∧ w' = w :=
  isWord_yes x v w hw (u64_le h).1 (u64_le h).2 h
theorem isWordS (x v : Int) (w : World) (h : isW x v = true) :
    Calls Tryd.prog 19 #[.int .i64 x, .int .u64 v] w fun e w' => e = .returned (.bool true) ∧ w' = w :=
  isS_yes x v w (u64_le h).1 (u64_le h).2 h

set_option maxHeartbeats 2000000 in
theorem eq_res (a b c d : Int) (w : World) (hac : (a == c) = true) (hbd : (b == d) = true) :
    Calls Tryd.prog 13 #[.agg #[.int .i64 a, .int .u64 b], .agg #[.int .i64 c, .int .u64 d]] w fun e w' => e = .returned (.bool true) ∧ Below w.heap.size w w' := by
  go_enter Tryd.func13, Tryd.ntmps13
  go_wp2
  go_ret
  exact ⟨rfl, bel_trans (bel_alloc _ _) (bel_alloc _ _)⟩
set_option maxHeartbeats 2000000 in
theorem compare_impl (p x a b : Int) (w : World) (hw : Wid w) (hp0 : 1 ≤ p) (hp1 : p ≤ 10) (ha : isW x a = true) (hb : isW x b = true) :
    Calls Tryd.prog 15 #[.int .i64 p, .int .i64 x, .int .u64 a, .int .u64 b] w fun e w' => e = .returned (.agg #[.int .i64 0, .int .u64 (bI (cmpI p x a b))]) ∧ Below w.heap.size w w' := by
  have HA : Hid (isW x a = true) := ha
  have HB : Hid (isW x b = true) := hb
  clear ha hb
  cases hc : cmpI p x a b with
  | true =>
    have HC : Hid (cmpI p x a b = true) := hc
    clear hc
    go_enter Tryd.func15, Tryd.ntmps15
    go_wp2_with (first | (go_at_call 34; refine (swapPred_yes _ _ hp0 hp1).mono ?_; rintro e w' ⟨q, rfl, hq, rfl⟩) | (go_at_call 21; refine (isWordI _ _ _ (by first | exact hw | exact hw.below (bel_alloc _ _)) (by first | exact HA.out | exact HB.out)).mono ?_; rintro e w' ⟨rfl, rfl⟩) | (go_at_call 35; refine (holds_any _ _ _ _ _ (by first | exact hw | exact hw.below (bel_alloc _ _)) hp0 hp1 HA.out HB.out).mono ?_; rw [HC.out]; rintro e w' ⟨rfl, rfl⟩))
    exact bodyPost_ret (v := .agg #[.int .i64 0, .int .u64 1]) (by simp [results, Tryd.results15, go_sem]) rfl ⟨rfl, bel_alloc _ _⟩
  | false =>
    have HC : Hid (cmpI p x a b = false) := hc
    clear hc
    go_enter Tryd.func15, Tryd.ntmps15
    go_wp2_with (first | (go_at_call 34; refine (swapPred_yes _ _ hp0 hp1).mono ?_; rintro e w' ⟨q, rfl, hq, rfl⟩) | (go_at_call 21; refine (isWordI _ _ _ (by first | exact hw | exact hw.below (bel_alloc _ _)) (by first | exact HA.out | exact HB.out)).mono ?_; rintro e w' ⟨rfl, rfl⟩) | (go_at_call 35; refine (holds_any _ _ _ _ _ (by first | exact hw | exact hw.below (bel_alloc _ _)) hp0 hp1 HA.out HB.out).mono ?_; rw [HC.out]; rintro e w' ⟨rfl, rfl⟩))
    exact bodyPost_ret (v := .agg #[.int .i64 0, .int .u64 0]) (by simp [results, Tryd.results15, go_sem]) rfl ⟨rfl, bel_alloc _ _⟩
set_option maxHeartbeats 2000000 in
theorem compare_impl_no (p x a b : Int) (w : World) (hw : Wid w) (a0 : 0 ≤ a) (a1 : a ≤ 18446744073709551615) (b0 : 0 ≤ b) (b1 : b ≤ 18446744073709551615) (h : (p < 1 ∨ 10 < p) ∨ isW x a = false ∨ isW x b = false) :
    Calls Tryd.prog 15 #[.int .i64 p, .int .i64 x, .int .u64 a, .int .u64 b] w fun e w' => e = .returned (.agg #[.int .i64 3, .int .u64 0]) ∧ Below w.heap.size w w' := by
  by_cases hp : p < 1 ∨ 10 < p
  · have HP : Hid (p < 1 ∨ 10 < p) := hp
    clear h hp
    go_enter Tryd.func15, Tryd.ntmps15
    go_wp2_with (first | (go_at_call 34; refine (swapPred_no _ _ HP.out).mono ?_; rintro e w' ⟨rfl, rfl⟩))
    exact bodyPost_ret (v := .agg #[.int .i64 3, .int .u64 0]) (by simp [results, Tryd.results15, go_sem]) rfl ⟨rfl, bel_alloc _ _⟩
  · have hp0 : 1 ≤ p := by omega
    have hp1 : p ≤ 10 := by omega
    cases ha : isW x a with
    | false =>
      have HA : Hid (isW x a = false) := ha
      clear h ha hp
      go_enter Tryd.func15, Tryd.ntmps15
      go_wp2_with (first | (go_at_call 34; refine (swapPred_yes _ _ hp0 hp1).mono ?_; rintro e w' ⟨q, rfl, hq, rfl⟩) | (go_at_call 21; refine (isWord_no _ _ _ (by first | exact hw | exact hw.below (bel_alloc _ _)) a0 a1 HA.out).mono ?_; rintro e w' ⟨rfl, rfl⟩))
      exact bodyPost_ret (v := .agg #[.int .i64 3, .int .u64 0]) (by simp [results, Tryd.results15, go_sem]) rfl ⟨rfl, bel_alloc _ _⟩
    | true =>
      have hb : isW x b = false := by
        rcases h with h | h | h
        · exact absurd h hp
        · rw [ha] at h; cases h
        · exact h
      have HA : Hid (isW x a = true) := ha
      have HB : Hid (isW x b = false) := hb
      clear h ha hb hp
      go_enter Tryd.func15, Tryd.ntmps15
      go_wp2_with (first | (go_at_call 34; refine (swapPred_yes _ _ hp0 hp1).mono ?_; rintro e w' ⟨q, rfl, hq, rfl⟩) | (go_at_call_of 21 (Value.int IntKind.u64 a); refine (isWordI _ _ _ (by first | exact hw | exact hw.below (bel_alloc _ _)) HA.out).mono ?_; rintro e w' ⟨rfl, rfl⟩) | (go_at_call_of 21 (Value.int IntKind.u64 b); refine (isWord_no _ _ _ (by first | exact hw | exact hw.below (bel_alloc _ _)) b0 b1 HB.out).mono ?_; rintro e w' ⟨rfl, rfl⟩))
      exact bodyPost_ret (v := .agg #[.int .i64 3, .int .u64 0]) (by simp [results, Tryd.results15, go_sem]) rfl ⟨rfl, bel_alloc _ _⟩
set_option maxHeartbeats 2000000 in
theorem compare_spec_no (p x a b : Int) (w : World) (a0 : 0 ≤ a) (a1 : a ≤ 18446744073709551615) (b0 : 0 ≤ b) (b1 : b ≤ 18446744073709551615) (h : (p < 1 ∨ 10 < p) ∨ isW x a = false ∨ isW x b = false) :
    Calls Tryd.prog 14 #[.int .i64 p, .int .i64 x, .int .u64 a, .int .u64 b] w fun e w' => e = .returned (.agg #[.int .i64 3, .int .u64 0]) ∧ Below w.heap.size w w' := by
  by_cases hp : p < 1
  · clear h
    go_enter Tryd.func14, Tryd.ntmps14
    go_wp2_with fail
    exact bodyPost_ret (v := .agg #[.int .i64 3, .int .u64 0]) (by simp [results, Tryd.results14, go_sem]) rfl ⟨rfl, bel_alloc _ _⟩
  by_cases hp' : 10 < p
  · clear h
    go_enter Tryd.func14, Tryd.ntmps14
    go_wp2_with fail
    exact bodyPost_ret (v := .agg #[.int .i64 3, .int .u64 0]) (by simp [results, Tryd.results14, go_sem]) rfl ⟨rfl, bel_alloc _ _⟩
  cases ha : isW x a with
  | false =>
    have HA : Hid (isW x a = false) := ha
    clear h ha
    go_enter Tryd.func14, Tryd.ntmps14
    go_wp2_with (first | (go_at_call 19; refine (isS_no _ _ _ a0 a1 HA.out).mono ?_; rintro e w' ⟨rfl, rfl⟩))
    exact bodyPost_ret (v := .agg #[.int .i64 3, .int .u64 0]) (by simp [results, Tryd.results14, go_sem]) rfl ⟨rfl, bel_alloc _ _⟩
  | true =>
    have hb : isW x b = false := by
      rcases h with h | h | h
      · omega
      · rw [ha] at h; cases h
      · exact h
    have HA : Hid (isW x a = true) := ha
    have HB : Hid (isW x b = false) := hb
    clear h ha hb
    go_enter Tryd.func14, Tryd.ntmps14
    go_wp2_with (first | (go_at_call_of 19 (Value.int IntKind.u64 a); refine (isWordS _ _ _ HA.out).mono ?_; rintro e w' ⟨rfl, rfl⟩) | (go_at_call_of 19 (Value.int IntKind.u64 b); refine (isS_no _ _ _ b0 b1 HB.out).mono ?_; rintro e w' ⟨rfl, rfl⟩))
    exact bodyPost_ret (v := .agg #[.int .i64 3, .int .u64 0]) (by simp [results, Tryd.results14, go_sem]) rfl ⟨rfl, bel_alloc _ _⟩
end Go.Proofs.YtedlghmjfaflcabDoor
