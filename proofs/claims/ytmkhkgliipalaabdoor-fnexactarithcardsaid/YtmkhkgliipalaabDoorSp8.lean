/- Contracts over one translation: the specification's quotients and remainders of words without signs answer what the program's answer. -/
import Derived.Test.YtmkhkgliipalaabDoorSp7
namespace Go.Proofs.YtmkhkgliipalaabDoor
open Go.ChangeShapes Go.WideShapes Go.ChangeAt Go.RowKit
set_option linter.unusedVariables false
set_option linter.unusedSimpArgs false
theorem rem_eq {a b : Int} (a0 : 0 ≤ a) (a1 : a ≤ 18446744073709551615) (b0 : 0 < b) : IntKind.u64.wrap (a - IntKind.u64.wrap (a / b * b)) = a % b := by
  have h0 : 0 ≤ a / b * b := Int.mul_nonneg (Int.ediv_nonneg a0 (Int.le_of_lt b0)) (Int.le_of_lt b0)
  have h1 : a / b * b ≤ a := Int.ediv_mul_le a (by omega)
  have h2 : a % b = a - a / b * b := by have := Int.emod_add_mul_ediv a b; rw [Int.mul_comm] at this; omega
  rw [IntKind.wrap_u64, IntKind.wrap_u64, Int.emod_eq_of_lt h0 (by omega), h2, Int.emod_eq_of_lt (by omega) (by omega)]
set_option maxHeartbeats 1000000 in
theorem divS_0 (op fl x a : Int) (w : World) :
    Calls Tryd.prog 10 #[.int .i64 op, .int .i64 fl, .int .i64 x, .int .u64 a, .int .u64 0] w fun e w' => e = .returned (.agg #[.int .i64 2, .int .u64 0]) ∧ Below w.heap.size w w' := by
  go_enter Tryd.func10, Tryd.ntmps10
  go_wp2_with fail
  exact bodyPost_ret (v := .agg #[.int .i64 2, .int .u64 0]) (by simp [results, Tryd.results10, go_sem]) rfl ⟨rfl, bel_alloc _ _⟩
set_option maxRecDepth 100000 in
set_option maxHeartbeats 2000000 in
theorem divU_q (fl x a b : Int) (w : World) (a0 : 0 ≤ a) (a1 : a ≤ 18446744073709551615) (b0 : 0 < b) (b1 : b ≤ 18446744073709551615) (k : (bits BinOp.and IntKind.i64 fl 4 != 0) = false) :
    Calls Tryd.prog 10 #[.int .i64 4, .int .i64 fl, .int .i64 x, .int .u64 a, .int .u64 b] w fun e w' => e = .returned (.agg #[.int .i64 0, .int .u64 (a / b)]) ∧ Below w.heap.size w w' := by
  have n1 : (b == 0) = false := beq_eq_false_iff_ne.2 (by omega)
  have n2 : ¬ b = 0 := by omega
  go_enter Tryd.func10, Tryd.ntmps10
  go_wp2_with fail
  exact bodyPost_ret (v := .agg #[.int .i64 0, .int .u64 (a / b)]) (by simp [results, Tryd.results10, go_sem]) rfl ⟨rfl, bel_alloc _ _⟩
set_option maxRecDepth 100000 in
set_option maxHeartbeats 2000000 in
theorem divU_e (fl x a b : Int) (w : World) (a0 : 0 ≤ a) (a1 : a ≤ 18446744073709551615) (b0 : 0 < b) (b1 : b ≤ 18446744073709551615) (k : (bits BinOp.and IntKind.i64 fl 4 != 0) = true) (kr : (a % b != 0) = false) :
    Calls Tryd.prog 10 #[.int .i64 4, .int .i64 fl, .int .i64 x, .int .u64 a, .int .u64 b] w fun e w' => e = .returned (.agg #[.int .i64 0, .int .u64 (a / b)]) ∧ Below w.heap.size w w' := by
  have n1 : (b == 0) = false := beq_eq_false_iff_ne.2 (by omega)
  have n2 : ¬ b = 0 := by omega
  rw [← rem_eq a0 a1 b0] at kr
  go_enter Tryd.func10, Tryd.ntmps10
  go_wp2_with fail
  exact bodyPost_ret (v := .agg #[.int .i64 0, .int .u64 (a / b)]) (by simp [results, Tryd.results10, go_sem]) rfl ⟨rfl, bel_alloc _ _⟩
set_option maxRecDepth 100000 in
set_option maxHeartbeats 2000000 in
theorem divU_p (fl x a b : Int) (w : World) (a0 : 0 ≤ a) (a1 : a ≤ 18446744073709551615) (b0 : 0 < b) (b1 : b ≤ 18446744073709551615) (k : (bits BinOp.and IntKind.i64 fl 4 != 0) = true) (kr : (a % b != 0) = true) :
    Calls Tryd.prog 10 #[.int .i64 4, .int .i64 fl, .int .i64 x, .int .u64 a, .int .u64 b] w fun e w' => e = .returned (.agg #[.int .i64 1, .int .u64 0]) ∧ Below w.heap.size w w' := by
  have n1 : (b == 0) = false := beq_eq_false_iff_ne.2 (by omega)
  have n2 : ¬ b = 0 := by omega
  rw [← rem_eq a0 a1 b0] at kr
  go_enter Tryd.func10, Tryd.ntmps10
  go_wp2_with fail
  exact bodyPost_ret (v := .agg #[.int .i64 1, .int .u64 0]) (by simp [results, Tryd.results10, go_sem]) rfl ⟨rfl, bel_alloc _ _⟩
set_option maxRecDepth 100000 in
set_option maxHeartbeats 2000000 in
theorem divU_r (fl x a b : Int) (w : World) (a0 : 0 ≤ a) (a1 : a ≤ 18446744073709551615) (b0 : 0 < b) (b1 : b ≤ 18446744073709551615) (k : (bits BinOp.and IntKind.i64 fl 4 != 0) = false) :
    Calls Tryd.prog 10 #[.int .i64 6, .int .i64 fl, .int .i64 x, .int .u64 a, .int .u64 b] w fun e w' => e = .returned (.agg #[.int .i64 0, .int .u64 (a % b)]) ∧ Below w.heap.size w w' := by
  have n1 : (b == 0) = false := beq_eq_false_iff_ne.2 (by omega)
  have n2 : ¬ b = 0 := by omega
  have E : Hid _ := rem_eq a0 a1 b0
  go_enter Tryd.func10, Tryd.ntmps10
  go_wp2_with fail
  exact bodyPost_ret (v := .agg #[.int .i64 0, .int .u64 (IntKind.u64.wrap (a - IntKind.u64.wrap (a / b * b)))]) (by simp [results, Tryd.results10, go_sem]) rfl ⟨ret_res E.out, bel_alloc _ _⟩
/-- DIVISION WITHOUT SIGNS: what the specification answers the program answers. -/
theorem divU_same (op fl x a b : Int) (ho : op = 4 ∨ op = 6 ∧ (bits BinOp.and IntKind.i64 fl 4 != 0) = false) (ha : isW x a = true) (hb : isW x b = true) : ∃ c v : Int,
    (∀ w, Calls Tryd.prog 10 #[.int .i64 op, .int .i64 fl, .int .i64 x, .int .u64 a, .int .u64 b] w fun e w' => e = .returned (.agg #[.int .i64 c, .int .u64 v]) ∧ Below w.heap.size w w') ∧
    (∀ w, Calls Tryd.prog 16 #[.int .i64 op, .int .i64 fl, .int .u64 a, .int .u64 b] w fun e w' => e = .returned (.agg #[.int .i64 c, .int .u64 v]) ∧ Below w.heap.size w w') := by
  have A := u64_bd ha
  have B := u64_bd hb
  by_cases z : b = 0
  · subst z
    exact ⟨2, 0, fun w => divS_0 op fl x a w, fun w => divW_zero op fl a w⟩
  · have b0 : 0 < b := by omega
    have eq : IntKind.u64.wrap (a.tdiv b) = a / b := by
      rw [Int.tdiv_eq_ediv_of_nonneg A.1, IntKind.wrap_u64]
      have := Int.ediv_nonneg A.1 (Int.le_of_lt b0)
      have := Int.ediv_le_self b A.1
      omega
    have er : a.tmod b = a % b := Int.tmod_eq_emod_of_nonneg A.1
    rcases ho with rfl | ⟨rfl, k⟩
    · cases k : (bits BinOp.and IntKind.i64 fl 4 != 0)
      · refine ⟨0, a / b, fun w => divU_q fl x a b w A.1 A.2 b0 B.2 k, fun w => divW_raw 4 fl a b 0 (a / b) w A.1 A.2 b0 B.2 ?_⟩
        rw [eq, er]; exact fun w => qr_quo 4 fl _ _ w (by decide) (.inl k)
      · cases kr : (a % b != 0)
        · refine ⟨0, a / b, fun w => divU_e fl x a b w A.1 A.2 b0 B.2 k kr, fun w => divW_raw 4 fl a b 0 (a / b) w A.1 A.2 b0 B.2 ?_⟩
          rw [eq, er]; exact fun w => qr_quo 4 fl _ _ w (by decide) (.inr kr)
        · refine ⟨1, 0, fun w => divU_p fl x a b w A.1 A.2 b0 B.2 k kr, fun w => divW_raw 4 fl a b 1 0 w A.1 A.2 b0 B.2 ?_⟩
          rw [eq, er]; exact fun w => qr_poison 4 fl _ _ w (by decide) k kr
    · refine ⟨0, a % b, fun w => divU_r fl x a b w A.1 A.2 b0 B.2 k, fun w => divW_raw 6 fl a b 0 (a % b) w A.1 A.2 b0 B.2 ?_⟩
      rw [eq, er]; exact fun w => qr_rem 6 fl _ _ w (by decide)
end Go.Proofs.YtmkhkgliipalaabDoor
