/- Contracts over one translation: division with signs: what the specification answers the program answers. -/
import Derived.Test.YtmkhkgliipalaabDoorSp13
namespace Go.Proofs.YtmkhkgliipalaabDoor
open Go.ChangeShapes Go.WideShapes Go.ChangeAt Go.RowKit
set_option linter.unusedVariables false
set_option linter.unusedSimpArgs false
theorem cut_wU {x : Int} (hx : vw x = true) (n : Int) : cutI x (IntKind.u64.wrap n) = cutI x n := by
  rw [IntKind.wrap_u64]
  rcases vw_cases hx with rfl | rfl | rfl | rfl | rfl <;> simp [cutI] <;> omega
theorem cut_wI {x : Int} (hx : vw x = true) (n : Int) : cutI x (IntKind.u64.wrap (IntKind.i64.wrap n)) = cutI x n := by
  rw [IntKind.wrap_u64, IntKind.wrap_i64]
  rcases vw_cases hx with rfl | rfl | rfl | rfl | rfl <;> simp [cutI] <;> omega
theorem sz_neg {X : Int} (h : X < 0) : X = - szI X := by unfold szI; rw [if_pos h]; omega
theorem sz_pos {X : Int} (h : 0 ≤ X) : szI X = X := by unfold szI; rw [if_neg (by omega)]
theorem sz_nn (X : Int) : 0 ≤ szI X := by unfold szI; split <;> omega
theorem tdiv_sz (X Y : Int) : X.tdiv Y = if (decide (X < 0)) = (decide (Y < 0)) then szI X / szI Y else -(szI X / szI Y) := by
  by_cases hX : X < 0 <;> by_cases hY : Y < 0
  · have e1 := sz_neg hX; have e2 := sz_neg hY
    rw [if_pos (by simp [hX, hY])]
    generalize szI X = P at e1 ⊢; generalize hQ : szI Y = Q at e2 ⊢
    have p0 : 0 ≤ P := by omega
    rw [e1, e2, Int.neg_tdiv, Int.tdiv_neg, Int.neg_neg, Int.tdiv_eq_ediv_of_nonneg p0]
  · have e1 := sz_neg hX; have e2 := sz_pos (X := Y) (by omega)
    rw [if_neg (by simp [hX, hY])]
    generalize szI X = P at e1 ⊢
    have p0 : 0 ≤ P := by omega
    rw [e2, e1, Int.neg_tdiv, Int.tdiv_eq_ediv_of_nonneg p0]
  · have e1 := sz_pos (X := X) (by omega); have e2 := sz_neg hY
    rw [if_neg (by simp [hX, hY])]
    generalize hQ : szI Y = Q at e2 ⊢
    rw [e1, e2, Int.tdiv_neg, Int.tdiv_eq_ediv_of_nonneg (by omega)]
  · have e1 := sz_pos (X := X) (by omega); have e2 := sz_pos (X := Y) (by omega)
    rw [if_pos (by simp [hX, hY]), e1, e2, Int.tdiv_eq_ediv_of_nonneg (by omega)]
theorem tmod_sz (X Y : Int) : X.tmod Y = if X < 0 then -(szI X % szI Y) else szI X % szI Y := by
  have hy : ∀ A : Int, 0 ≤ A → A.tmod Y = A % szI Y := by
    intro A hA
    by_cases hY : Y < 0
    · have e2 := sz_neg hY
      generalize szI Y = Q at e2 ⊢
      rw [e2, Int.tmod_neg, Int.tmod_eq_emod_of_nonneg hA]
    · rw [sz_pos (by omega), Int.tmod_eq_emod_of_nonneg hA]
  by_cases hX : X < 0
  · have e1 := sz_neg hX
    rw [if_pos hX]
    have p0 := sz_nn X
    generalize szI X = P at e1 p0 ⊢
    rw [e1, Int.neg_tmod, hy P p0]
  · rw [if_neg hX, sz_pos (X := X) (by omega), hy X (by omega)]
def qI (x a b : Int) : Int := cutI x (IntKind.u64.wrap (IntKind.i64.wrap ((sgnI x a).tdiv (sgnI x b))))
def rI (x a b : Int) : Int := cutI x (IntKind.u64.wrap ((sgnI x a).tmod (sgnI x b)))
theorem sgn_0 {x b : Int} (h : isW x b = true) (hb : ¬ b = 0) : ¬ sgnI x b = 0 := by
  have bd := isW_bd h
  rcases vw_cases (isW_vw h) with rfl | rfl | rfl | rfl | rfl <;> simp [sgnI] at * <;> split <;> omega
theorem sgn_00 {x : Int} (h : vw x = true) : sgnI x 0 = 0 := by
  rcases vw_cases h with rfl | rfl | rfl | rfl | rfl <;> simp [sgnI]
theorem mkDivC {x a b q r Qi Ri : Int} (ha : isW x a = true) (hb : isW x b = true) (hb0 : ¬ b = 0) (hq : 0 ≤ q ∧ q ≤ 18446744073709551615) (hr : 0 ≤ r ∧ r ≤ 18446744073709551615)
    (eq : cutI x q = Qi) (er : cutI x r = Ri) : DivC x a b (sgnI x a) (sgnI x b) (szI (sgnI x a)) (szI (sgnI x b)) q r Qi Ri := by
  have A := u64_bd ha
  have B := u64_bd hb
  have sa := sgn_bd ha
  have sb := sgn_bd hb
  have s0 := sgn_0 hb hb0
  refine ⟨by omega, B.2, A.1, A.2, sz_nn _, ?_, ?_, ?_, fun w => signed_spec x a w A.1 A.2 ha, fun w => signed_spec x b w B.1 B.2 hb, fun w => size_spec _ w sa.1 sa.2, fun w => size_spec _ w sb.1 sb.2, fun w => ?_, fun w => ?_⟩
  · unfold szI; split <;> omega
  · unfold szI; split <;> omega
  · unfold szI; split <;> omega
  · rw [← eq]; exact cut_spec x q w (isW_vw ha) hq.1 hq.2
  · rw [← er]; exact cut_spec x r w (isW_vw ha) hr.1 hr.2
/-- Which answer a division with signs has: of quotient Q and remainder R. -/
def Out (op fl Q R c v : Int) : Prop :=
  (op = 5 ∧ (bits BinOp.and IntKind.i64 fl 4 != 0) = false ∧ c = 0 ∧ v = Q) ∨ (op = 5 ∧ (bits BinOp.and IntKind.i64 fl 4 != 0) = true ∧ (R != 0) = false ∧ c = 0 ∧ v = Q) ∨
  (op = 5 ∧ (bits BinOp.and IntKind.i64 fl 4 != 0) = true ∧ (R != 0) = true ∧ c = 1 ∧ v = 0) ∨ (op = 7 ∧ (bits BinOp.and IntKind.i64 fl 4 != 0) = false ∧ c = 0 ∧ v = R)
theorem out_qr {op fl Q R c v : Int} (h : Out op fl Q R c v) : QR op fl Q R c v := by
  rcases h with ⟨rfl, k, rfl, rfl⟩ | ⟨rfl, k, kr, rfl, rfl⟩ | ⟨rfl, k, kr, rfl, rfl⟩ | ⟨rfl, k, rfl, rfl⟩
  · exact fun w => qr_quo 5 fl _ _ w (by decide) (.inl k)
  · exact fun w => qr_quo 5 fl _ _ w (by decide) (.inr kr)
  · exact fun w => qr_poison 5 fl _ _ w (by decide) k kr
  · exact fun w => qr_rem 7 fl _ _ w (by decide)
theorem out_some (op fl Q R : Int) (ho : op = 5 ∨ op = 7 ∧ (bits BinOp.and IntKind.i64 fl 4 != 0) = false) : ∃ c v, Out op fl Q R c v := by
  rcases ho with rfl | ⟨rfl, k⟩
  · cases k : (bits BinOp.and IntKind.i64 fl 4 != 0)
    · exact ⟨0, Q, .inl ⟨rfl, k, rfl, rfl⟩⟩
    · cases kr : (R != 0)
      · exact ⟨0, Q, .inr (.inl ⟨rfl, k, kr, rfl, rfl⟩)⟩
      · exact ⟨1, 0, .inr (.inr (.inl ⟨rfl, k, kr, rfl, rfl⟩))⟩
  · exact ⟨0, R, .inr (.inr (.inr ⟨rfl, k, rfl, rfl⟩))⟩
theorem div_le {P Q : Int} (p0 : 0 ≤ P) (q0 : 0 < Q) (p1 : P ≤ 9223372036854775808) : 0 ≤ P / Q ∧ P / Q ≤ 18446744073709551615 := by
  have h1 := Int.ediv_nonneg p0 (Int.le_of_lt q0)
  have h2 := Int.ediv_le_self Q p0
  omega
theorem mod_le {P Q : Int} (p0 : 0 ≤ P) (q0 : 0 < Q) (p1 : P ≤ 9223372036854775808) : 0 ≤ P % Q ∧ P % Q ≤ 18446744073709551615 := by
  have h1 := Int.emod_nonneg P (show ¬ Q = 0 by omega)
  have h2 := Int.emod_lt_of_pos P q0
  have h4 : P % Q ≤ P := by have := Int.emod_add_mul_ediv P Q; have := Int.mul_nonneg (Int.le_of_lt q0) (Int.ediv_nonneg p0 (Int.le_of_lt q0)); omega
  omega

theorem side_g00 (op fl x a b c v : Int) (ha : isW x a = true) (hb : isW x b = true) (hb0 : ¬ b = 0) (eX : decide (sgnI x a < 0) = false) (eY : decide (sgnI x b < 0) = false) (hm : (sgnI x b == -1) = false) (h : Out op fl (qI x a b) (rI x a b) c v) (w : World) :
    Calls Tryd.prog 10 #[.int .i64 op, .int .i64 fl, .int .i64 x, .int .u64 a, .int .u64 b] w fun e w' => e = .returned (.agg #[.int .i64 c, .int .u64 v]) ∧ Below w.heap.size w w' := by
  have hx := isW_vw ha
  have sa := sgn_bd ha
  have s0 := sgn_0 hb hb0
  have P0 := sz_nn (sgnI x a)
  have Q0 : 0 < szI (sgnI x b) := by unfold szI; split <;> omega
  have P1 : szI (sgnI x a) ≤ 9223372036854775808 := by unfold szI; split <;> omega
  have hd := div_le P0 Q0 P1
  have hmo := mod_le P0 Q0 P1
  have re := rem_eq P0 (show szI (sgnI x a) ≤ 18446744073709551615 by omega) Q0
  have eq : cutI x (szI (sgnI x a) / szI (sgnI x b)) = qI x a b := by
    unfold qI
    rw [cut_wI hx, tdiv_sz, eX, eY]
    simp
  have er : cutI x (IntKind.u64.wrap (szI (sgnI x a) - IntKind.u64.wrap (szI (sgnI x a) / szI (sgnI x b) * szI (sgnI x b)))) = rI x a b := by
    unfold rI
    rw [re, cut_wU hx, tmod_sz]
    rw [if_neg (of_decide_eq_false eX)]
  have C := mkDivC ha hb hb0 (q := szI (sgnI x a) / szI (sgnI x b)) (r := IntKind.u64.wrap (szI (sgnI x a) - IntKind.u64.wrap (szI (sgnI x a) / szI (sgnI x b) * szI (sgnI x b)))) hd (wrapU_bd _) eq er
  rcases h with ⟨rfl, k, rfl, rfl⟩ | ⟨rfl, k, kr, rfl, rfl⟩ | ⟨rfl, k, kr, rfl, rfl⟩ | ⟨rfl, k, rfl, rfl⟩
  · exact dg_q00 fl x a b _ _ _ _ _ _ w C hm eX eY k
  · exact dg_e00 fl x a b _ _ _ _ _ _ w C hm eX eY k kr
  · exact dg_p00 fl x a b _ _ _ _ _ _ w C hm eX eY k kr
  · exact dg_r00 fl x a b _ _ _ _ _ _ w C hm eX eY k
theorem side_g01 (op fl x a b c v : Int) (ha : isW x a = true) (hb : isW x b = true) (hb0 : ¬ b = 0) (eX : decide (sgnI x a < 0) = true) (eY : decide (sgnI x b < 0) = true) (hm : (sgnI x b == -1) = false) (h : Out op fl (qI x a b) (rI x a b) c v) (w : World) :
    Calls Tryd.prog 10 #[.int .i64 op, .int .i64 fl, .int .i64 x, .int .u64 a, .int .u64 b] w fun e w' => e = .returned (.agg #[.int .i64 c, .int .u64 v]) ∧ Below w.heap.size w w' := by
  have hx := isW_vw ha
  have sa := sgn_bd ha
  have s0 := sgn_0 hb hb0
  have P0 := sz_nn (sgnI x a)
  have Q0 : 0 < szI (sgnI x b) := by unfold szI; split <;> omega
  have P1 : szI (sgnI x a) ≤ 9223372036854775808 := by unfold szI; split <;> omega
  have hd := div_le P0 Q0 P1
  have hmo := mod_le P0 Q0 P1
  have re := rem_eq P0 (show szI (sgnI x a) ≤ 18446744073709551615 by omega) Q0
  have eq : cutI x (szI (sgnI x a) / szI (sgnI x b)) = qI x a b := by
    unfold qI
    rw [cut_wI hx, tdiv_sz, eX, eY]
    simp
  have er : cutI x (IntKind.u64.wrap (-IntKind.u64.wrap (szI (sgnI x a) - IntKind.u64.wrap (szI (sgnI x a) / szI (sgnI x b) * szI (sgnI x b))))) = rI x a b := by
    unfold rI
    rw [re, cut_wU hx, cut_wU hx, tmod_sz]
    rw [if_pos (of_decide_eq_true eX)]
  have C := mkDivC ha hb hb0 (q := szI (sgnI x a) / szI (sgnI x b)) (r := IntKind.u64.wrap (-IntKind.u64.wrap (szI (sgnI x a) - IntKind.u64.wrap (szI (sgnI x a) / szI (sgnI x b) * szI (sgnI x b))))) hd (wrapU_bd _) eq er
  rcases h with ⟨rfl, k, rfl, rfl⟩ | ⟨rfl, k, kr, rfl, rfl⟩ | ⟨rfl, k, kr, rfl, rfl⟩ | ⟨rfl, k, rfl, rfl⟩
  · exact dg_q01 fl x a b _ _ _ _ _ _ w C hm eX eY k
  · exact dg_e01 fl x a b _ _ _ _ _ _ w C hm eX eY k kr
  · exact dg_p01 fl x a b _ _ _ _ _ _ w C hm eX eY k kr
  · exact dg_r01 fl x a b _ _ _ _ _ _ w C hm eX eY k
theorem side_g10 (op fl x a b c v : Int) (ha : isW x a = true) (hb : isW x b = true) (hb0 : ¬ b = 0) (eX : decide (sgnI x a < 0) = false) (eY : decide (sgnI x b < 0) = true) (hm : (sgnI x b == -1) = false) (h : Out op fl (qI x a b) (rI x a b) c v) (w : World) :
    Calls Tryd.prog 10 #[.int .i64 op, .int .i64 fl, .int .i64 x, .int .u64 a, .int .u64 b] w fun e w' => e = .returned (.agg #[.int .i64 c, .int .u64 v]) ∧ Below w.heap.size w w' := by
  have hx := isW_vw ha
  have sa := sgn_bd ha
  have s0 := sgn_0 hb hb0
  have P0 := sz_nn (sgnI x a)
  have Q0 : 0 < szI (sgnI x b) := by unfold szI; split <;> omega
  have P1 : szI (sgnI x a) ≤ 9223372036854775808 := by unfold szI; split <;> omega
  have hd := div_le P0 Q0 P1
  have hmo := mod_le P0 Q0 P1
  have re := rem_eq P0 (show szI (sgnI x a) ≤ 18446744073709551615 by omega) Q0
  have eq : cutI x (IntKind.u64.wrap (-(szI (sgnI x a) / szI (sgnI x b)))) = qI x a b := by
    unfold qI
    rw [cut_wI hx, tdiv_sz, eX, eY, cut_wU hx]
    simp
  have er : cutI x (IntKind.u64.wrap (szI (sgnI x a) - IntKind.u64.wrap (szI (sgnI x a) / szI (sgnI x b) * szI (sgnI x b)))) = rI x a b := by
    unfold rI
    rw [re, cut_wU hx, tmod_sz]
    rw [if_neg (of_decide_eq_false eX)]
  have C := mkDivC ha hb hb0 (q := IntKind.u64.wrap (-(szI (sgnI x a) / szI (sgnI x b)))) (r := IntKind.u64.wrap (szI (sgnI x a) - IntKind.u64.wrap (szI (sgnI x a) / szI (sgnI x b) * szI (sgnI x b)))) (wrapU_bd _) (wrapU_bd _) eq er
  rcases h with ⟨rfl, k, rfl, rfl⟩ | ⟨rfl, k, kr, rfl, rfl⟩ | ⟨rfl, k, kr, rfl, rfl⟩ | ⟨rfl, k, rfl, rfl⟩
  · exact dg_q10 fl x a b _ _ _ _ _ _ w C hm eX eY k
  · exact dg_e10 fl x a b _ _ _ _ _ _ w C hm eX eY k kr
  · exact dg_p10 fl x a b _ _ _ _ _ _ w C hm eX eY k kr
  · exact dg_r10 fl x a b _ _ _ _ _ _ w C hm eX eY k
theorem side_g11 (op fl x a b c v : Int) (ha : isW x a = true) (hb : isW x b = true) (hb0 : ¬ b = 0) (eX : decide (sgnI x a < 0) = true) (eY : decide (sgnI x b < 0) = false) (hm : (sgnI x b == -1) = false) (h : Out op fl (qI x a b) (rI x a b) c v) (w : World) :
    Calls Tryd.prog 10 #[.int .i64 op, .int .i64 fl, .int .i64 x, .int .u64 a, .int .u64 b] w fun e w' => e = .returned (.agg #[.int .i64 c, .int .u64 v]) ∧ Below w.heap.size w w' := by
  have hx := isW_vw ha
  have sa := sgn_bd ha
  have s0 := sgn_0 hb hb0
  have P0 := sz_nn (sgnI x a)
  have Q0 : 0 < szI (sgnI x b) := by unfold szI; split <;> omega
  have P1 : szI (sgnI x a) ≤ 9223372036854775808 := by unfold szI; split <;> omega
  have hd := div_le P0 Q0 P1
  have hmo := mod_le P0 Q0 P1
  have re := rem_eq P0 (show szI (sgnI x a) ≤ 18446744073709551615 by omega) Q0
  have eq : cutI x (IntKind.u64.wrap (-(szI (sgnI x a) / szI (sgnI x b)))) = qI x a b := by
    unfold qI
    rw [cut_wI hx, tdiv_sz, eX, eY, cut_wU hx]
    simp
  have er : cutI x (IntKind.u64.wrap (-IntKind.u64.wrap (szI (sgnI x a) - IntKind.u64.wrap (szI (sgnI x a) / szI (sgnI x b) * szI (sgnI x b))))) = rI x a b := by
    unfold rI
    rw [re, cut_wU hx, cut_wU hx, tmod_sz]
    rw [if_pos (of_decide_eq_true eX)]
  have C := mkDivC ha hb hb0 (q := IntKind.u64.wrap (-(szI (sgnI x a) / szI (sgnI x b)))) (r := IntKind.u64.wrap (-IntKind.u64.wrap (szI (sgnI x a) - IntKind.u64.wrap (szI (sgnI x a) / szI (sgnI x b) * szI (sgnI x b))))) (wrapU_bd _) (wrapU_bd _) eq er
  rcases h with ⟨rfl, k, rfl, rfl⟩ | ⟨rfl, k, kr, rfl, rfl⟩ | ⟨rfl, k, kr, rfl, rfl⟩ | ⟨rfl, k, rfl, rfl⟩
  · exact dg_q11 fl x a b _ _ _ _ _ _ w C hm eX eY k
  · exact dg_e11 fl x a b _ _ _ _ _ _ w C hm eX eY k kr
  · exact dg_p11 fl x a b _ _ _ _ _ _ w C hm eX eY k kr
  · exact dg_r11 fl x a b _ _ _ _ _ _ w C hm eX eY k
theorem side_m10 (op fl x a b c v : Int) (ha : isW x a = true) (hb : isW x b = true) (hb0 : ¬ b = 0) (eX : decide (sgnI x a < 0) = false) (eY : decide (sgnI x b < 0) = true) (hm : sgnI x b = -1) (ht : (a == 2 ^ (x.toNat - 1)) = false) (h : Out op fl (qI x a b) (rI x a b) c v) (w : World) :
    Calls Tryd.prog 10 #[.int .i64 op, .int .i64 fl, .int .i64 x, .int .u64 a, .int .u64 b] w fun e w' => e = .returned (.agg #[.int .i64 c, .int .u64 v]) ∧ Below w.heap.size w w' := by
  have hx := isW_vw ha
  have sa := sgn_bd ha
  have s0 := sgn_0 hb hb0
  have P0 := sz_nn (sgnI x a)
  have Q0 : 0 < szI (sgnI x b) := by unfold szI; split <;> omega
  have P1 : szI (sgnI x a) ≤ 9223372036854775808 := by unfold szI; split <;> omega
  have hd := div_le P0 Q0 P1
  have hmo := mod_le P0 Q0 P1
  have re := rem_eq P0 (show szI (sgnI x a) ≤ 18446744073709551615 by omega) Q0
  have eq : cutI x (IntKind.u64.wrap (-(szI (sgnI x a) / szI (sgnI x b)))) = qI x a b := by
    unfold qI
    rw [cut_wI hx, tdiv_sz, eX, eY, cut_wU hx]
    simp
  have er : cutI x (IntKind.u64.wrap (szI (sgnI x a) - IntKind.u64.wrap (szI (sgnI x a) / szI (sgnI x b) * szI (sgnI x b)))) = rI x a b := by
    unfold rI
    rw [re, cut_wU hx, tmod_sz]
    rw [if_neg (of_decide_eq_false eX)]
  have C := mkDivC ha hb hb0 (q := IntKind.u64.wrap (-(szI (sgnI x a) / szI (sgnI x b)))) (r := IntKind.u64.wrap (szI (sgnI x a) - IntKind.u64.wrap (szI (sgnI x a) / szI (sgnI x b) * szI (sgnI x b)))) (wrapU_bd _) (wrapU_bd _) eq er
  rw [hm] at C
  rcases h with ⟨rfl, k, rfl, rfl⟩ | ⟨rfl, k, kr, rfl, rfl⟩ | ⟨rfl, k, kr, rfl, rfl⟩ | ⟨rfl, k, rfl, rfl⟩
  · exact dm_q10 fl x a b _ _ _ _ _ w hx C ht eX k
  · exact dm_e10 fl x a b _ _ _ _ _ w hx C ht eX k kr
  · exact dm_p10 fl x a b _ _ _ _ _ w hx C ht eX k kr
  · exact dm_r10 fl x a b _ _ _ _ _ w hx C ht eX k
theorem side_m01 (op fl x a b c v : Int) (ha : isW x a = true) (hb : isW x b = true) (hb0 : ¬ b = 0) (eX : decide (sgnI x a < 0) = true) (eY : decide (sgnI x b < 0) = true) (hm : sgnI x b = -1) (ht : (a == 2 ^ (x.toNat - 1)) = false) (h : Out op fl (qI x a b) (rI x a b) c v) (w : World) :
    Calls Tryd.prog 10 #[.int .i64 op, .int .i64 fl, .int .i64 x, .int .u64 a, .int .u64 b] w fun e w' => e = .returned (.agg #[.int .i64 c, .int .u64 v]) ∧ Below w.heap.size w w' := by
  have hx := isW_vw ha
  have sa := sgn_bd ha
  have s0 := sgn_0 hb hb0
  have P0 := sz_nn (sgnI x a)
  have Q0 : 0 < szI (sgnI x b) := by unfold szI; split <;> omega
  have P1 : szI (sgnI x a) ≤ 9223372036854775808 := by unfold szI; split <;> omega
  have hd := div_le P0 Q0 P1
  have hmo := mod_le P0 Q0 P1
  have re := rem_eq P0 (show szI (sgnI x a) ≤ 18446744073709551615 by omega) Q0
  have eq : cutI x (szI (sgnI x a) / szI (sgnI x b)) = qI x a b := by
    unfold qI
    rw [cut_wI hx, tdiv_sz, eX, eY]
    simp
  have er : cutI x (IntKind.u64.wrap (-IntKind.u64.wrap (szI (sgnI x a) - IntKind.u64.wrap (szI (sgnI x a) / szI (sgnI x b) * szI (sgnI x b))))) = rI x a b := by
    unfold rI
    rw [re, cut_wU hx, cut_wU hx, tmod_sz]
    rw [if_pos (of_decide_eq_true eX)]
  have C := mkDivC ha hb hb0 (q := szI (sgnI x a) / szI (sgnI x b)) (r := IntKind.u64.wrap (-IntKind.u64.wrap (szI (sgnI x a) - IntKind.u64.wrap (szI (sgnI x a) / szI (sgnI x b) * szI (sgnI x b))))) hd (wrapU_bd _) eq er
  rw [hm] at C
  rcases h with ⟨rfl, k, rfl, rfl⟩ | ⟨rfl, k, kr, rfl, rfl⟩ | ⟨rfl, k, kr, rfl, rfl⟩ | ⟨rfl, k, rfl, rfl⟩
  · exact dm_q01 fl x a b _ _ _ _ _ w hx C ht eX k
  · exact dm_e01 fl x a b _ _ _ _ _ w hx C ht eX k kr
  · exact dm_p01 fl x a b _ _ _ _ _ w hx C ht eX k kr
  · exact dm_r01 fl x a b _ _ _ _ _ w hx C ht eX k
/-- DIVISION WITH SIGNS: what the specification answers the program answers. -/
theorem divSg_same (op fl x a b : Int) (ho : op = 5 ∨ op = 7 ∧ (bits BinOp.and IntKind.i64 fl 4 != 0) = false) (ha : isW x a = true) (hb : isW x b = true) : ∃ c v : Int,
    (∀ w, Calls Tryd.prog 10 #[.int .i64 op, .int .i64 fl, .int .i64 x, .int .u64 a, .int .u64 b] w fun e w' => e = .returned (.agg #[.int .i64 c, .int .u64 v]) ∧ Below w.heap.size w w') ∧
    (∀ w, Wid w → Calls Tryd.prog 17 #[.int .i64 op, .int .i64 fl, .int .i64 x, .int .u64 a, .int .u64 b] w fun e w' => e = .returned (.agg #[.int .i64 c, .int .u64 v]) ∧ Below w.heap.size w w') := by
  have A := u64_bd ha
  have B := u64_bd hb
  by_cases z : b = 0
  · subst z
    exact ⟨2, 0, fun w => divS_0 op fl x a w, fun w hw => divS_zero op fl x a 0 w hw ha hb (by rw [sgn_00 (isW_vw ha)]; rfl)⟩
  · have m0 : (sgnI x b == 0) = false := beq_eq_false_iff_ne.2 (sgn_0 hb z)
    cases m1 : (sgnI x b == -1) with
    | true =>
      have hm : sgnI x b = -1 := by simpa using m1
      cases ht : (a == 2 ^ (x.toNat - 1)) with
      | true =>
        refine ⟨2, 0, fun w => ?_, fun w hw => divS_least op fl x a b w hw ha hb m0 m1 ht⟩
        refine d_least op fl x a b (sgnI x a) w (by rcases ho with h | ⟨h, _⟩ <;> omega) (isW_vw ha) (by omega) B.2 A.1 A.2 (fun w => signed_spec x a w A.1 A.2 ha) ?_ ht
        rw [← hm]; exact fun w => signed_spec x b w B.1 B.2 hb
      | false =>
        obtain ⟨c, v, h⟩ := out_some op fl (qI x a b) (rI x a b) ho
        refine ⟨c, v, fun w => ?_, fun w hw => divS_one op fl x a b c v w hw ha hb m0 m1 ht (out_qr h)⟩
        have eY : decide (sgnI x b < 0) = true := by rw [hm]; rfl
        cases eX : decide (sgnI x a < 0) with
        | true => exact side_m01 op fl x a b c v ha hb z eX eY hm ht h w
        | false => exact side_m10 op fl x a b c v ha hb z eX eY hm ht h w
    | false =>
      obtain ⟨c, v, h⟩ := out_some op fl (qI x a b) (rI x a b) ho
      refine ⟨c, v, fun w => ?_, fun w hw => divS_gen op fl x a b c v w hw ha hb m0 m1 (out_qr h)⟩
      cases eX : decide (sgnI x a < 0) with
      | true =>
        cases eY : decide (sgnI x b < 0) with
        | true => exact side_g01 op fl x a b c v ha hb z eX eY m1 h w
        | false => exact side_g11 op fl x a b c v ha hb z eX eY m1 h w
      | false =>
        cases eY : decide (sgnI x b < 0) with
        | true => exact side_g10 op fl x a b c v ha hb z eX eY m1 h w
        | false => exact side_g00 op fl x a b c v ha hb z eX eY m1 h w
end Go.Proofs.YtmkhkgliipalaabDoor
