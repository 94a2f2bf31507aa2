/- Contract over one translation: the specification's shift place by place answers what the program's shift at once answers. -/
import Derived.Test.YtmkhkgliipalaabDoorSp2
namespace Go.Proofs.YtmkhkgliipalaabDoor
open Go.ChangeShapes Go.WideShapes Go.ChangeAt Go.RowKit
set_option linter.unusedVariables false
set_option linter.unusedSimpArgs false
theorem cut_wrap {x : Int} (hx : vw x = true) (n : Int) : cutI x (IntKind.u64.wrap n) = n % 2 ^ x.toNat := by
  rw [IntKind.wrap_u64]; exact cutI_wLo hx n
theorem sh8 {x a : Int} (hx : vw x = true) (i : Nat) (hi : i ≤ 63) : shI 8 x a i = a * 2 ^ i % 2 ^ x.toNat := by
  have e : min ((i : Int)).toNat 64 = i := by omega
  simp only [shI, if_true, e]; exact cut_wrap hx _
theorem sh9 {x a : Int} (i : Nat) (hi : i ≤ 63) : shI 9 x a i = a / 2 ^ i := by
  have e : min ((i : Int)).toNat 64 = i := by omega
  simp only [shI, show ¬ (9 : Int) = 8 by decide, if_false, if_true, e]
theorem sh10 {x a : Int} (hx : vw x = true) (i : Nat) (hi : i ≤ 63) : shI 10 x a i = sgnI x a / 2 ^ i % 2 ^ x.toNat := by
  have e : min ((i : Int)).toNat 64 = i := by omega
  simp only [shI, show ¬ (10 : Int) = 8 by decide, show ¬ (10 : Int) = 9 by decide, if_false, e]; exact cut_wrap hx _
def stp (op x A : Int) : Int := if op = 8 then cutI x (IntKind.u64.wrap (A * 2)) else if op = 9 then A / 2 else bits .or .u64 (A / 2) (bits .andNot .u64 A ((2 ^ x.toNat - 1) / 2))
theorem div_pow_succ (s : Int) (i : Nat) : s / 2 ^ (i + 1) = s / 2 ^ i / 2 := by
  rw [Int.pow_succ, ← Int.ediv_ediv_of_nonneg (Int.le_of_lt (Int.pow_pos (by decide)))]
theorem sgn_div {M T s : Int} (hM : M = 2 * T) (hT : 0 < T) (h0 : -T ≤ s) (h1 : s < T) : -T ≤ s / 2 ∧ s / 2 < T := by omega
theorem sgn_pow {T : Int} (hT : 0 < T) (s : Int) (h0 : -T ≤ s) (h1 : s < T) : ∀ i : Nat, -T ≤ s / 2 ^ i ∧ s / 2 ^ i < T
  | 0 => by simp; omega
  | i + 1 => by
    have := sgn_pow hT s h0 h1 i
    rw [div_pow_succ]; omega
theorem stp_eq {op x a : Int} (ho : op = 8 ∨ op = 9 ∨ op = 10) (ha : isW x a = true) (i : Nat) (hi : i + 1 ≤ 63) : stp op x (shI op x a i) = shI op x a ((i : Int) + 1) := by
  have hx := isW_vw ha
  have ei : ((i : Int) + 1) = ((i + 1 : Nat) : Int) := by omega
  rw [ei]
  rcases ho with rfl | rfl | rfl
  · rw [sh8 hx i (by omega), sh8 hx (i + 1) hi]
    simp only [stp, if_true]
    rw [cut_wrap hx, Int.mul_emod, Int.emod_emod, ← Int.mul_emod, Int.pow_succ, Int.mul_assoc]
  · rw [sh9 i (by omega), sh9 (i + 1) hi]
    simp only [stp, show ¬ (9 : Int) = 8 by decide, if_false, if_true]
    rw [div_pow_succ]
  · rw [sh10 hx i (by omega), sh10 hx (i + 1) hi]
    simp only [stp, show ¬ (10 : Int) = 8 by decide, show ¬ (10 : Int) = 9 by decide, if_false]
    obtain ⟨k, hk, hxk⟩ : ∃ k : Nat, k < 64 ∧ x.toNat = k + 1 := ⟨x.toNat - 1, by rcases vw_cases hx with rfl | rfl | rfl | rfl | rfl <;> decide, by rcases vw_cases hx with rfl | rfl | rfl | rfl | rfl <;> decide⟩
    have hp : (0 : Int) < 2 ^ k := Int.pow_pos (by decide)
    have hM : (2 : Int) ^ x.toNat = 2 * 2 ^ k := by rw [hxk, Int.pow_succ]; omega
    have hs : -(2 : Int) ^ k ≤ sgnI x a ∧ sgnI x a < 2 ^ k := by
      obtain ⟨b0, b1⟩ := isW_bd ha
      unfold sgnI
      rw [hM] at b1 ⊢
      rw [show x.toNat - 1 = k by omega]
      split <;> omega
    have hq := sgn_pow hp _ hs.1 hs.2 i
    rw [div_pow_succ, hM]
    generalize sgnI x a / 2 ^ i = s at *
    have ed : ((2 : Int) * 2 ^ k - 1) / 2 = 2 ^ k - 1 := by omega
    rw [ed]
    have m0 : 0 ≤ s % (2 * 2 ^ k) := Int.emod_nonneg _ (by omega)
    have m1 : s % (2 * 2 ^ k) < 2 * 2 ^ k := Int.emod_lt_of_pos _ (by omega)
    rw [top_kept k hk _ m0 m1]
    by_cases n : 0 ≤ s
    · rw [Int.emod_eq_of_lt n (by omega), if_pos hq.2, Int.emod_eq_of_lt (by omega) (by omega)]
    · have e1 : s % (2 * 2 ^ k) = s + 2 * 2 ^ k := by
        rw [← Int.add_emod_right]; exact Int.emod_eq_of_lt (by omega) (by omega)
      have e2 : s / 2 % (2 * 2 ^ k) = s / 2 + 2 * 2 ^ k := by
        rw [← Int.add_emod_right]; exact Int.emod_eq_of_lt (by omega) (by omega)
      rw [e1, e2, if_neg (by omega)]
      omega
theorem sh_zero {op x a : Int} (ho : op = 8 ∨ op = 9 ∨ op = 10) (ha : isW x a = true) : shI op x a 0 = a := by
  have hx := isW_vw ha
  obtain ⟨b0, b1⟩ := isW_bd ha
  have e0 : (0 : Int) = ((0 : Nat) : Int) := rfl
  rcases ho with rfl | rfl | rfl
  · rw [e0, sh8 hx 0 (by decide)]; simp; exact Int.emod_eq_of_lt b0 b1
  · rw [e0, sh9 0 (by decide)]; simp
  · rw [e0, sh10 hx 0 (by decide)]; simp
    rw [sgn_cong hx]; exact Int.emod_eq_of_lt b0 b1
set_option maxRecDepth 100000 in
set_option maxHeartbeats 2000000 in
theorem shifted_spec8 (x a n : Int) (w : World) (ha : isW x a = true) (n0 : 0 ≤ n) (n1 : n ≤ 63) :
    Calls Tryd.prog 28 #[.int .i64 8, .int .i64 x, .int .u64 a, .int .i64 n] w fun e w' => e = .returned (.int .u64 (shI 8 x a n)) ∧ w' = w := by
  have HA : Hid (isW x a = true) := ha
  have HX : Hid (vw x = true) := isW_vw ha
  clear ha
  go_enter Tryd.func28, Tryd.ntmps28
  go_wp2_with fail
  go_loop [2, 9] (fun v s => ∃ i : Nat, (i : Int) ≤ n ∧ s = .int .i64 i ∧ v = .int .u64 (shI 8 x a i)) (fun _ s => (n - intOf s).toNat)
  case atStart => exact ⟨0, by omega, rfl, by rw [show shI 8 x a ((0 : Nat) : Int) = a from sh_zero (by decide) HA.out]⟩
  case round =>
    obtain ⟨i, hi, rfl, rfl⟩ := hrel
    have bd := u64_bd (isW_sh (op := 8) (n := (i : Int)) (by decide) HA.out)
    by_cases hlt : (i : Int) < n
    · have E := stp_eq (op := 8) (by decide) HA.out i (by omega)
      have E' : Hid _ := E
      clear E
      go_wp2_with (first | (go_at_call 22; refine (cut_spec _ _ _ HX.out (wrapU_bd _).1 (wrapU_bd _).2).mono ?_; rintro e w' ⟨rfl, rfl⟩) | (go_at_call 37; refine (mask_spec _ _ HX.out).mono ?_; rintro e w' ⟨rfl, rfl⟩))
      go_round
      case rel => exact ⟨i + 1, by omega, by go_num, by rw [show ((i + 1 : Nat) : Int) = (i : Int) + 1 by omega, ← E'.out]; simp [stp]⟩
      case measure => simp [intOf]; omega
    · have en : (i : Int) = n := by omega
      have EN : Hid ((i : Int) = n) := en
      clear en
      go_wp2_with fail
      go_ret
      exact ⟨ret_int (by rw [EN.out]), rfl⟩
set_option maxRecDepth 100000 in
set_option maxHeartbeats 2000000 in
theorem shifted_spec9 (x a n : Int) (w : World) (ha : isW x a = true) (n0 : 0 ≤ n) (n1 : n ≤ 63) :
    Calls Tryd.prog 28 #[.int .i64 9, .int .i64 x, .int .u64 a, .int .i64 n] w fun e w' => e = .returned (.int .u64 (shI 9 x a n)) ∧ w' = w := by
  have HA : Hid (isW x a = true) := ha
  have HX : Hid (vw x = true) := isW_vw ha
  clear ha
  go_enter Tryd.func28, Tryd.ntmps28
  go_wp2_with fail
  go_loop [2, 9] (fun v s => ∃ i : Nat, (i : Int) ≤ n ∧ s = .int .i64 i ∧ v = .int .u64 (shI 9 x a i)) (fun _ s => (n - intOf s).toNat)
  case atStart => exact ⟨0, by omega, rfl, by rw [show shI 9 x a ((0 : Nat) : Int) = a from sh_zero (by decide) HA.out]⟩
  case round =>
    obtain ⟨i, hi, rfl, rfl⟩ := hrel
    have bd := u64_bd (isW_sh (op := 9) (n := (i : Int)) (by decide) HA.out)
    by_cases hlt : (i : Int) < n
    · have E := stp_eq (op := 9) (by decide) HA.out i (by omega)
      have E' : Hid _ := E
      clear E
      go_wp2_with (first | (go_at_call 22; refine (cut_spec _ _ _ HX.out (wrapU_bd _).1 (wrapU_bd _).2).mono ?_; rintro e w' ⟨rfl, rfl⟩) | (go_at_call 37; refine (mask_spec _ _ HX.out).mono ?_; rintro e w' ⟨rfl, rfl⟩))
      go_round
      case rel => exact ⟨i + 1, by omega, by go_num, by rw [show ((i + 1 : Nat) : Int) = (i : Int) + 1 by omega, ← E'.out]; simp [stp]⟩
      case measure => simp [intOf]; omega
    · have en : (i : Int) = n := by omega
      have EN : Hid ((i : Int) = n) := en
      clear en
      go_wp2_with fail
      go_ret
      exact ⟨ret_int (by rw [EN.out]), rfl⟩
set_option maxRecDepth 100000 in
set_option maxHeartbeats 2000000 in
theorem shifted_spec10 (x a n : Int) (w : World) (ha : isW x a = true) (n0 : 0 ≤ n) (n1 : n ≤ 63) :
    Calls Tryd.prog 28 #[.int .i64 10, .int .i64 x, .int .u64 a, .int .i64 n] w fun e w' => e = .returned (.int .u64 (shI 10 x a n)) ∧ w' = w := by
  have HA : Hid (isW x a = true) := ha
  have HX : Hid (vw x = true) := isW_vw ha
  clear ha
  go_enter Tryd.func28, Tryd.ntmps28
  go_wp2_with fail
  go_loop [2, 9] (fun v s => ∃ i : Nat, (i : Int) ≤ n ∧ s = .int .i64 i ∧ v = .int .u64 (shI 10 x a i)) (fun _ s => (n - intOf s).toNat)
  case atStart => exact ⟨0, by omega, rfl, by rw [show shI 10 x a ((0 : Nat) : Int) = a from sh_zero (by decide) HA.out]⟩
  case round =>
    obtain ⟨i, hi, rfl, rfl⟩ := hrel
    have bd := u64_bd (isW_sh (op := 10) (n := (i : Int)) (by decide) HA.out)
    by_cases hlt : (i : Int) < n
    · have E := stp_eq (op := 10) (by decide) HA.out i (by omega)
      have E' : Hid _ := E
      clear E
      go_wp2_with (first | (go_at_call 22; refine (cut_spec _ _ _ HX.out (wrapU_bd _).1 (wrapU_bd _).2).mono ?_; rintro e w' ⟨rfl, rfl⟩) | (go_at_call 37; refine (mask_spec _ _ HX.out).mono ?_; rintro e w' ⟨rfl, rfl⟩))
      go_round
      case rel => exact ⟨i + 1, by omega, by go_num, by rw [show ((i + 1 : Nat) : Int) = (i : Int) + 1 by omega, ← E'.out]; simp [stp]⟩
      case measure => simp [intOf]; omega
    · have en : (i : Int) = n := by omega
      have EN : Hid ((i : Int) = n) := en
      clear en
      go_wp2_with fail
      go_ret
      exact ⟨ret_int (by rw [EN.out]), rfl⟩
end Go.Proofs.YtmkhkgliipalaabDoor
