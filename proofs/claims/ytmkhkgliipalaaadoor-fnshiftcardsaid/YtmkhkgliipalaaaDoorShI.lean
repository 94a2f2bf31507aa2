/- Over one translation: the shifts of the program at the laws' own calls, and plain facts about them. -/
import Derived.Test.YtmkhkgliipalaaaDoorDvI
namespace Go.Proofs.YtmkhkgliipalaaaDoor
open Go.ChangeShapes Go.WideShapes Go.ChangeAt Go.RowKit
open Go.Sort (grow)
set_option linter.unusedVariables false
set_option linter.unusedSimpArgs false
set_option maxHeartbeats 1000000 in
theorem lwAtN_few (a : Option Addr) (len cap : Nat) (i n : Int) (w : World) (n1 : n ≤ 1) :
    Calls Tryd.prog 10 #[.slice a len cap, .int .i64 i, .int .i64 n] w fun e w' => e = .returned (.int .i64 0) ∧ w' = w := by
  go_enter Tryd.func10, Tryd.ntmps10
  go_wp2
  go_ret
  exact ⟨rfl, rfl⟩
theorem lwAtN_up (a : Option Addr) (len cap : Nat) (zs : List Int) (i n : Int) (w : World) (h : IsRow .u8 w a len cap zs) (i0 : 0 ≤ i) (i1 : i ≤ 100) (n0 : 1 ≤ n) (n1 : n ≤ 256) :
    Calls Tryd.prog 10 #[.slice a len cap, .int .i64 i, .int .i64 n] w fun e w' => ∃ v : Int, e = .returned (.int .i64 v) ∧ 0 ≤ v ∧ v < n ∧ Below w.heap.size w w' := by
  by_cases h1 : 1 < n
  · exact lwAt_any a len cap zs i n w h i0 i1 h1 n1
  · refine (lwAtN_few a len cap i n w (by omega)).mono ?_
    rintro e w' ⟨rfl, rfl⟩
    exact ⟨0, rfl, by decide, by omega, Below.refl _ _⟩
theorem lwDoBits (op x a b : Int) (ho : op = 11 ∨ op = 12 ∨ op = 13) (ha : isW x a = true) (hb : isW x b = true) :
    Tl 13 #[.int .i64 op, .int .i64 x, .int .u64 a, .int .u64 b] (.int .u64 (bwI op a b)) := fun w hw =>
  lwDo_any op x a b 0 _ w hw (fun w hw => arith_f6 op 0 x a b w hw ho (by decide) ha hb)
theorem lwDoDiv {x a b : Int} (ha : isW x a = true) (hb : isW x b = true) (b0 : 0 < b) :
    Tl 13 #[.int .i64 4, .int .i64 x, .int .u64 a, .int .u64 b] (.int .u64 (a / b)) := fun w hw =>
  lwDo_any 4 x a b 0 _ w hw (ari_4 ha hb b0)
theorem ari_8 {x a n : Int} (ha : isW x a = true) (hn : isW x n = true) (hf : n < x) : Ari 8 0 x a n 0 (shI 8 x a n) := fun w hw =>
  arith_f4 8 0 x a n 0 _ w hw rfl (by decide) ha hn (fun w hw => shL_o4 0 x a n w hw ha (u64_bd hn).1 hf (by decide) (by decide))
theorem ari_9 {op x a n : Int} (ho : op = 9 ∨ op = 10) (ha : isW x a = true) (hn : isW x n = true) (hf : n < x) : Ari op 0 x a n 0 (shI op x a n) := fun w hw =>
  arith_f5 op 0 x a n 0 _ w hw ho (by decide) ha hn (fun w hw => shR_o2 op 0 x a n w hw ho ha (u64_bd hn).1 hf (by decide))
theorem ari_9e {op x a n : Int} (ho : op = 9 ∨ op = 10) (ha : isW x a = true) (hn : isW x n = true) (hf : n < x) : ∃ c v, (c == 1) = (shI 8 x (shI op x a n) n != a) ∧ Ari op 4 x a n c v := by
  cases e1 : (shI 8 x (shI op x a n) n != a) with
  | true => exact ⟨1, 0, by decide, fun w hw => arith_f5 op 4 x a n 1 0 w hw ho (by decide) ha hn (fun w hw => shR_p op 4 x a n w hw ho ha (u64_bd hn).1 hf (by decide) e1)⟩
  | false => exact ⟨0, _, by decide, fun w hw => arith_f5 op 4 x a n 0 _ w hw ho (by decide) ha hn (fun w hw => shR_o1 op 4 x a n w hw ho ha (u64_bd hn).1 hf (by decide) e1)⟩
theorem ari_8u {x a n : Int} (ha : isW x a = true) (hn : isW x n = true) (hf : n < x) : ∃ c v, (c == 1) = (shI 9 x (shI 8 x a n) n != a) ∧ Ari 8 2 x a n c v := by
  cases e1 : (shI 9 x (shI 8 x a n) n != a) with
  | true => exact ⟨1, 0, by decide, fun w hw => arith_f4 8 2 x a n 1 0 w hw rfl (by decide) ha hn (fun w hw => shL_p3 2 x a n w hw ha (u64_bd hn).1 hf (by decide) (by decide) e1)⟩
  | false => exact ⟨0, _, by decide, fun w hw => arith_f4 8 2 x a n 0 _ w hw rfl (by decide) ha hn (fun w hw => shL_o2 2 x a n w hw ha (u64_bd hn).1 hf (by decide) (by decide) e1)⟩
theorem ari_8s {x a n : Int} (ha : isW x a = true) (hn : isW x n = true) (hf : n < x) : ∃ c v, (c == 1) = (shI 10 x (shI 8 x a n) n != a) ∧ Ari 8 1 x a n c v := by
  cases e1 : (shI 10 x (shI 8 x a n) n != a) with
  | true => exact ⟨1, 0, by decide, fun w hw => arith_f4 8 1 x a n 1 0 w hw rfl (by decide) ha hn (fun w hw => shL_p1 1 x a n w hw ha (u64_bd hn).1 hf (by decide) e1)⟩
  | false => exact ⟨0, _, by decide, fun w hw => arith_f4 8 1 x a n 0 _ w hw rfl (by decide) ha hn (fun w hw => shL_o3 1 x a n w hw ha (u64_bd hn).1 hf (by decide) e1 (by decide))⟩
theorem lwDoSh {op x a n : Int} (ho : op = 9 ∨ op = 10) (ha : isW x a = true) (hn : isW x n = true) (hf : n < x) :
    Tl 13 #[.int .i64 op, .int .i64 x, .int .u64 a, .int .u64 n] (.int .u64 (shI op x a n)) := fun w hw =>
  lwDo_any op x a n 0 _ w hw (ari_9 ho ha hn hf)
theorem ari_far {op x a n : Int} (ho : op = 8 ∨ op = 10) (ha : isW x a = true) (hn : isW x n = true) (hf : x ≤ n) : Ari op 0 x a n 1 0 := fun w hw => by
  rcases ho with rfl | rfl
  · exact arith_f4 8 0 x a n 1 0 w hw rfl (by decide) ha hn (fun w _ => shL_far 0 x a n w (isW_vw ha) hf)
  · exact arith_f5 10 0 x a n 1 0 w hw (.inr rfl) (by decide) ha hn (fun w _ => shR_far 10 0 x a n w (isW_vw ha) hf)
theorem cut_self {x : Int} (hx : vw x = true) : cutI x x = x := by
  rcases vw_cases hx with rfl | rfl | rfl | rfl | rfl <;> decide
theorem w_self {x : Int} (hx : vw x = true) : isW x x = true := by
  rcases vw_cases hx with rfl | rfl | rfl | rfl | rfl <;> decide
theorem w_place {x n : Int} (hx : vw x = true) (h0 : 0 ≤ n) (h1 : n < x) : isW x n = true := by
  rcases vw_cases hx with rfl | rfl | rfl | rfl | rfl <;> simp [isW, vw] <;> omega
/-- All that the law of shifts asks. -/
theorem shift_facts {x a n : Int} (ha : isW x a = true) (n0 : 0 ≤ n) (hlx : n < x) (p : Int) (hp : p = 2 ^ n.toNat) :
    1 ≤ p ∧ p ≤ 9223372036854775808 ∧ isW x p = true ∧ isW x (p - 1) = true ∧ shI 8 x a n = RW 3 x a p ∧ shI 9 x a n = a / p ∧ isW x (shI 10 x a n) = true ∧ isW x (RW 3 x (shI 10 x a n) p) = true ∧
    bwI 11 a (p - 1) = a % p ∧ isW x (a % p) = true ∧ RW 1 x (RW 3 x (shI 10 x a n) p) (a % p) = a ∧ decide (sgnI x (shI 10 x a n) < 0) = decide (sgnI x a < 0) ∧
    (shI 8 x (shI 9 x a n) n != a) = (a % p != 0) ∧ (shI 8 x (shI 10 x a n) n != a) = (a % p != 0) := by
  have hx := isW_vw ha
  obtain ⟨a0, a1⟩ := isW_bd ha
  have A := u64_bd ha
  have x64 : x ≤ 64 := by rcases vw_cases hx with rfl | rfl | rfl | rfl | rfl <;> decide
  obtain ⟨N, rfl⟩ := Int.eq_ofNat_of_zero_le n0
  obtain ⟨K, rfl⟩ := Int.eq_ofNat_of_zero_le (show 0 ≤ x by omega)
  have hNK : N < K := by omega
  have hK : K ≤ 64 := by omega
  simp only [Int.toNat_natCast] at hp a1
  have hmin : min N 64 = N := by omega
  have pn : p = ((2 ^ N : Nat) : Int) := by rw [hp]; simp
  have kn : (2 : Int) ^ K = ((2 ^ K : Nat) : Int) := by simp
  have hdvd : (2 ^ K : Nat) = 2 ^ N * 2 ^ (K - N) := by rw [← Nat.pow_add]; congr 1; omega
  have h63 : (2 : Nat) ^ N ≤ 2 ^ 63 := Nat.pow_le_pow_right (by decide) (by omega)
  have hlt : (2 : Nat) ^ N < 2 ^ K := Nat.pow_lt_pow_right (by decide) hNK
  have h64 : (2 : Nat) ^ K ≤ 2 ^ 64 := Nat.pow_le_pow_right (by decide) hK
  have pos : 0 < (2 : Nat) ^ N := Nat.two_pow_pos _
  have e63 : (2 : Nat) ^ 63 = 9223372036854775808 := by decide
  have e64 : (2 : Nat) ^ 64 = 18446744073709551616 := by decide
  have p1 : 1 ≤ p := by omega
  have W : ∀ m, 0 ≤ m → m < 2 ^ K → isW (K : Int) m = true := fun m h0 h1 => by simp only [isW, hx, Bool.true_and, Int.toNat_natCast]; exact decide_eq_true ⟨h0, h1⟩
  have r0 := Int.emod_nonneg a (show ¬ p = 0 by omega)
  have r1 := Int.emod_lt_of_pos a (show 0 < p by omega)
  have hd := Int.emod_add_mul_ediv a p
  have q0 := Int.ediv_nonneg a0 (show 0 ≤ p by omega)
  have q1 := Int.ediv_le_self p a0
  have m0 : 0 ≤ p * (a / p) := Int.mul_nonneg (by omega) q0
  have cw : ∀ m, cutI (K : Int) (IntKind.u64.wrap m) = m % 2 ^ K := fun m => by
    unfold cutI
    rw [IntKind.wrap_u64, Int.toNat_natCast, kn]
    apply Int.emod_emod_of_dvd
    exact ⟨((2 ^ (64 - K) : Nat) : Int), by rw [← Int.natCast_mul, ← Nat.pow_add, show K + (64 - K) = 64 by omega]; rfl⟩
  have s8 : ∀ m, shI 8 (K : Int) m (N : Int) = m * p % 2 ^ K := fun m => by
    simp only [shI, if_true, Int.toNat_natCast, hmin]; rw [cw, hp]
  have s9 : shI 9 (K : Int) a (N : Int) = a / p := by
    simp only [shI, show ¬ (9 : Int) = 8 by decide, if_false, if_true, Int.toNat_natCast, hmin, hp]
  have s10 : shI 10 (K : Int) a (N : Int) = sgnI K a / p % 2 ^ K := by
    simp only [shI, show ¬ (10 : Int) = 8 by decide, show ¬ (10 : Int) = 9 by decide, if_false, Int.toNat_natCast, hmin]; rw [cw, hp]
  have hS : ∃ j : Int, sgnI K a = a - j * 2 ^ K := by
    unfold sgnI
    split
    · exact ⟨0, by omega⟩
    · exact ⟨1, by simp⟩
  obtain ⟨j, hj⟩ := hS
  have hXd := Int.emod_add_mul_ediv (sgnI K a) p
  have hXm : sgnI K a % p = a % p := by
    rw [hj, kn, hdvd, Int.natCast_mul, ← pn]
    rw [show a - j * (p * ((2 ^ (K - N) : Nat) : Int)) = a + p * (-(j * ((2 ^ (K - N) : Nat) : Int))) by rw [Int.mul_neg, Int.mul_left_comm, Int.sub_eq_add_neg], Int.add_mul_emod_self_left]
  have hmul10 : (sgnI K a / p % 2 ^ K) * p % 2 ^ K = a - a % p := by
    rw [Int.mul_emod, Int.emod_emod_of_dvd _ (Int.dvd_refl _), ← Int.mul_emod, Int.mul_comm]
    have e : p * (sgnI K a / p) = a - a % p - j * 2 ^ K := by rw [hXm] at hXd; omega
    rw [e, Int.sub_mul_emod_self_right]
    exact Int.emod_eq_of_lt (by omega) (by omega)
  have R3 : ∀ m, RW 3 (K : Int) m p = m * p % 2 ^ K := fun m => by
    rw [RW_eq hx, Int.toNat_natCast]; simp [arT]
  have pw : isW (K : Int) p = true := W p (by omega) (by rw [kn]; omega)
  have eband : bwI 11 a (p - 1) = a % p := by
    simp only [bwI, if_true]
    have := and_mask N (by omega) a (p - 1) (by rw [hp]) A.1 A.2
    rw [this, hp]
  have sg := sgn_half ha
  have ssg : sgnI (K : Int) (shI 10 (K : Int) a (N : Int)) = sgnI K a / p := by
    have hH := half_pos hx
    have lo : -hf (K : Int) ≤ sgnI K a / p := by
      have := Int.mul_le_mul_of_nonneg_left p1 (show 0 ≤ hf (K : Int) by omega)
      apply (Int.le_ediv_iff_mul_le (by omega)).2
      rw [Int.neg_mul]
      omega
    have hi : sgnI K a / p < hf (K : Int) := by
      have := Int.mul_le_mul_of_nonneg_left p1 (show 0 ≤ hf (K : Int) by omega)
      apply Int.ediv_lt_of_lt_mul (by omega)
      omega
    have := sgn_cut hx lo hi
    rw [cw] at this
    rw [s10]; exact this
  refine ⟨p1, by omega, pw, W _ (by omega) (by rw [kn]; omega), by rw [s8, R3], s9, ?_, ?_, eband, W _ r0 (by rw [kn]; omega), ?_, ?_, ?_, ?_⟩
  · rw [s10]; exact W _ (Int.emod_nonneg _ (by rw [kn]; omega)) (Int.emod_lt_of_pos _ (by rw [kn]; omega))
  · rw [R3]; exact W _ (Int.emod_nonneg _ (by rw [kn]; omega)) (Int.emod_lt_of_pos _ (by rw [kn]; omega))
  · rw [R3, s10, hmul10, RW_eq hx, Int.toNat_natCast]
    have : arT 1 (a - a % p) (a % p) = a := by simp [arT]
    rw [this, Int.emod_eq_of_lt a0 a1]
  · rw [ssg]
    by_cases h : sgnI K a < 0
    · have : sgnI K a / p < 0 := Int.ediv_neg_of_neg_of_pos h (by omega)
      simp [h, this]
    · have : 0 ≤ sgnI K a / p := Int.ediv_nonneg (by omega) (by omega)
      have n1 : ¬ sgnI K a / p < 0 := by omega
      simp only [h, n1]
  · rw [s9, s8]
    have e : a / p * p = a - a % p := by rw [Int.mul_comm]; omega
    rw [e, Int.emod_eq_of_lt (by omega) (by omega)]
    by_cases h : a % p = 0
    · rw [h]; simp
    · rw [bne_iff_ne.2 h, bne_iff_ne.2 (by omega)]
  · rw [s10, s8, hmul10]
    by_cases h : a % p = 0
    · rw [h]; simp
    · rw [bne_iff_ne.2 h, bne_iff_ne.2 (by omega)]
end Go.Proofs.YtmkhkgliipalaaaDoor
