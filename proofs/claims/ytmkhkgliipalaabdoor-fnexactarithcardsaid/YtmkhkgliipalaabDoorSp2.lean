/- Contract over one translation: the specification's shift place by place is the program's shift at once. -/
import Derived.Test.YtmkhkgliipalaabDoorSp1
namespace Go.Proofs.YtmkhkgliipalaabDoor
open Go.ChangeShapes Go.WideShapes Go.ChangeAt Go.RowKit
set_option linter.unusedVariables false
set_option linter.unusedSimpArgs false
theorem nat_or_and : ∀ (n a b : Nat), a ≤ n → (a ||| b) + (a &&& b) = a + b ∧ (a ^^^ b) + (a &&& b) = (a ||| b)
  | 0, a, b, h => by
    have : a = 0 := by omega
    subst this; simp
  | n + 1, a, b, h => by
    by_cases h0 : a = 0
    · subst h0; simp
    · have ih := nat_or_and n (a / 2) (b / 2) (by omega)
      have e1 : (a ||| b) = 2 * (a / 2 ||| b / 2) + (a ||| b) % 2 := by rw [← Nat.or_div_two]; omega
      have e2 : (a &&& b) = 2 * (a / 2 &&& b / 2) + (a &&& b) % 2 := by rw [← Nat.and_div_two]; omega
      have e3 : (a ^^^ b) = 2 * (a / 2 ^^^ b / 2) + (a ^^^ b) % 2 := by rw [← Nat.xor_div_two]; omega
      have m1 := Nat.or_mod_two_eq_one (a := a) (b := b)
      have m2 := Nat.and_mod_two_eq_one (a := a) (b := b)
      have m3 := Nat.xor_mod_two_eq_one (a := a) (b := b)
      omega
/-- The highest bit of a word, brought down with it. -/
theorem top_kept (k : Nat) (hk : k < 64) (A : Int) (h0 : 0 ≤ A) (h1 : A < 2 * 2 ^ k) :
    bits .or .u64 (A / 2) (bits .andNot .u64 A (2 ^ k - 1)) = if A < 2 ^ k then A / 2 else A / 2 + 2 ^ k := by
  have hp : ((2 : Int) ^ k) = ((2 ^ k : Nat) : Int) := by simp
  have hle : (2 : Nat) ^ k ≤ 2 ^ 63 := Nat.pow_le_pow_right (by decide) (by omega)
  have pos : 0 < (2 : Nat) ^ k := Nat.two_pow_pos _
  rw [hp] at h1
  obtain ⟨a, rfl⟩ := Int.eq_ofNat_of_zero_le h0
  have ha : a < 2 * 2 ^ k := by omega
  have em : ((2 : Int) ^ k - 1) = ((2 ^ k - 1 : Nat) : Int) := by rw [hp]; omega
  rw [em, u64_andNot_nat a (2 ^ k - 1) (by omega) (by omega)]
  have dv : (18446744073709551616 : Nat) % 2 ^ k = 0 := by
    have : (18446744073709551616 : Nat) = 2 ^ k * 2 ^ (64 - k) := by rw [← Nat.pow_add]; have : k + (64 - k) = 64 := by omega
                                                                     rw [this]
    rw [this]; exact Nat.mul_mod_right _ _
  have c0 : (18446744073709551615 - (2 ^ k - 1)) % 2 ^ k = 0 := by
    have e : 18446744073709551615 - (2 ^ k - 1) = 18446744073709551616 - 2 ^ k := by omega
    have d : 2 ^ k ∣ 18446744073709551616 - 2 ^ k := Nat.dvd_sub (Nat.dvd_of_mod_eq_zero dv) (Nat.dvd_refl _)
    rw [e]; exact Nat.mod_eq_zero_of_dvd d
  have j := nat_join k (18446744073709551615 - (2 ^ k - 1)) (2 ^ k - 1) c0 (by omega)
  have z := (nat_or_and _ (18446744073709551615 - (2 ^ k - 1)) (2 ^ k - 1) (Nat.le_refl _)).1
  have hand : a &&& (18446744073709551615 - (2 ^ k - 1)) = a - a % 2 ^ k := by
    have s := (nat_or_and _ (a &&& (18446744073709551615 - (2 ^ k - 1))) (a &&& (2 ^ k - 1)) (Nat.le_refl _)).1
    rw [← Nat.and_or_distrib_left, j] at s
    have e64 : 18446744073709551615 - (2 ^ k - 1) + (2 ^ k - 1) = 2 ^ 64 - 1 := by omega
    rw [e64, Nat.and_two_pow_sub_one_eq_mod, Nat.mod_eq_of_lt (by omega)] at s
    have y : (a &&& (18446744073709551615 - (2 ^ k - 1))) &&& (a &&& (2 ^ k - 1)) = 0 := by
      have w0 : (18446744073709551615 - (2 ^ k - 1)) &&& (2 ^ k - 1) = 0 := by omega
      have : (a &&& (18446744073709551615 - (2 ^ k - 1))) &&& (a &&& (2 ^ k - 1)) = a &&& ((18446744073709551615 - (2 ^ k - 1)) &&& (2 ^ k - 1)) := by
        rw [Nat.and_assoc, ← Nat.and_assoc (18446744073709551615 - (2 ^ k - 1)) a, Nat.and_comm (18446744073709551615 - (2 ^ k - 1)) a, Nat.and_assoc a, ← Nat.and_assoc, Nat.and_self]
      rw [this, w0]; simp
    rw [y, Nat.and_two_pow_sub_one_eq_mod] at s
    omega
  rw [hand]
  have e2 : ((a : Int) / 2) = ((a / 2 : Nat) : Int) := by omega
  rw [e2]
  by_cases l : a < 2 ^ k
  · rw [if_pos (by rw [hp]; omega), Nat.mod_eq_of_lt l, Nat.sub_self]
    have := u64_or_nat (a / 2) 0 (by omega) (by omega)
    simpa using this
  · have d1 : a / 2 ^ k = 1 := Nat.div_eq_of_lt_le (by omega) (by omega)
    have d2 : a - a % 2 ^ k = 2 ^ k := by have := Nat.div_add_mod a (2 ^ k); rw [d1] at this; omega
    rw [if_neg (by rw [hp]; omega), d2, u64_or_nat (a / 2) (2 ^ k) (by omega) (by omega), Nat.or_comm, nat_join k (2 ^ k) (a / 2) (Nat.mod_self _) (by omega), hp]
    omega
end Go.Proofs.YtmkhkgliipalaabDoor
