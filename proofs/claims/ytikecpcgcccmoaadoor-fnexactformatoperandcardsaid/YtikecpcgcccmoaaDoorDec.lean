/- Plain facts about decimal numerals: what is written for a number is read back, by the reader of the library and by a reader that adds up digits in 64 bits. -/
import Derived.Lib.ItoaNum
import Derived.Lib.ItoaMem
import Derived.Lib.ItoaLen
import Derived.Lib.AtoiAll
namespace Go.Proofs.YtikecpcgcccmoaaDoor
open Go.Lib

theorem dig_byte {u : Nat} (h : u < 10) : (UInt8.ofNat (48 + u)).toNat = 48 + u := by
  simp; omega
theorem parse_dec (u : Nat) : ∀ r : List UInt8, u < 18446744073709551616 → parseUint10 0 (decDigits u ++ r) = parseUint10 u r := by
  induction u using Nat.strongRecOn with
  | _ u ih =>
    intro r hu
    by_cases h : u < 10
    · rw [decDigits, dif_pos h]
      show parseUint10 0 (UInt8.ofNat (48 + u) :: r) = _
      rw [parseUint10, dig_byte h, if_pos (by omega), if_neg (by omega), if_neg (by omega)]
      rw [show 0 * 10 + (48 + u - 48) = u by omega]
    · rw [decDigits, dif_neg h, List.append_assoc, ih (u / 10) (by omega) _ (by omega)]
      show parseUint10 (u / 10) (UInt8.ofNat (48 + u % 10) :: r) = _
      rw [parseUint10, dig_byte (by omega), if_pos (by omega), if_neg (by omega), if_neg (by omega)]
      rw [show u / 10 * 10 + (48 + u % 10 - 48) = u by omega]
theorem dec_head (u : Nat) : ∃ c r, decDigits u = c :: r ∧ 48 ≤ c.toNat ∧ c.toNat ≤ 57 := by
  induction u using Nat.strongRecOn with
  | _ u ih =>
    by_cases h : u < 10
    · rw [decDigits, dif_pos h]
      exact ⟨_, _, rfl, by rw [dig_byte h]; omega, by rw [dig_byte h]; omega⟩
    · obtain ⟨c, r, e, h1, h2⟩ := ih (u / 10) (by omega)
      rw [decDigits, dif_neg h, e]
      exact ⟨c, _, rfl, h1, h2⟩
theorem parseMag_dec (u : Nat) (h : u < 18446744073709551616) : parseMag (decDigits u) = .ok u := by
  obtain ⟨c, r, e, _, _⟩ := dec_head u
  have p := parse_dec u [] h
  rw [List.append_nil] at p
  rw [parseMag, if_neg (by rw [e]; simp), p, parseUint10]
/-- What is written for a number of 64 bits is read back by the library's reader. -/
theorem atoi_itoa (n : Int) (h0 : -9223372036854775808 ≤ n) (h1 : n ≤ 9223372036854775807) : atoiAll (itoa n) = .ok n := by
  unfold itoa
  by_cases h : n < 0
  · rw [if_pos h]
    have p := parseMag_dec n.natAbs (by omega)
    simp only [atoiAll]
    rw [show (45 : UInt8).toNat = 45 by rfl, if_pos (by omega), p]
    simp only
    rw [if_neg (by simp), if_neg (by rintro ⟨_, q⟩; omega), if_pos trivial]
    congr 1; omega
  · rw [if_neg h]
    have p := parseMag_dec n.toNat (by omega)
    obtain ⟨c, r, e, g1, g2⟩ := dec_head n.toNat
    rw [e] at p ⊢
    simp only [atoiAll]
    rw [if_neg (by omega), p]
    simp only
    rw [if_neg (by omega), if_neg (by omega), if_neg (by omega)]
    congr 1; omega
/-- A reader that adds up all bytes but '-' in 64 bits. -/
def addUp (v : Int) : List UInt8 → Int
  | [] => v
  | c :: r => addUp (if c.toNat = 45 then v else (v * 10 + (c.toNat : Int) - 48) % 18446744073709551616) r
theorem addUp_append (v : Int) (a b : List UInt8) : addUp v (a ++ b) = addUp (addUp v a) b := by
  induction a generalizing v with
  | nil => rfl
  | cons c r ih => exact ih _
theorem addUp_bd (l : List UInt8) : ∀ v, 0 ≤ v → v ≤ 18446744073709551615 → 0 ≤ addUp v l ∧ addUp v l ≤ 18446744073709551615 := by
  induction l with
  | nil => intro v h0 h1; exact ⟨h0, h1⟩
  | cons c r ih =>
    intro v h0 h1
    refine ih _ ?_ ?_ <;> split <;> omega
theorem addUp_dec (u : Nat) : ∀ r : List UInt8, addUp 0 (decDigits u ++ r) = addUp ((u : Int) % 18446744073709551616) r := by
  induction u using Nat.strongRecOn with
  | _ u ih =>
    intro r
    by_cases h : u < 10
    · rw [decDigits, dif_pos h]
      show addUp 0 (UInt8.ofNat (48 + u) :: r) = _
      rw [addUp, dig_byte h, if_neg (by omega)]
      congr 1; omega
    · rw [decDigits, dif_neg h, List.append_assoc, ih (u / 10) (by omega) _]
      show addUp _ (UInt8.ofNat (48 + u % 10) :: r) = _
      rw [addUp, dig_byte (by omega), if_neg (by omega)]
      congr 1; omega
def readUp (l : List UInt8) : Int := if l.head?.map (·.toNat) = some 45 then (- addUp 0 l) % 18446744073709551616 else addUp 0 l
theorem readUp_itoa (n : Int) : readUp (itoa n) = n % 18446744073709551616 := by
  unfold itoa
  by_cases h : n < 0
  · rw [if_pos h]
    have p := addUp_dec n.natAbs []
    rw [List.append_nil] at p
    unfold readUp
    rw [if_pos (by rfl), addUp, if_pos (by rfl), p]
    simp only [addUp]
    omega
  · rw [if_neg h]
    have p := addUp_dec n.toNat []
    rw [List.append_nil] at p
    obtain ⟨c, r, e, g1, g2⟩ := dec_head n.toNat
    unfold readUp
    rw [if_neg (by rw [e]; simp; omega), p]
    simp only [addUp]
    omega
theorem atoi_bounds {l : List UInt8} {n : Int} (h : atoiAll l = .ok n) : -9223372036854775808 ≤ n ∧ n ≤ 9223372036854775807 := by
  cases l with
  | nil => simp [atoiAll] at h
  | cons c r =>
    simp only [atoiAll] at h
    split at h
    · cases h
    · cases h
    · split at h
      · cases h
      · split at h
        · cases h
        · injection h with h
          split at h <;> omega
theorem atoi_ne_nil {l : List UInt8} {n : Int} (h : atoiAll l = .ok n) : l ≠ [] := by
  rintro rfl; simp [atoiAll] at h
theorem itoa_ne_nil (n : Int) : itoa n ≠ [] := by
  unfold itoa
  split
  · simp
  · obtain ⟨c, r, e, _, _⟩ := dec_head n.toNat
    rw [e]; simp
end Go.Proofs.YtikecpcgcccmoaaDoor
