/- Plain facts about masks of several bits, and how often the flags of an operation may be set. -/
import Derived.Test.YtmkhkgliipalaabDoorBase
namespace Go.Proofs.YtmkhkgliipalaabDoor
open Go.ChangeShapes Go.WideShapes Go.ChangeAt Go.RowKit
set_option linter.unusedVariables false
theorem bv_kept (X F : BitVec 64) (h : X &&& ~~~F = 0) : X = X &&& F := by
  apply BitVec.eq_of_getLsbD_eq
  intro i hi
  have e := congrArg (fun z : BitVec 64 => z.getLsbD i) h
  simp [hi] at e
  simp only [BitVec.getLsbD_and]
  cases hx : X.getLsbD i <;> simp_all
theorem andNot_kept (fl : Int) (N : Nat) (hN : N < 18446744073709551616) (h0 : -9223372036854775808 ≤ fl) (h1 : fl ≤ 9223372036854775807) (h : (bits .andNot .i64 fl (N : Int) != 0) = false) :
    (fl % 18446744073709551616).toNat = (fl % 18446744073709551616).toNat &&& N := by
  have hz : bits .andNot .i64 fl (N : Int) = 0 := by simpa using h
  clear h
  have hb : (BitVec.ofInt 64 fl &&& ~~~ BitVec.ofInt 64 (N : Int)) = 0 := by
    have ht : IntKind.i64.wrap ((BitVec.ofInt 64 fl &&& ~~~ BitVec.ofInt 64 (N : Int)).toNat : Int) = 0 := hz
    generalize BitVec.ofInt 64 fl &&& ~~~ BitVec.ofInt 64 (N : Int) = r at ht ⊢
    have hr := r.isLt
    rw [IntKind.wrap_i64] at ht
    apply BitVec.eq_of_toNat_eq
    simp
    omega
  have hk := congrArg BitVec.toNat (bv_kept _ _ hb)
  rw [BitVec.toNat_and, BitVec.toNat_ofInt, BitVec.toNat_ofInt] at hk
  have e1 : ((2 ^ 64 : Nat) : Int) = 18446744073709551616 := by decide
  rw [e1] at hk
  have e2 : ((N : Int) % 18446744073709551616).toNat = N := by omega
  rw [e2] at hk
  exact hk
theorem flags_0 (fl : Int) (h0 : -9223372036854775808 ≤ fl) (h1 : fl ≤ 9223372036854775807) (h : (bits .andNot .i64 fl 0 != 0) = false) : fl = 0 := by
  have k := andNot_kept fl 0 (by decide) h0 h1 h
  rw [Nat.and_zero] at k
  omega
theorem flags_3 (fl : Int) (h0 : -9223372036854775808 ≤ fl) (h1 : fl ≤ 9223372036854775807) (h : (bits .andNot .i64 fl 3 != 0) = false) : fl = 0 ∨ fl = 1 ∨ fl = 2 ∨ fl = 3 := by
  have k := andNot_kept fl 3 (by decide) h0 h1 h
  have := Nat.and_le_right (n := (fl % 18446744073709551616).toNat) (m := 3)
  omega
theorem flags_4 (fl : Int) (h0 : -9223372036854775808 ≤ fl) (h1 : fl ≤ 9223372036854775807) (h : (bits .andNot .i64 fl 4 != 0) = false) : fl = 0 ∨ fl = 4 := by
  have k := andNot_kept fl 4 (by decide) h0 h1 h
  have q := Nat.and_le_right (n := (fl % 18446744073709551616).toNat) (m := 4)
  rw [← k] at q
  have c : (fl % 18446744073709551616).toNat = 0 ∨ (fl % 18446744073709551616).toNat = 1 ∨ (fl % 18446744073709551616).toNat = 2 ∨ (fl % 18446744073709551616).toNat = 3 ∨ (fl % 18446744073709551616).toNat = 4 := by omega
  rcases c with c | c | c | c | c <;> rw [c] at k <;> first | omega | (exfalso; revert k; decide)
end Go.Proofs.YtmkhkgliipalaabDoor
