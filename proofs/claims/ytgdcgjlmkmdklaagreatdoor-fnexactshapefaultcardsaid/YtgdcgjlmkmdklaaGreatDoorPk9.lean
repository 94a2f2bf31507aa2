/- Texts of one claim. -/
import Derived.Test.YtgdcgjlmkmdklaaGreatDoorPk0
import Derived.Test.YtgdcgjlmkmdklaaGreatDoorPk7
import Derived.Test.YtgdcgjlmkmdklaaGreatDoorPk4
import Derived.Test.YtgdcgjlmkmdklaaGreatDoorPk6
import Derived.Test.YtgdcgjlmkmdklaaGreatDoorPk8
import Derived.Test.YtgdcgjlmkmdklaaGreatDoorPk1
import Derived.BigQuiet
namespace Go.Proofs.YtgdcgjlmkmdklaaGreatDoor
open Go.ChangeShapes Go.WideShapes Go.ChangeAt Go.RowKit
set_option linter.unusedVariables false
theorem mask1 (v : Int) (h0 : 0 ≤ v) (h1 : v ≤ 18446744073709551615) : bits .and .u64 v 1 = cutI 1 v := and_mask 1 (by decide) v 1 (by decide) h0 h1
theorem mask8 (v : Int) (h0 : 0 ≤ v) (h1 : v ≤ 18446744073709551615) : bits .and .u64 v 255 = cutI 8 v := and_mask 8 (by decide) v 255 (by decide) h0 h1
theorem mask16 (v : Int) (h0 : 0 ≤ v) (h1 : v ≤ 18446744073709551615) : bits .and .u64 v 65535 = cutI 16 v := and_mask 16 (by decide) v 65535 (by decide) h0 h1
theorem mask32 (v : Int) (h0 : 0 ≤ v) (h1 : v ≤ 18446744073709551615) : bits .and .u64 v 4294967295 = cutI 32 v := and_mask 32 (by decide) v 4294967295 (by decide) h0 h1
theorem mask64 (v : Int) (h0 : 0 ≤ v) (h1 : v ≤ 18446744073709551615) : bits .and .u64 v 18446744073709551615 = cutI 64 v := and_mask 64 (by decide) v 18446744073709551615 (by decide) h0 h1
set_option maxHeartbeats 1000000 in
theorem validWidthS_no (x : Int) (w : World) (hx : vw x = false) :
  Calls Tryz.prog 86 #[.int .i64 x] w fun e w' => e = .returned (.bool false) ∧ w' = w := by
 exact tl63
theorem validWidthS_yes (x : Int) (w : World) (hx : vw x = true) :
  Calls Tryz.prog 86 #[.int .i64 x] w fun e w' => e = .returned (.bool true) ∧ w' = w := by
 exact tl113
set_option maxHeartbeats 1000000 in
theorem cut_impl (x v : Int) (w : World) (hw : Wid w) (hx : vw x = true) (h0 : 0 ≤ v) (h1 : v ≤ 18446744073709551615) :
  Calls Tryz.prog 167 #[.int .i64 x, .int .u64 v] w fun e w' => e = .returned (.int .u64 (cutI x v)) ∧ w' = w := by
 rcases vw_cases hx with rfl | rfl | rfl | rfl | rfl
 all_goals
  clear hx
  go_enter Tryz.func167, Tryz.ntmps167
  go_wp2_with (first | (go_at_call 137; refine (validWidth_yes _ _ hw (by decide)).mono ?_; rintro e w' ⟨rfl, rfl⟩))
  go_ret
  refine ⟨ret_int ?_, rfl⟩
  first | exact mask1 v h0 h1 | exact mask8 v h0 h1 | exact mask16 v h0 h1 | exact mask32 v h0 h1 | exact mask64 v h0 h1
set_option maxHeartbeats 1000000 in
theorem cut_impl_no (x v : Int) (w : World) (hw : Wid w) (hx : vw x = false) :
  Calls Tryz.prog 167 #[.int .i64 x, .int .u64 v] w fun e w' => e = .returned (.int .u64 0) ∧ w' = w := by
 have H : Hid (vw x = false) := hx
 clear hx
 go_enter Tryz.func167, Tryz.ntmps167
 go_wp2_with (first | (go_at_call 137; refine (validWidth_no _ _ hw H.out).mono ?_; rintro e w' ⟨rfl, rfl⟩))
 go_ret
 exact ⟨rfl, rfl⟩
set_option maxHeartbeats 1000000 in
theorem cut_spec (x v : Int) (w : World) (hx : vw x = true) (h0 : 0 ≤ v) (h1 : v ≤ 18446744073709551615) :
  Calls Tryz.prog 133 #[.int .i64 x, .int .u64 v] w fun e w' => e = .returned (.int .u64 (cutI x v)) ∧ w' = w := by
 rcases vw_cases hx with rfl | rfl | rfl | rfl | rfl
 all_goals
  clear hx
  go_enter Tryz.func133, Tryz.ntmps133
  go_wp2
  go_ret
  refine ⟨ret_int ?_, rfl⟩
  first | exact mask1 v h0 h1 | exact mask8 v h0 h1 | exact mask16 v h0 h1 | exact mask32 v h0 h1 | exact mask64 v h0 h1
set_option maxHeartbeats 1000000 in
theorem cut_spec_no (x v : Int) (w : World) (hx : vw x = false) :
  Calls Tryz.prog 133 #[.int .i64 x, .int .u64 v] w fun e w' => e = .returned (.int .u64 0) ∧ w' = w := by
 have H : Hid (vw x = false) := hx
 clear hx
 go_enter Tryz.func133, Tryz.ntmps133
 go_wp2_with (first | (go_at_call 86; refine (validWidthS_no _ _ H.out).mono ?_; rintro e w' ⟨rfl, rfl⟩))
 go_ret
 exact ⟨rfl, rfl⟩
end Go.Proofs.YtgdcgjlmkmdklaaGreatDoor

namespace Go.Proofs.YtgdcgjlmkmdklaaGreatDoor
open Go.ChangeShapes Go.WideShapes Go.ChangeAt Go.RowKit
set_option linter.unusedVariables false
theorem cut_same {x v : Int} (h : isW x v = true) : cutI x v = v := by
 obtain ⟨h0, h1⟩ := isW_bd h
 unfold cutI
 exact Int.emod_eq_of_lt h0 h1
theorem cut_other {x v : Int} (hx : vw x = true) (h : isW x v = false) : ¬ cutI x v = v := by
 intro e
 have hp : (0 : Int) < 2 ^ x.toNat := Int.pow_pos (by decide)
 have h0 : 0 ≤ v % 2 ^ x.toNat := Int.emod_nonneg _ (by omega)
 have h1 : v % 2 ^ x.toNat < 2 ^ x.toNat := Int.emod_lt_of_pos _ hp
 unfold cutI at e
 rw [e] at h0 h1
 simp [isW, hx] at h
 omega
theorem isW_no_vw {x v : Int} (h : vw x = false) : isW x v = false := by simp [isW, h]
set_option maxHeartbeats 1000000 in
theorem isWord_yes (x v : Int) (w : World) (hw : Wid w) (h0 : 0 ≤ v) (h1 : v ≤ 18446744073709551615) (h : isW x v = true) :
  Calls Tryz.prog 155 #[.int .i64 x, .int .u64 v] w fun e w' => e = .returned (.bool true) ∧ w' = w := by
 have hx : Hid (vw x = true) := isW_vw h
 have hc : (cutI x v == v) = true := by simp [cut_same h]
 clear h
 exact tl82
set_option maxHeartbeats 1000000 in
theorem isWord_no (x v : Int) (w : World) (hw : Wid w) (h0 : 0 ≤ v) (h1 : v ≤ 18446744073709551615) (h : isW x v = false) :
  Calls Tryz.prog 155 #[.int .i64 x, .int .u64 v] w fun e w' => e = .returned (.bool false) ∧ w' = w := by
 cases hv : vw x with
 | false =>
  have hx : Hid (vw x = false) := hv
  clear h hv
  go_enter Tryz.func155, Tryz.ntmps155
  go_wp2_with (first | (go_at_call 137; refine (validWidth_no _ _ hw hx.out).mono ?_; rintro e w' ⟨rfl, rfl⟩))
  go_ret
  exact ⟨rfl, rfl⟩
 | true =>
  have hx : Hid (vw x = true) := hv
  have hc : (cutI x v == v) = false := beq_eq_false_iff_ne.2 (cut_other hv h)
  clear h hv
  exact tl82
set_option maxHeartbeats 1000000 in
theorem isS_yes (x v : Int) (w : World) (h0 : 0 ≤ v) (h1 : v ≤ 18446744073709551615) (h : isW x v = true) :
  Calls Tryz.prog 92 #[.int .i64 x, .int .u64 v] w fun e w' => e = .returned (.bool true) ∧ w' = w := by
 have hx : Hid (vw x = true) := isW_vw h
 have hc : (v == cutI x v) = true := by simp [cut_same h]
 clear h
 exact tl84
set_option maxHeartbeats 1000000 in
theorem isS_no (x v : Int) (w : World) (h0 : 0 ≤ v) (h1 : v ≤ 18446744073709551615) (h : isW x v = false) :
  Calls Tryz.prog 92 #[.int .i64 x, .int .u64 v] w fun e w' => e = .returned (.bool false) ∧ w' = w := by
 cases hv : vw x with
 | false =>
  have hx : Hid (vw x = false) := hv
  clear h hv
  go_enter Tryz.func92, Tryz.ntmps92
  go_wp2_with (first | (go_at_call 86; refine (validWidthS_no _ _ hx.out).mono ?_; rintro e w' ⟨rfl, rfl⟩))
  go_ret
  exact ⟨rfl, rfl⟩
 | true =>
  have hx : Hid (vw x = true) := hv
  have hc : (v == cutI x v) = false := beq_eq_false_iff_ne.2 (fun e => cut_other hv h e.symm)
  clear h hv
  exact tl84
theorem sg1 (v : Int) (h0 : 0 ≤ v) (h1 : v < 2) : wrap64 (v * 9223372036854775808) / 9223372036854775808 = sgnI 1 v := by
 unfold wrap64 sgnI; simp; split <;> omega
theorem sg8 (v : Int) (h0 : 0 ≤ v) (h1 : v < 256) : wrap64 (v * 72057594037927936) / 72057594037927936 = sgnI 8 v := by
 unfold wrap64 sgnI; simp; split <;> omega
theorem sg16 (v : Int) (h0 : 0 ≤ v) (h1 : v < 65536) : wrap64 (v * 281474976710656) / 281474976710656 = sgnI 16 v := by
 unfold wrap64 sgnI; simp; split <;> omega
theorem sg32 (v : Int) (h0 : 0 ≤ v) (h1 : v < 4294967296) : wrap64 (v * 4294967296) / 4294967296 = sgnI 32 v := by
 unfold wrap64 sgnI; simp; split <;> omega
theorem sg64 (v : Int) (h0 : 0 ≤ v) (h1 : v < 18446744073709551616) : wrap64 v = sgnI 64 v := by
 unfold wrap64 sgnI; simp; split <;> omega
set_option maxHeartbeats 1000000 in
theorem signed_impl (x v : Int) (w : World) (hw : Wid w) (h0 : 0 ≤ v) (h1 : v ≤ 18446744073709551615) (h : isW x v = true) :
  Calls Tryz.prog 159 #[.int .i64 x, .int .u64 v] w fun e w' => e = .returned (.int .i64 (sgnI x v)) ∧ w' = w := by
 have H : Hid (isW x v = true) := h
 rcases vw_cases (isW_vw h) with rfl | rfl | rfl | rfl | rfl
 all_goals
  have bd := isW_bd h
  simp at bd
  clear h
  go_enter Tryz.func159, Tryz.ntmps159
  go_wp2_with (first | (go_at_call 155; refine (isWord_yes _ _ _ hw h0 h1 H.out).mono ?_; rintro e w' ⟨rfl, rfl⟩))
  go_ret
  refine ⟨ret_int ?_, rfl⟩
  first | exact sg1 v h0 bd.2 | exact sg8 v h0 bd.2 | exact sg16 v h0 bd.2 | exact sg32 v h0 bd.2 | exact sg64 v h0 bd.2
set_option maxHeartbeats 1000000 in
theorem signed_impl_no (x v : Int) (w : World) (hw : Wid w) (h0 : 0 ≤ v) (h1 : v ≤ 18446744073709551615) (h : isW x v = false) :
  Calls Tryz.prog 159 #[.int .i64 x, .int .u64 v] w fun e w' => e = .returned (.int .i64 0) ∧ w' = w := by
 have H : Hid (isW x v = false) := h
 clear h
 go_enter Tryz.func159, Tryz.ntmps159
 go_wp2_with (first | (go_at_call 155; refine (isWord_no _ _ _ hw h0 h1 H.out).mono ?_; rintro e w' ⟨rfl, rfl⟩))
 go_ret
 exact ⟨rfl, rfl⟩
set_option maxHeartbeats 1000000 in
theorem signed_spec_no (x v : Int) (w : World) (h0 : 0 ≤ v) (h1 : v ≤ 18446744073709551615) (h : isW x v = false) :
  Calls Tryz.prog 157 #[.int .i64 x, .int .u64 v] w fun e w' => e = .returned (.int .i64 0) ∧ w' = w := by
 have H : Hid (isW x v = false) := h
 clear h
 go_enter Tryz.func157, Tryz.ntmps157
 go_wp2_with (first | (go_at_call 92; refine (isS_no _ _ _ h0 h1 H.out).mono ?_; rintro e w' ⟨rfl, rfl⟩))
 go_ret
 exact ⟨rfl, rfl⟩
def topI (x v : Int) : Bool := decide (2 ^ (x.toNat - 1) ≤ v)
set_option maxHeartbeats 1000000 in
theorem top_spec (x v : Int) (w : World) (h0 : 0 ≤ v) (h : isW x v = true) :
  Calls Tryz.prog 169 #[.int .i64 x, .int .u64 v] w fun e w' => e = .returned (.bool (topI x v)) ∧ w' = w := by
 rcases vw_cases (isW_vw h) with rfl | rfl | rfl | rfl | rfl
 all_goals
  have bd := isW_bd h
  simp at bd
  clear h
  go_enter Tryz.func169, Tryz.ntmps169
  go_wp2
  go_ret
  refine ⟨ret_bool ?_, rfl⟩
  simp only [topI]
  rw [Bool.eq_iff_iff]
  simp
  try omega
theorem top_yes (x v : Int) (w : World) (h0 : 0 ≤ v) (h : isW x v = true) (ht : topI x v = true) :
  Calls Tryz.prog 169 #[.int .i64 x, .int .u64 v] w fun e w' => e = .returned (.bool true) ∧ w' = w := by
 rw [← ht]; exact top_spec x v w h0 h
theorem top_no (x v : Int) (w : World) (h0 : 0 ≤ v) (h : isW x v = true) (ht : topI x v = false) :
  Calls Tryz.prog 169 #[.int .i64 x, .int .u64 v] w fun e w' => e = .returned (.bool false) ∧ w' = w := by
 rw [← ht]; exact top_spec x v w h0 h
set_option maxHeartbeats 1000000 in
theorem mask_spec (x : Int) (w : World) (hx : vw x = true) :
  Calls Tryz.prog 151 #[.int .i64 x] w fun e w' => e = .returned (.int .u64 (2 ^ x.toNat - 1)) ∧ w' = w := by
 rcases vw_cases hx with rfl | rfl | rfl | rfl | rfl
 all_goals
  clear hx
  go_enter Tryz.func151, Tryz.ntmps151
  go_wp2
  go_ret
  exact ⟨ret_int (by decide), rfl⟩
theorem or_high (k : Nat) (hk : k ≤ 64) (v m : Int) (h0 : 0 ≤ v) (h1 : v < 2 ^ k) (hm : m = 18446744073709551616 - 2 ^ k) : bits .or .u64 v m = v + m := by
 have hp : (2 : Int) ^ k ≤ 2 ^ 64 := by exact_mod_cast Nat.pow_le_pow_right (by decide) hk
 have hp0 : (0 : Int) < 2 ^ k := Int.pow_pos (by decide)
 have hq : ((2 : Int) ^ k) = ((2 ^ k : Nat) : Int) := by simp
 by_cases h64 : k = 64
 ·subst h64
  simp at h1 hm
  subst hm
  rw [u64_or v 0 h0 (by omega) (by omega) (by omega)]
  simp; omega
 ·have hk' : k < 64 := by omega
  have hp' : (2 : Int) ^ k < 2 ^ 64 := by exact_mod_cast Nat.pow_lt_pow_right (by decide) hk'
  rw [u64_or v m h0 (by omega) (by omega) (by omega), Nat.or_comm, nat_join k m.toNat v.toNat]
  ·omega
  ·have hd : 2 ^ k ∣ (2 ^ 64 : Nat) := Nat.pow_dvd_pow 2 hk
   have e : m.toNat = 2 ^ 64 - 2 ^ k := by
    rw [hm, hq]; omega
   rw [e]
   exact Nat.mod_eq_zero_of_dvd (Nat.dvd_sub hd (Nat.dvd_refl _))
  ·rw [hq] at h1; omega
theorem so1 (v : Int) (h0 : 0 ≤ v) (h1 : v < 2) (ht : topI 1 v = true) : wrap64 (bits .or .u64 v (bits .xor .u64 IntKind.u64.max 1)) = sgnI 1 v := by
 rw [or_high 1 (by decide) v _ h0 h1 (by decide)]
 have e : bits .xor .u64 IntKind.u64.max 1 = 18446744073709551614 := by decide
 rw [e]; simp [topI] at ht; unfold wrap64 sgnI; simp; split <;> omega
theorem so8 (v : Int) (h0 : 0 ≤ v) (h1 : v < 256) (ht : topI 8 v = true) : wrap64 (bits .or .u64 v (bits .xor .u64 IntKind.u64.max 255)) = sgnI 8 v := by
 rw [or_high 8 (by decide) v _ h0 h1 (by decide)]
 have e : bits .xor .u64 IntKind.u64.max 255 = 18446744073709551360 := by decide
 rw [e]; simp [topI] at ht; unfold wrap64 sgnI; simp; split <;> omega
theorem so16 (v : Int) (h0 : 0 ≤ v) (h1 : v < 65536) (ht : topI 16 v = true) : wrap64 (bits .or .u64 v (bits .xor .u64 IntKind.u64.max 65535)) = sgnI 16 v := by
 rw [or_high 16 (by decide) v _ h0 h1 (by decide)]
 have e : bits .xor .u64 IntKind.u64.max 65535 = 18446744073709486080 := by decide
 rw [e]; simp [topI] at ht; unfold wrap64 sgnI; simp; split <;> omega
theorem so32 (v : Int) (h0 : 0 ≤ v) (h1 : v < 4294967296) (ht : topI 32 v = true) : wrap64 (bits .or .u64 v (bits .xor .u64 IntKind.u64.max 4294967295)) = sgnI 32 v := by
 rw [or_high 32 (by decide) v _ h0 h1 (by decide)]
 have e : bits .xor .u64 IntKind.u64.max 4294967295 = 18446744069414584320 := by decide
 rw [e]; simp [topI] at ht; unfold wrap64 sgnI; simp; split <;> omega
theorem so64 (v : Int) (h0 : 0 ≤ v) (h1 : v < 18446744073709551616) (ht : topI 64 v = true) : wrap64 (bits .or .u64 v (bits .xor .u64 IntKind.u64.max 18446744073709551615)) = sgnI 64 v := by
 rw [or_high 64 (by decide) v _ h0 h1 (by decide)]
 have e : bits .xor .u64 IntKind.u64.max 18446744073709551615 = 0 := by decide
 rw [e]; simp [topI] at ht; unfold wrap64 sgnI; simp; split <;> omega
set_option maxHeartbeats 1000000 in
theorem signed_spec (x v : Int) (w : World) (h0 : 0 ≤ v) (h1 : v ≤ 18446744073709551615) (h : isW x v = true) :
  Calls Tryz.prog 157 #[.int .i64 x, .int .u64 v] w fun e w' => e = .returned (.int .i64 (sgnI x v)) ∧ w' = w := by
 have H : Hid (isW x v = true) := h
 cases ht : topI x v with
 | false =>
  have T : Hid (topI x v = false) := ht
  have bd := isW_bd h
  have lt : v < 2 ^ (x.toNat - 1) := by simpa [topI] using ht
  have h63 : v < 9223372036854775808 := by
   rcases vw_cases (isW_vw h) with rfl | rfl | rfl | rfl | rfl <;> simp at lt <;> omega
  have S : Hid (v = sgnI x v) := by unfold sgnI; rw [if_pos lt]; rfl
  clear h ht bd lt
  go_enter Tryz.func157, Tryz.ntmps157
  go_wp2_with (first | (go_at_call 92; refine (isS_yes _ _ _ h0 h1 H.out).mono ?_; rintro e w' ⟨rfl, rfl⟩) | (go_at_call 169; refine (top_no _ _ _ h0 H.out T.out).mono ?_; rintro e w' ⟨rfl, rfl⟩))
  go_ret
  exact ⟨ret_int S.out, rfl⟩
 | true =>
  have T : Hid (topI x v = true) := ht
  rcases vw_cases (isW_vw h) with rfl | rfl | rfl | rfl | rfl
  all_goals
   have bd := isW_bd h
   simp at bd
   clear h ht
   go_enter Tryz.func157, Tryz.ntmps157
   go_wp2_with (first | (go_at_call 92; refine (isS_yes _ _ _ h0 h1 H.out).mono ?_; rintro e w' ⟨rfl, rfl⟩) | (go_at_call 169; refine (top_yes _ _ _ h0 H.out T.out).mono ?_; rintro e w' ⟨rfl, rfl⟩) | (go_at_call 151; refine (mask_spec _ _ (by decide)).mono ?_; rintro e w' ⟨rfl, rfl⟩))
   go_ret
   refine ⟨ret_int ?_, rfl⟩
   first | exact so1 v h0 bd.2 T.out | exact so8 v h0 bd.2 T.out | exact so16 v h0 bd.2 T.out | exact so32 v h0 bd.2 T.out | exact so64 v h0 bd.2 T.out
end Go.Proofs.YtgdcgjlmkmdklaaGreatDoor

namespace Go.Proofs.YtgdcgjlmkmdklaaGreatDoor
set_option linter.unusedVariables false
set_option linter.unusedSimpArgs false
def firstF {α : Type} (p : Nat → Option α) : Nat → Option α
 | 0 => none
 | n + 1 => (firstF p n).or (p n)
theorem firstF_none {α : Type} {p : Nat → Option α} {n : Nat} (h : ∀ j, j < n → p j = none) : firstF p n = none := by
 induction n with
 | zero => rfl
 | succ n ih => rw [firstF, ih (fun j hj => h j (by omega)), h n (by omega)]; rfl
theorem firstF_hit {α : Type} {p : Nat → Option α} {n i : Nat} {v : α} (hi : i < n) (h : ∀ j, j < i → p j = none) (hv : p i = some v) : firstF p n = some v := by
 induction n with
 | zero => omega
 | succ n ih =>
  by_cases e : i = n
  ·subst e; rw [firstF, firstF_none h, hv]; rfl
  ·rw [firstF, ih (by omega)]; rfl
theorem firstF_of_none {α : Type} {p : Nat → Option α} {n : Nat} (h : firstF p n = none) : ∀ j, j < n → p j = none := by
 induction n with
 | zero => intro j hj; omega
 | succ n ih =>
  rw [firstF, Option.or_eq_none_iff] at h
  intro j hj
  by_cases e : j = n
  ·subst e; exact h.2
  ·exact ih h.1 j (by omega)
def opB (ng : Nat) (ts : List Int) (o : OpD) : Bool :=
 if o.k = 1 then decide (o.i = 0) && isW o.t o.w
 else if o.k = 2 then decide (o.t = 65) && decide (o.i = 0) && decide (o.w = 0)
 else if o.k = 3 then decide (o.i = 0) && decide (o.w = 0) && vtB o.t
 else if o.k = 4 then decide (o.w = 0) && (decide (0 ≤ o.i) && (decide (o.i < ts.length) && decide (ts.getD o.i.toNat 0 = o.t)))
 else if o.k = 5 then decide (o.w = 0) && decide (o.t = 65) && (decide (0 ≤ o.i) && decide (o.i < ng))
 else false
def tabB (op : Int) : Bool := decide (1 ≤ op ∧ op ≤ 18) || decide (20 ≤ op ∧ op ≤ 31)
def flgs (op : Int) : Int :=
 if op = 1 ∨ op = 2 ∨ op = 3 ∨ op = 8 then 3
 else if op = 4 ∨ op = 5 ∨ op = 9 ∨ op = 10 then 4
 else 0
def calD (fs : List FnD) (c : Int) : FnD := fs.getD c.toNat ⟨ByteArray.empty, 0, [], 0, []⟩
def difB : List Int → Bool
 | [] => true
 | x :: r => !r.contains x && difB r
def ownB (fs : List FnD) (bk : Int) (x : InD) : Bool :=
 if x.op ≤ 13 then vw x.ty
 else if x.op = 14 then decide (x.ty = 1) && (decide (1 ≤ x.pr) && decide (x.pr ≤ 10))
 else if x.op = 15 then vtB x.ty
 else if x.op ≤ 18 then vw x.ty
 else if x.op = 20 then vtB x.ty
 else if x.op = 21 then decide (x.ty = 65) && (decide (1 ≤ x.sz) && (decide (x.sz ≤ 256) && decide (bk = 0)))
 else if x.op = 22 then vtB x.ty
 else if x.op = 24 then decide (x.ty = 65)
 else if x.op = 25 then decide (0 ≤ x.ca) && (decide (x.ca < fs.length) && decide (x.ty = (calD fs x.ca).res))
 else if x.op = 29 then decide (x.ws.length ≤ 12) && (difB x.ws && decide (x.ty = 0))
 else decide (x.ty = 0)
def hdB (fs : List FnD) (bk : Int) (x : InD) : Bool :=
 decide (0 ≤ x.fl) && (decide (bits .andNot .i64 x.fl (flgs x.op) = 0) && ((decide (x.op = 14) || decide (x.pr = 0)) && ((decide (x.op = 25) || decide (x.ca = 0)) && ((decide (x.op = 21) || decide (x.sz = 0)) && ((decide (x.op = 29) || decide (x.ws.length = 0)) && ownB fs bk x)))))
def cntA (fs : List FnD) (f : FnD) (x : InD) : Int :=
 if x.op ≤ 14 then 2 else if x.op = 24 then 2 else if x.op = 23 then 2
 else if x.op = 15 then 3 else if x.op = 20 then -1 else if x.op = 21 then 0 else if x.op = 31 then 0
 else if x.op = 25 then ((calD fs x.ca).params.length : Int)
 else if x.op = 27 then 0 else if x.op = 28 then 1 else if x.op = 29 then 1
 else if x.op = 30 then (if f.res = 0 then 0 else 1)
 else 1
def cntT (x : InD) : Int :=
 if x.op = 20 then -1 else if x.op = 27 then 1 else if x.op = 28 then 2 else if x.op = 29 then (x.ws.length : Int) + 1 else 0
def cntB (fs : List FnD) (f : FnD) (x : InD) : Bool :=
 if x.op = 20 then decide (0 < x.args.length) && decide (x.args.length = x.bl.length)
 else decide ((x.args.length : Int) = cntA fs f x) && decide ((x.bl.length : Int) = cntT x)
def tgtB (f : FnD) (x : InD) : Bool := x.bl.all fun b => decide (0 ≤ b) && decide (b < f.blocks.length)
def wanB (fs : List FnD) (f : FnD) (x : InD) (k : Nat) (t : Int) : Bool :=
 if x.op = 14 then decide (t = (x.args.getD 0 default).t) && (vw t || (decide (t = 65) && decide (x.pr ≤ 2)))
 else if x.op = 15 then (decide (k = 0) && decide (t = 1)) || (decide (0 < k) && decide (t = x.ty))
 else if x.op = 16 then vw t && decide (t < x.ty)
 else if x.op = 17 then vw t && decide (t < x.ty)
 else if x.op = 18 then vw t && decide (x.ty < t)
 else if x.op = 22 then decide (t = 65)
 else if x.op = 23 then (decide (k = 0) && vtB t) || (decide (k = 1) && decide (t = 65))
 else if x.op = 24 then (decide (k = 0) && decide (t = 65)) || (decide (k = 1) && decide (t = 64))
 else if x.op = 25 then decide (t = (calD fs x.ca).params.getD k 0)
 else if x.op = 26 then decide (t = 64)
 else if x.op = 28 then decide (t = 1)
 else if x.op = 29 then vw t
 else if x.op = 30 then decide (t = f.res)
 else decide (t = x.ty)
def argB (ng : Nat) (ts : List Int) (fs : List FnD) (f : FnD) (x : InD) : Bool :=
 (List.range x.args.length).all fun k => opB ng ts (x.args.getD k default) && wanB fs f x k (x.args.getD k default).t
def casB (x : InD) : Bool := x.ws.all fun v => isW (x.args.getD 0 default).t v
def inF (ng : Nat) (ts : List Int) (fs : List FnD) (f : FnD) (bk : Int) (pre : List InD) (x : InD) : Int :=
 if tabB x.op = false then 5
 else if hdB fs bk x = false then 6
 else if cntB fs f x = false then 6
 else if tgtB f x = false then 7
 else if argB ng ts fs f x = false then 8
 else if casB x = false then 8
 else if (decide (x.op = 20) && pre.any fun y => decide (y.op ≠ 20)) = true then 9
 else 0
def atF (ng : Nat) (ts : List Int) (fs : List FnD) (f : FnD) (bk : Int) (xs : List InD) (i : Nat) : Int :=
 if endB (xs.getD i default).op = decide (i + 1 = xs.length) then inF ng ts fs f bk (xs.take i) (xs.getD i default) else 4
abbrev FtD := Int × Int × Int × Int
def blF (ng : Nat) (ts : List Int) (fs : List FnD) (f : FnD) (fn : Nat) (bk : Nat) (xs : List InD) : Option FtD :=
 if xs.length = 0 then some (4, fn, bk, -1)
 else firstF (fun i => if atF ng ts fs f bk xs i = 0 then none else some (atF ng ts fs f bk xs i, fn, bk, i)) xs.length
def tysD (f : FnD) : List Int := f.params ++ tysOf (blPl 0 f.blocks)
def boF (ng : Nat) (fs : List FnD) (f : FnD) (fn : Nat) : Option FtD :=
 firstF (fun b => blF ng (tysD f) fs f fn b (f.blocks.getD b [])) f.blocks.length
def alS (x : InD) : Int := if x.op = 21 ∧ 0 < x.sz then x.sz else 0
def smB (f : FnD) : Bool := decide (f.blocks.length ≤ 40) && (decide (f.blocks.flatten.length ≤ 256) && decide ((f.blocks.flatten.map alS).sum ≤ 512))
def gloB (gs : List GlD) (k : Nat) : Bool :=
 let g := gs.getD k ⟨ByteArray.empty, 0, false, 0, []⟩
 nmB g.name && (((gs.take k).all fun h => decide (h.name ≠ g.name)) && (decide (0 ≤ g.link) && (decide (g.link ≤ 3) && (decide (1 ≤ g.size) && (decide (g.size ≤ 256) && (decide ((g.bytes.length : Int) ≤ g.size) && (decide (g.link ≠ 0) || decide (g.bytes.length = 0))))))))
def sigB (f : FnD) : Bool := decide (f.params.length ≤ 6) && ((f.params.all vtB) && (decide (f.res = 0) || vtB f.res))
def heaB (gs : List GlD) (fs : List FnD) (k : Nat) : Bool :=
 let f := calD fs k
 nmB f.name && ((gs.all fun h => decide (h.name ≠ f.name)) && (((fs.take k).all fun h => decide (h.name ≠ f.name)) && (decide (0 ≤ f.link) && (decide (f.link ≤ 3) && (sigB f && (decide (decide (f.link = 0) = decide (f.blocks.length = 0)) && smB f))))))
def shF (gs : List GlD) (fs : List FnD) : FtD :=
 if 12 < gs.length ∨ 12 < fs.length then (1, -1, -1, -1)
 else ((firstF (fun i => if gloB gs i = true then none else some (2, -1, -1, (i : Int))) gs.length).or
  (firstF (fun k => if heaB gs fs k = true then boF gs.length fs (calD fs k) k else some (3, (k : Int), -1, -1)) fs.length)).getD (0, 0, 0, 0)
end Go.Proofs.YtgdcgjlmkmdklaaGreatDoor

namespace Go.Proofs.YtgdcgjlmkmdklaaGreatDoor
open Go.ChangeShapes Go.WideShapes Go.ChangeAt Go.RowKit
set_option linter.unusedVariables false
set_option linter.unusedSimpArgs false
def isIx (n : Int) (m : Nat) : Bool := decide (0 ≤ n) && decide (n < m)
set_option maxHeartbeats 1000000 in
theorem isIx_e (n : Int) (m : Nat) (w : World) (hm : m ≤ 140737488355328) :
  Calls Tryz.prog 31 #[.int .i64 n, .int .i64 m] w fun e w' => e = .returned (.bool (isIx n m)) ∧ w' = w := by
 have g1 : (m : Int) ≤ 140737488355328 := by omega
 unfold isIx
 by_cases h0 : 0 ≤ n
 ·by_cases h1 : n < m
  ·exact tl121
  ·exact tl121
 ·go_enter Tryz.func31, Tryz.ntmps31
  go_wp2_with fail
  go_ret
  exact ⟨by simp; omega, rfl⟩
theorem isIx_c (n : Int) (m : Nat) (w : World) (hm : m ≤ 140737488355328) :
  Calls Tryz.prog 31 #[.int .i64 n, .int .i64 m] w fun e w' => e = .returned (.bool (isIx n m)) ∧ Below w.heap.size w w' :=
 (isIx_e n m w hm).mono (fun _ _ h => ⟨h.1, by rw [h.2]; exact Below.refl _ _⟩)
end Go.Proofs.YtgdcgjlmkmdklaaGreatDoor

namespace Go.Proofs.YtgdcgjlmkmdklaaGreatDoor
open Go.ChangeShapes Go.WideShapes Go.ChangeAt Go.RowKit
set_option linter.unusedVariables false
set_option linter.unusedSimpArgs false
theorem nb {x k : Int} (h : ¬ x = k) : (x == k) = false := beq_eq_false_iff_ne.2 h
set_option maxHeartbeats 1000000 in
theorem flgsS (x : Int) (w : World) :
  Calls Tryz.prog 132 #[.int .i64 x] w fun e w' => e = .returned (.int .i64 (flgs x)) ∧ w' = w := by
 by_cases h : x = 1 ∨ x = 2 ∨ x = 3 ∨ x = 8 ∨ x = 4 ∨ x = 5 ∨ x = 9 ∨ x = 10
 ·rcases h with rfl | rfl | rfl | rfl | rfl | rfl | rfl | rfl
  all_goals
   go_enter Tryz.func132, Tryz.ntmps132
   go_wp2
   go_ret
   exact ⟨rfl, rfl⟩
 ·have G : Kp (flgs x = 0) := ⟨by unfold flgs; rw [if_neg (by omega), if_neg (by omega)]⟩
  have e1 := nb (x := x) (k := 1) (by omega)
  have e2 := nb (x := x) (k := 2) (by omega)
  have e3 := nb (x := x) (k := 3) (by omega)
  have e4 := nb (x := x) (k := 4) (by omega)
  have e5 := nb (x := x) (k := 5) (by omega)
  have e8 := nb (x := x) (k := 8) (by omega)
  have e9 := nb (x := x) (k := 9) (by omega)
  have e10 := nb (x := x) (k := 10) (by omega)
  clear h
  go_enter Tryz.func132, Tryz.ntmps132
  go_wp2
  go_ret
  exact ⟨ret_int G.out.symm, rfl⟩
def famN (x : Int) : Int :=
 if x = 1 ∨ x = 2 ∨ x = 3 then 1 else if x = 4 ∨ x = 6 then 2 else if x = 5 ∨ x = 7 then 3 else if x = 8 then 4 else if x = 9 ∨ x = 10 then 5 else if x = 11 ∨ x = 12 ∨ x = 13 then 6 else 0
set_option maxHeartbeats 1000000 in
theorem famI (x : Int) (w : World) :
  Calls Tryz.prog 153 #[.int .i64 x] w fun e w' => e = .returned (.int .i64 (famN x)) ∧ w' = w := by
 by_cases h : 1 ≤ x ∧ x ≤ 13
 ·have h' : x = 1 ∨ x = 2 ∨ x = 3 ∨ x = 4 ∨ x = 5 ∨ x = 6 ∨ x = 7 ∨ x = 8 ∨ x = 9 ∨ x = 10 ∨ x = 11 ∨ x = 12 ∨ x = 13 := by omega
  clear h
  rcases h' with rfl | rfl | rfl | rfl | rfl | rfl | rfl | rfl | rfl | rfl | rfl | rfl | rfl
  all_goals
   go_enter Tryz.func153, Tryz.ntmps153
   go_wp2
   go_ret
   exact ⟨rfl, rfl⟩
 ·have G : Kp (famN x = 0) := ⟨by unfold famN; repeat rw [if_neg (by omega)]⟩
  have e1 := nb (x := x) (k := 1) (by omega)
  have e2 := nb (x := x) (k := 2) (by omega)
  have e3 := nb (x := x) (k := 3) (by omega)
  have e4 := nb (x := x) (k := 4) (by omega)
  have e5 := nb (x := x) (k := 5) (by omega)
  have e6 := nb (x := x) (k := 6) (by omega)
  have e7 := nb (x := x) (k := 7) (by omega)
  have e8 := nb (x := x) (k := 8) (by omega)
  have e9 := nb (x := x) (k := 9) (by omega)
  have e10 := nb (x := x) (k := 10) (by omega)
  have e11 := nb (x := x) (k := 11) (by omega)
  have e12 := nb (x := x) (k := 12) (by omega)
  have e13 := nb (x := x) (k := 13) (by omega)
  clear h
  go_enter Tryz.func153, Tryz.ntmps153
  go_wp2
  go_ret
  exact ⟨ret_int G.out.symm, rfl⟩
set_option maxHeartbeats 1000000 in
theorem remI (x : Int) (w : World) :
  Calls Tryz.prog 238 #[.int .i64 x] w fun e w' => e = .returned (.bool (decide (x = 6) || decide (x = 7))) ∧ w' = w := by
 by_cases h6 : x = 6
 ·subst h6
  exact tl107
 ·by_cases h7 : x = 7
  ·subst h7
   exact tl107
  ·have e6 := nb h6
   have e7 := nb h7
   have G : Kp ((decide (x = 6) || decide (x = 7)) = false) := ⟨by simp [h6, h7]⟩
   clear h6 h7
   rw [G.out]
   exact tl107
set_option maxHeartbeats 1000000 in
theorem flgsI (x : Int) (w : World) :
  Calls Tryz.prog 237 #[.int .i64 x] w fun e w' => e = .returned (.int .i64 (flgs x)) ∧ w' = w := by
 by_cases h : 1 ≤ x ∧ x ≤ 13
 ·have h' : x = 1 ∨ x = 2 ∨ x = 3 ∨ x = 4 ∨ x = 5 ∨ x = 6 ∨ x = 7 ∨ x = 8 ∨ x = 9 ∨ x = 10 ∨ x = 11 ∨ x = 12 ∨ x = 13 := by omega
  clear h
  rcases h' with rfl | rfl | rfl | rfl | rfl | rfl | rfl | rfl | rfl | rfl | rfl | rfl | rfl
  all_goals
   go_enter Tryz.func237, Tryz.ntmps237
   go_wp2_with (first | (go_at_call 153; refine (famI _ _).mono ?_; rintro e w' ⟨rfl, rfl⟩) | (go_at_call 238; refine (remI _ _).mono ?_; rintro e w' ⟨rfl, rfl⟩))
   go_ret
   exact ⟨rfl, rfl⟩
 ·have G : Kp (flgs x = 0) := ⟨by unfold flgs; repeat rw [if_neg (by omega)]⟩
  have F : Kp (∀ w, Calls Tryz.prog 153 #[.int .i64 x] w fun e w' => e = .returned (.int .i64 0) ∧ w' = w) := ⟨fun w => by
   have q := famI x w
   rwa [show famN x = 0 by unfold famN; repeat rw [if_neg (by omega)]] at q⟩
  clear h
  go_enter Tryz.func237, Tryz.ntmps237
  go_wp2_with (first | (go_at_call 153; refine (F.out _).mono ?_; rintro e w' ⟨rfl, rfl⟩))
  go_ret
  exact ⟨ret_int G.out.symm, rfl⟩
set_option maxHeartbeats 1000000 in
theorem tabS (x : Int) (w : World) :
  Calls Tryz.prog 87 #[.int .i64 x] w fun e w' => e = .returned (.bool (tabB x)) ∧ w' = w := by
 go_enter Tryz.func87, Tryz.ntmps87
 go_wp2
 all_goals
  go_ret
  refine ⟨ret_bool ?_, rfl⟩
  rw [Bool.eq_iff_iff]
  simp [tabB] <;> omega
def swpN (x : Int) : Int := if x = 1 ∨ x = 2 then x else if x = 3 then 5 else if x = 4 then 6 else if x = 5 then 3 else if x = 6 then 4 else if x = 7 then 9 else if x = 8 then 10 else if x = 9 then 7 else if x = 10 then 8 else 0
theorem swpN_ne (x : Int) : decide (swpN x ≠ 0) = (decide (1 ≤ x) && decide (x ≤ 10)) := by
 rw [Bool.eq_iff_iff]
 simp only [decide_eq_true_eq, Bool.and_eq_true]
 constructor
 ·intro h
  by_cases q : 1 ≤ x ∧ x ≤ 10
  ·exact q
  ·exact absurd (by unfold swpN; repeat rw [if_neg (by omega)]) h
 ·rintro ⟨h1, h2⟩
  have h' : x = 1 ∨ x = 2 ∨ x = 3 ∨ x = 4 ∨ x = 5 ∨ x = 6 ∨ x = 7 ∨ x = 8 ∨ x = 9 ∨ x = 10 := by omega
  rcases h' with rfl | rfl | rfl | rfl | rfl | rfl | rfl | rfl | rfl | rfl <;> decide
set_option maxHeartbeats 1000000 in
theorem swpI (x : Int) (w : World) :
  Calls Tryz.prog 217 #[.int .i64 x] w fun e w' => e = .returned (.int .i64 (swpN x)) ∧ w' = w := by
 by_cases h : 1 ≤ x ∧ x ≤ 10
 ·have h' : x = 1 ∨ x = 2 ∨ x = 3 ∨ x = 4 ∨ x = 5 ∨ x = 6 ∨ x = 7 ∨ x = 8 ∨ x = 9 ∨ x = 10 := by omega
  clear h
  rcases h' with rfl | rfl | rfl | rfl | rfl | rfl | rfl | rfl | rfl | rfl
  all_goals
   go_enter Tryz.func217, Tryz.ntmps217
   go_wp2
   go_ret
   exact ⟨rfl, rfl⟩
 ·have G : Kp (swpN x = 0) := ⟨by unfold swpN; repeat rw [if_neg (by omega)]⟩
  have e1 := nb (x := x) (k := 1) (by omega)
  have e2 := nb (x := x) (k := 2) (by omega)
  have e3 := nb (x := x) (k := 3) (by omega)
  have e4 := nb (x := x) (k := 4) (by omega)
  have e5 := nb (x := x) (k := 5) (by omega)
  have e6 := nb (x := x) (k := 6) (by omega)
  have e7 := nb (x := x) (k := 7) (by omega)
  have e8 := nb (x := x) (k := 8) (by omega)
  have e9 := nb (x := x) (k := 9) (by omega)
  have e10 := nb (x := x) (k := 10) (by omega)
  clear h
  go_enter Tryz.func217, Tryz.ntmps217
  go_wp2
  go_ret
  exact ⟨ret_int G.out.symm, rfl⟩
theorem isS_any (x v : Int) (w : World) (h0 : 0 ≤ v) (h1 : v ≤ 18446744073709551615) :
  Calls Tryz.prog 92 #[.int .i64 x, .int .u64 v] w fun e w' => e = .returned (.bool (isW x v)) ∧ w' = w := by
 cases h : isW x v with
 | true => exact isS_yes x v w h0 h1 h
 | false => exact isS_no x v w h0 h1 h
theorem isWord_any (x v : Int) (w : World) (hw : Wid w) (h0 : 0 ≤ v) (h1 : v ≤ 18446744073709551615) :
  Calls Tryz.prog 155 #[.int .i64 x, .int .u64 v] w fun e w' => e = .returned (.bool (isW x v)) ∧ w' = w := by
 cases h : isW x v with
 | true => exact isWord_yes x v w hw h0 h1 h
 | false => exact isWord_no x v w hw h0 h1 h
theorem vwS_any (x : Int) (w : World) :
  Calls Tryz.prog 86 #[.int .i64 x] w fun e w' => e = .returned (.bool (vw x)) ∧ w' = w := by
 cases h : vw x with
 | true => exact vwS_yes x w h
 | false => exact vwS_no x w h
end Go.Proofs.YtgdcgjlmkmdklaaGreatDoor

namespace Go.Proofs.YtgdcgjlmkmdklaaGreatDoor
open Go.ChangeShapes Go.WideShapes Go.ChangeAt Go.RowKit
set_option linter.unusedVariables false
set_option linter.unusedSimpArgs false
abbrev opV4 (q : OpD) : Value := .agg #[.int .i64 q.k, .int .i64 q.t, .int .i64 q.i, .int .u64 q.w]
theorem cells_at {w : World} {b : Nat} {arr : Array Value} {t : TypeId} (h : w.heap[b]? = some (Go.Obj.cells arr t (0, 0))) {j : Nat} {v : Value} (hj : arr[j]? = some v) : At w b j v := by
 show World.cell? _ _ = _
 simp [World.cell?, h, hj]
theorem new_at (w : World) (o : Obj) : (w.alloc o).heap[w.heap.size]? = some o := (MapKept.heap_alloc w o).1
theorem kept_at {w w' : World} {b : Nat} {o : Obj} (h : w.heap[b]? = some o) (hb : Below w.heap.size w w') : w'.heap[b]? = some o := (hb.block b (Array.getElem?_eq_some_iff.1 h).1).trans h
set_option maxRecDepth 100000 in
set_option maxHeartbeats 2000000 in
theorem l2Op (a1 : Option Addr) (ng c1 : Nat) (vf vt : Value) (ts : List Int) (o : OpD) (w : World) {lo : Nat} (ht : Ints lo .i64 w vt ts) (hn : ng ≤ 140737488355328) (hf : ∃ a n c, vf = .slice a n c) (h0 : 0 ≤ o.w) (h1 : o.w ≤ 18446744073709551615) :
  Calls Tryz.prog 90 #[.agg #[.slice a1 ng c1, vf], vt, opV4 o] w fun e w' => e = .returned (.bool (opB ng ts o)) ∧ Below w.heap.size w w' := by
 obtain ⟨k, t, i, x⟩ := o
 obtain ⟨a2, n2, c2, rfl⟩ := hf
 obtain ⟨bt, ot, ⟨⟨at', ct, rfl, s1, s2⟩, s3⟩, -, hc⟩ := ht.ex
 dsimp only [opV4] at *
 have g1 : (ng : Int) ≤ 140737488355328 := by omega
 have g2 : (ts.length : Int) ≤ 140737488355328 := by omega
 have IS : Kp (∀ w, Calls Tryz.prog 92 #[.int .i64 t, .int .u64 x] w fun e w' => e = .returned (.bool (isW t x)) ∧ w' = w) := ⟨fun w => isS_any t x w h0 h1⟩
 have VT : Kp (∀ w, Calls Tryz.prog 46 #[.int .i64 t] w fun e w' => e = .returned (.bool (vtB t)) ∧ w' = w) := ⟨fun w => vtS t w⟩
 replace hc := Kp.mk hc
 replace s2 := Kp.mk s2
 clear ht
 by_cases e1 : k = 1
 ·subst e1
  by_cases ei : i = 0
  ·subst ei
   have G : Kp (opB ng ts ⟨1, t, 0, x⟩ = isW t x) := ⟨by simp [opB]⟩
   rw [G.out]
   generalize isW t x = R at *
   go_enter Tryz.func90, Tryz.ntmps90
   go_wp2_with (first | (go_at_call 92; refine (IS.out _).mono ?_; rintro e w' ⟨rfl, rfl⟩))
   go_ret
   exact ⟨by cases R <;> rfl, bel_trans (bel_alloc _ _) (bel_alloc _ _)⟩
  ·have G : Kp (opB ng ts ⟨1, t, i, x⟩ = false) := ⟨by simp [opB, ei]⟩
   exact tl160
 by_cases e2 : k = 2
 ·subst e2
  by_cases ee : t = 65 ∧ i = 0 ∧ x = 0
  ·obtain ⟨rfl, rfl, rfl⟩ := ee
   have G : Kp (opB ng ts ⟨2, 65, 0, 0⟩ = true) := ⟨by simp [opB]⟩
   rw [G.out]
   go_enter Tryz.func90, Tryz.ntmps90
   exact tl11
  ·have G : Kp (opB ng ts ⟨2, t, i, x⟩ = false) := ⟨by
    rw [Bool.eq_false_iff]
    intro q
    simp [opB] at q
    exact ee ⟨q.1.1, q.1.2, q.2⟩⟩
   rw [G.out]
   go_enter Tryz.func90, Tryz.ntmps90
   go_wp2_with fail
   all_goals
    go_ret
    exact ⟨ret_bool (by first | rfl | (simp; omega) | omega), bel_trans (bel_alloc _ _) (bel_alloc _ _)⟩
 by_cases e3 : k = 3
 ·subst e3
  by_cases ei : i = 0
  ·by_cases ex : x = 0
   ·subst ei ex
    have G : Kp (opB ng ts ⟨3, t, 0, 0⟩ = vtB t) := ⟨by simp [opB]⟩
    rw [G.out]
    generalize vtB t = R at *
    go_enter Tryz.func90, Tryz.ntmps90
    go_wp2_with (first | (go_at_call 46; refine (VT.out _).mono ?_; rintro e w' ⟨rfl, rfl⟩))
    go_ret
    exact ⟨by cases R <;> rfl, bel_trans (bel_alloc _ _) (bel_alloc _ _)⟩
   ·have G : Kp (opB ng ts ⟨3, t, i, x⟩ = false) := ⟨by simp [opB, ex]⟩
    rw [G.out]
    subst ei
    have ex' := nb ex
    clear ex
    go_enter Tryz.func90, Tryz.ntmps90
    exact tl11
  ·have G : Kp (opB ng ts ⟨3, t, i, x⟩ = false) := ⟨by simp [opB, ei]⟩
   exact tl160
 by_cases e5 : k = 5
 ·subst e5
  by_cases ee : x = 0 ∧ t = 65 ∧ 0 ≤ i
  ·obtain ⟨rfl, rfl, h2⟩ := ee
   by_cases hi : i < ng
   ·have G : Kp (opB ng ts ⟨5, 65, i, 0⟩ = true) := ⟨by simp [opB]; omega⟩
    rw [G.out]
    go_enter Tryz.func90, Tryz.ntmps90
    exact tl11
   ·have G : Kp (opB ng ts ⟨5, 65, i, 0⟩ = false) := ⟨by rw [Bool.eq_false_iff]; simp [opB]; omega⟩
    rw [G.out]
    go_enter Tryz.func90, Tryz.ntmps90
    exact tl11
  ·have G : Kp (opB ng ts ⟨5, t, i, x⟩ = false) := ⟨by rw [Bool.eq_false_iff]; simp [opB]; omega⟩
   rw [G.out]
   by_cases ex : x = 0
   ·subst ex
    by_cases et : t = 65
    ·subst et
     have h2 : ¬ 0 ≤ i := by omega
     clear ee
     go_enter Tryz.func90, Tryz.ntmps90
     exact tl11
    ·have et' := nb et
     clear et ee
     go_enter Tryz.func90, Tryz.ntmps90
     exact tl11
   ·have ex' := nb ex
    clear ex ee
    go_enter Tryz.func90, Tryz.ntmps90
    exact tl11
 by_cases e4 : k = 4
 ·subst e4
  obtain ⟨W0, hW⟩ : ∃ W0, W0 = (w.alloc (Go.Obj.cells #[.slice a1 ng c1, .slice a2 n2 c2] 33)).alloc (Go.Obj.cells #[.int .i64 4, .int .i64 t, .int .i64 i, .int .u64 x] 135) := ⟨_, rfl⟩
  have B0 : Below w.heap.size w W0 := by rw [hW]; exact bel_trans (bel_alloc _ _) (bel_alloc _ _)
  have h2 : W0.heap[w.heap.size + 1]? = some (Go.Obj.cells #[.int .i64 4, .int .i64 t, .int .i64 i, .int .u64 x] 135) := by
   rw [hW]
   have := new_at (w.alloc (Go.Obj.cells #[.slice a1 ng c1, .slice a2 n2 c2] 33)) (Go.Obj.cells #[.int .i64 4, .int .i64 t, .int .i64 i, .int .u64 x] 135)
   rwa [World.size_alloc] at this
  have p0 : At W0 (w.heap.size + 1) 0 _ := cells_at h2 rfl
  have p1 : At W0 (w.heap.size + 1) 1 _ := cells_at h2 rfl
  have p2 : At W0 (w.heap.size + 1) 2 _ := cells_at h2 rfl
  have p3 : At W0 (w.heap.size + 1) 3 _ := cells_at h2 rfl
  clear h2
  replace hW := Kp.mk hW
  by_cases ex : x = 0
  ·subst ex
   by_cases ei : 0 ≤ i ∧ i < ts.length
   ·obtain ⟨i0, i1⟩ := ei
    obtain ⟨n, rfl⟩ := Int.eq_ofNat_of_zero_le i0
    have hlt : n < ts.length := by omega
    obtain rfl := s2.out (by omega)
    have hcn := at_keep (hc.out n hlt) B0
    have G : Kp (opB ng ts ⟨4, t, n, 0⟩ = decide (ts[n] = t)) := ⟨by simp [opB, hlt, List.getD_eq_getElem?_getD]⟩
    rw [G.out]
    by_cases q : ts[n] = t
    ·rw [q] at hcn
     have Q : Kp (decide (ts[n] = t) = true) := ⟨by simp [q]⟩
     rw [Q.out]
     clear q
     exact tl31
    ·have q' := nb q
     have Q : Kp (decide (ts[n] = t) = false) := ⟨by simp [q]⟩
     rw [Q.out]
     clear q
     generalize ts[n] = u at *
     exact tl31
   ·have G : Kp (opB ng ts ⟨4, t, i, 0⟩ = false) := ⟨by rw [Bool.eq_false_iff]; simp [opB]; omega⟩
    rw [G.out]
    by_cases i0 : 0 ≤ i
    ·have i1 : decide (i < (ts.length : Int)) = false := decide_eq_false (by omega)
     have i2 : decide (0 ≤ i) = true := decide_eq_true i0
     clear ei i0
     exact tl31
    ·have i2 : decide (0 ≤ i) = false := decide_eq_false i0
     clear ei i0
     exact tl31
  ·have G : Kp (opB ng ts ⟨4, t, i, x⟩ = false) := ⟨by simp [opB, ex]⟩
   rw [G.out]
   have ex' := nb ex
   clear ex
   exact tl31
 ·have G : Kp (opB ng ts ⟨k, t, i, x⟩ = false) := ⟨by simp [opB, e1, e2, e3, e4, e5]⟩
  rw [G.out]
  have f1 := nb e1
  have f2 := nb e2
  have f3 := nb e3
  have f4 := nb e4
  have f5 := nb e5
  clear e1 e2 e3 e4 e5
  go_enter Tryz.func90, Tryz.ntmps90
  exact tl11
end Go.Proofs.YtgdcgjlmkmdklaaGreatDoor
