/- Contracts over one translation: isWord and Signed of the program, l1Is, l1Mask, l1Top and Signed of its specification answer what the plain functions isW and sgnI say, at every argument. -/
import Derived.Test.YtikecpcgcccmoaaDoorWords1
namespace Go.Proofs.YtikecpcgcccmoaaDoor
open Go.ChangeShapes Go.WideShapes Go.ChangeAt Go.RowKit
set_option linter.unusedVariables false

theorem cut_same {x v : Int} (h : isW x v = true) : cutI x v = v := by
  obtain ⟨h0, h1⟩ := isW_bd h
  unfold cutI
  exact Int.emod_eq_of_lt h0 h1
theorem cut_other {x v : Int} (hx : vw x = true) (h : isW x v = false) : ¬ cutI x v = v := by
  intro e
  have hp : (0 : Int) < 2 ^ x.toNat := Int.pow_pos (by decide)
  have h0 : 0 ≤ v % 2 ^ x.toNat := Int.emod_nonneg _ (by omega)
  have h1 : v % 2 ^ x.toNat < 2 ^ x.toNat := Int.emod_lt_of_pos _ hp
  unfold cutI at e
  rw [e] at h0 h1
  simp [isW, hx] at h
  omega
theorem isW_no_vw {x v : Int} (h : vw x = false) : isW x v = false := by simp [isW, h]
set_option maxHeartbeats 1000000 in
theorem isWord_yes (x v : Int) (w : World) (hw : Wid w) (h0 : 0 ≤ v) (h1 : v ≤ 18446744073709551615) (h : isW x v = true) :
    Calls Tryd.prog 29 #[.int .i64 x, .int .u64 v] w fun e w' => e = .returned (.bool true) ∧ w' = w := by
  have hx : Hid (vw x = true) := isW_vw h
  have hc : (cutI x v == v) = true := by simp [cut_same h]
  clear h
  go_enter Tryd.func29, Tryd.ntmps29
  go_wp2_with (first | (go_at_call 45; refine (validWidth_yes _ _ hw hx.out).mono ?_; rintro e w' ⟨rfl, rfl⟩) | (go_at_call 46; refine (cut_impl _ _ _ hw hx.out h0 h1).mono ?_; rintro e w' ⟨rfl, rfl⟩))
  go_ret
  exact ⟨rfl, rfl⟩
set_option maxHeartbeats 1000000 in
theorem isWord_no (x v : Int) (w : World) (hw : Wid w) (h0 : 0 ≤ v) (h1 : v ≤ 18446744073709551615) (h : isW x v = false) :
    Calls Tryd.prog 29 #[.int .i64 x, .int .u64 v] w fun e w' => e = .returned (.bool false) ∧ w' = w := by
  cases hv : vw x with
  | false =>
    have hx : Hid (vw x = false) := hv
    clear h hv
    go_enter Tryd.func29, Tryd.ntmps29
    go_wp2_with (first | (go_at_call 45; refine (validWidth_no _ _ hw hx.out).mono ?_; rintro e w' ⟨rfl, rfl⟩))
    go_ret
    exact ⟨rfl, rfl⟩
  | true =>
    have hx : Hid (vw x = true) := hv
    have hc : (cutI x v == v) = false := beq_eq_false_iff_ne.2 (cut_other hv h)
    clear h hv
    go_enter Tryd.func29, Tryd.ntmps29
    go_wp2_with (first | (go_at_call 45; refine (validWidth_yes _ _ hw hx.out).mono ?_; rintro e w' ⟨rfl, rfl⟩) | (go_at_call 46; refine (cut_impl _ _ _ hw hx.out h0 h1).mono ?_; rintro e w' ⟨rfl, rfl⟩))
    go_ret
    exact ⟨rfl, rfl⟩
set_option maxHeartbeats 1000000 in
theorem isS_yes (x v : Int) (w : World) (h0 : 0 ≤ v) (h1 : v ≤ 18446744073709551615) (h : isW x v = true) :
    Calls Tryd.prog 23 #[.int .i64 x, .int .u64 v] w fun e w' => e = .returned (.bool true) ∧ w' = w := by
  have hx : Hid (vw x = true) := isW_vw h
  have hc : (v == cutI x v) = true := by simp [cut_same h]
  clear h
  go_enter Tryd.func23, Tryd.ntmps23
  go_wp2_with (first | (go_at_call 38; refine (validWidthS_yes _ _ hx.out).mono ?_; rintro e w' ⟨rfl, rfl⟩) | (go_at_call 39; refine (cut_spec _ _ _ hx.out h0 h1).mono ?_; rintro e w' ⟨rfl, rfl⟩))
  go_ret
  exact ⟨rfl, rfl⟩
set_option maxHeartbeats 1000000 in
theorem isS_no (x v : Int) (w : World) (h0 : 0 ≤ v) (h1 : v ≤ 18446744073709551615) (h : isW x v = false) :
    Calls Tryd.prog 23 #[.int .i64 x, .int .u64 v] w fun e w' => e = .returned (.bool false) ∧ w' = w := by
  cases hv : vw x with
  | false =>
    have hx : Hid (vw x = false) := hv
    clear h hv
    go_enter Tryd.func23, Tryd.ntmps23
    go_wp2_with (first | (go_at_call 38; refine (validWidthS_no _ _ hx.out).mono ?_; rintro e w' ⟨rfl, rfl⟩))
    go_ret
    exact ⟨rfl, rfl⟩
  | true =>
    have hx : Hid (vw x = true) := hv
    have hc : (v == cutI x v) = false := beq_eq_false_iff_ne.2 (fun e => cut_other hv h e.symm)
    clear h hv
    go_enter Tryd.func23, Tryd.ntmps23
    go_wp2_with (first | (go_at_call 38; refine (validWidthS_yes _ _ hx.out).mono ?_; rintro e w' ⟨rfl, rfl⟩) | (go_at_call 39; refine (cut_spec _ _ _ hx.out h0 h1).mono ?_; rintro e w' ⟨rfl, rfl⟩))
    go_ret
    exact ⟨rfl, rfl⟩
theorem sg1 (v : Int) (h0 : 0 ≤ v) (h1 : v < 2) : wrap64 (v * 9223372036854775808) / 9223372036854775808 = sgnI 1 v := by
  unfold wrap64 sgnI; simp; split <;> omega
theorem sg8 (v : Int) (h0 : 0 ≤ v) (h1 : v < 256) : wrap64 (v * 72057594037927936) / 72057594037927936 = sgnI 8 v := by
  unfold wrap64 sgnI; simp; split <;> omega
theorem sg16 (v : Int) (h0 : 0 ≤ v) (h1 : v < 65536) : wrap64 (v * 281474976710656) / 281474976710656 = sgnI 16 v := by
  unfold wrap64 sgnI; simp; split <;> omega
theorem sg32 (v : Int) (h0 : 0 ≤ v) (h1 : v < 4294967296) : wrap64 (v * 4294967296) / 4294967296 = sgnI 32 v := by
  unfold wrap64 sgnI; simp; split <;> omega
theorem sg64 (v : Int) (h0 : 0 ≤ v) (h1 : v < 18446744073709551616) : wrap64 v = sgnI 64 v := by
  unfold wrap64 sgnI; simp; split <;> omega
set_option maxHeartbeats 1000000 in
theorem signed_impl (x v : Int) (w : World) (hw : Wid w) (h0 : 0 ≤ v) (h1 : v ≤ 18446744073709551615) (h : isW x v = true) :
    Calls Tryd.prog 32 #[.int .i64 x, .int .u64 v] w fun e w' => e = .returned (.int .i64 (sgnI x v)) ∧ w' = w := by
  have H : Hid (isW x v = true) := h
  rcases vw_cases (isW_vw h) with rfl | rfl | rfl | rfl | rfl
  all_goals
    have bd := isW_bd h
    simp at bd
    clear h
    go_enter Tryd.func32, Tryd.ntmps32
    go_wp2_with (first | (go_at_call 29; refine (isWord_yes _ _ _ hw h0 h1 H.out).mono ?_; rintro e w' ⟨rfl, rfl⟩))
    go_ret
    refine ⟨ret_int ?_, rfl⟩
    first | exact sg1 v h0 bd.2 | exact sg8 v h0 bd.2 | exact sg16 v h0 bd.2 | exact sg32 v h0 bd.2 | exact sg64 v h0 bd.2
set_option maxHeartbeats 1000000 in
theorem signed_impl_no (x v : Int) (w : World) (hw : Wid w) (h0 : 0 ≤ v) (h1 : v ≤ 18446744073709551615) (h : isW x v = false) :
    Calls Tryd.prog 32 #[.int .i64 x, .int .u64 v] w fun e w' => e = .returned (.int .i64 0) ∧ w' = w := by
  have H : Hid (isW x v = false) := h
  clear h
  go_enter Tryd.func32, Tryd.ntmps32
  go_wp2_with (first | (go_at_call 29; refine (isWord_no _ _ _ hw h0 h1 H.out).mono ?_; rintro e w' ⟨rfl, rfl⟩))
  go_ret
  exact ⟨rfl, rfl⟩
set_option maxHeartbeats 1000000 in
theorem signed_spec_no (x v : Int) (w : World) (h0 : 0 ≤ v) (h1 : v ≤ 18446744073709551615) (h : isW x v = false) :
    Calls Tryd.prog 24 #[.int .i64 x, .int .u64 v] w fun e w' => e = .returned (.int .i64 0) ∧ w' = w := by
  have H : Hid (isW x v = false) := h
  clear h
  go_enter Tryd.func24, Tryd.ntmps24
  go_wp2_with (first | (go_at_call 23; refine (isS_no _ _ _ h0 h1 H.out).mono ?_; rintro e w' ⟨rfl, rfl⟩))
  go_ret
  exact ⟨rfl, rfl⟩
theorem ret_bool {a b : Bool} (h : a = b) : Ending.returned (.bool a) = .returned (.bool b) := by rw [h]
def topI (x v : Int) : Bool := decide (2 ^ (x.toNat - 1) ≤ v)
set_option maxHeartbeats 1000000 in
theorem top_spec (x v : Int) (w : World) (h0 : 0 ≤ v) (h : isW x v = true) :
    Calls Tryd.prog 40 #[.int .i64 x, .int .u64 v] w fun e w' => e = .returned (.bool (topI x v)) ∧ w' = w := by
  rcases vw_cases (isW_vw h) with rfl | rfl | rfl | rfl | rfl
  all_goals
    have bd := isW_bd h
    simp at bd
    clear h
    go_enter Tryd.func40, Tryd.ntmps40
    go_wp2
    go_ret
    refine ⟨ret_bool ?_, rfl⟩
    simp only [topI]
    rw [Bool.eq_iff_iff]
    simp
    try omega
theorem top_yes (x v : Int) (w : World) (h0 : 0 ≤ v) (h : isW x v = true) (ht : topI x v = true) :
    Calls Tryd.prog 40 #[.int .i64 x, .int .u64 v] w fun e w' => e = .returned (.bool true) ∧ w' = w := by
  rw [← ht]; exact top_spec x v w h0 h
theorem top_no (x v : Int) (w : World) (h0 : 0 ≤ v) (h : isW x v = true) (ht : topI x v = false) :
    Calls Tryd.prog 40 #[.int .i64 x, .int .u64 v] w fun e w' => e = .returned (.bool false) ∧ w' = w := by
  rw [← ht]; exact top_spec x v w h0 h
set_option maxHeartbeats 1000000 in
theorem mask_spec (x : Int) (w : World) (hx : vw x = true) :
    Calls Tryd.prog 41 #[.int .i64 x] w fun e w' => e = .returned (.int .u64 (2 ^ x.toNat - 1)) ∧ w' = w := by
  rcases vw_cases hx with rfl | rfl | rfl | rfl | rfl
  all_goals
    clear hx
    go_enter Tryd.func41, Tryd.ntmps41
    go_wp2
    go_ret
    exact ⟨ret_int (by decide), rfl⟩
theorem or_high (k : Nat) (hk : k ≤ 64) (v m : Int) (h0 : 0 ≤ v) (h1 : v < 2 ^ k) (hm : m = 18446744073709551616 - 2 ^ k) : bits .or .u64 v m = v + m := by
  have hp : (2 : Int) ^ k ≤ 2 ^ 64 := by exact_mod_cast Nat.pow_le_pow_right (by decide) hk
  have hp0 : (0 : Int) < 2 ^ k := Int.pow_pos (by decide)
  have hq : ((2 : Int) ^ k) = ((2 ^ k : Nat) : Int) := by simp
  by_cases h64 : k = 64
  · subst h64
    simp at h1 hm
    subst hm
    rw [u64_or v 0 h0 (by omega) (by omega) (by omega)]
    simp; omega
  · have hk' : k < 64 := by omega
    have hp' : (2 : Int) ^ k < 2 ^ 64 := by exact_mod_cast Nat.pow_lt_pow_right (by decide) hk'
    rw [u64_or v m h0 (by omega) (by omega) (by omega), Nat.or_comm, nat_join k m.toNat v.toNat]
    · omega
    · have hd : 2 ^ k ∣ (2 ^ 64 : Nat) := Nat.pow_dvd_pow 2 hk
      have e : m.toNat = 2 ^ 64 - 2 ^ k := by
        rw [hm, hq]; omega
      rw [e]
      exact Nat.mod_eq_zero_of_dvd (Nat.dvd_sub hd (Nat.dvd_refl _))
    · rw [hq] at h1; omega
theorem so1 (v : Int) (h0 : 0 ≤ v) (h1 : v < 2) (ht : topI 1 v = true) : wrap64 (bits .or .u64 v (bits .xor .u64 IntKind.u64.max 1)) = sgnI 1 v := by
  rw [or_high 1 (by decide) v _ h0 h1 (by decide)]
  have e : bits .xor .u64 IntKind.u64.max 1 = 18446744073709551614 := by decide
  rw [e]; simp [topI] at ht; unfold wrap64 sgnI; simp; split <;> omega
theorem so8 (v : Int) (h0 : 0 ≤ v) (h1 : v < 256) (ht : topI 8 v = true) : wrap64 (bits .or .u64 v (bits .xor .u64 IntKind.u64.max 255)) = sgnI 8 v := by
  rw [or_high 8 (by decide) v _ h0 h1 (by decide)]
  have e : bits .xor .u64 IntKind.u64.max 255 = 18446744073709551360 := by decide
  rw [e]; simp [topI] at ht; unfold wrap64 sgnI; simp; split <;> omega
theorem so16 (v : Int) (h0 : 0 ≤ v) (h1 : v < 65536) (ht : topI 16 v = true) : wrap64 (bits .or .u64 v (bits .xor .u64 IntKind.u64.max 65535)) = sgnI 16 v := by
  rw [or_high 16 (by decide) v _ h0 h1 (by decide)]
  have e : bits .xor .u64 IntKind.u64.max 65535 = 18446744073709486080 := by decide
  rw [e]; simp [topI] at ht; unfold wrap64 sgnI; simp; split <;> omega
theorem so32 (v : Int) (h0 : 0 ≤ v) (h1 : v < 4294967296) (ht : topI 32 v = true) : wrap64 (bits .or .u64 v (bits .xor .u64 IntKind.u64.max 4294967295)) = sgnI 32 v := by
  rw [or_high 32 (by decide) v _ h0 h1 (by decide)]
  have e : bits .xor .u64 IntKind.u64.max 4294967295 = 18446744069414584320 := by decide
  rw [e]; simp [topI] at ht; unfold wrap64 sgnI; simp; split <;> omega
theorem so64 (v : Int) (h0 : 0 ≤ v) (h1 : v < 18446744073709551616) (ht : topI 64 v = true) : wrap64 (bits .or .u64 v (bits .xor .u64 IntKind.u64.max 18446744073709551615)) = sgnI 64 v := by
  rw [or_high 64 (by decide) v _ h0 h1 (by decide)]
  have e : bits .xor .u64 IntKind.u64.max 18446744073709551615 = 0 := by decide
  rw [e]; simp [topI] at ht; unfold wrap64 sgnI; simp; split <;> omega
set_option maxHeartbeats 1000000 in
theorem signed_spec (x v : Int) (w : World) (h0 : 0 ≤ v) (h1 : v ≤ 18446744073709551615) (h : isW x v = true) :
    Calls Tryd.prog 24 #[.int .i64 x, .int .u64 v] w fun e w' => e = .returned (.int .i64 (sgnI x v)) ∧ w' = w := by
  have H : Hid (isW x v = true) := h
  cases ht : topI x v with
  | false =>
    have T : Hid (topI x v = false) := ht
    have bd := isW_bd h
    have lt : v < 2 ^ (x.toNat - 1) := by simpa [topI] using ht
    have h63 : v < 9223372036854775808 := by
      rcases vw_cases (isW_vw h) with rfl | rfl | rfl | rfl | rfl <;> simp at lt <;> omega
    have S : Hid (v = sgnI x v) := by unfold sgnI; rw [if_pos lt]; rfl
    clear h ht bd lt
    go_enter Tryd.func24, Tryd.ntmps24
    go_wp2_with (first | (go_at_call 23; refine (isS_yes _ _ _ h0 h1 H.out).mono ?_; rintro e w' ⟨rfl, rfl⟩) | (go_at_call 40; refine (top_no _ _ _ h0 H.out T.out).mono ?_; rintro e w' ⟨rfl, rfl⟩))
    go_ret
    exact ⟨ret_int S.out, rfl⟩
  | true =>
    have T : Hid (topI x v = true) := ht
    rcases vw_cases (isW_vw h) with rfl | rfl | rfl | rfl | rfl
    all_goals
      have bd := isW_bd h
      simp at bd
      clear h ht
      go_enter Tryd.func24, Tryd.ntmps24
      go_wp2_with (first | (go_at_call 23; refine (isS_yes _ _ _ h0 h1 H.out).mono ?_; rintro e w' ⟨rfl, rfl⟩) | (go_at_call 40; refine (top_yes _ _ _ h0 H.out T.out).mono ?_; rintro e w' ⟨rfl, rfl⟩) | (go_at_call 41; refine (mask_spec _ _ (by decide)).mono ?_; rintro e w' ⟨rfl, rfl⟩))
      go_ret
      refine ⟨ret_int ?_, rfl⟩
      first | exact so1 v h0 bd.2 T.out | exact so8 v h0 bd.2 T.out | exact so16 v h0 bd.2 T.out | exact so32 v h0 bd.2 T.out | exact so64 v h0 bd.2 T.out
end Go.Proofs.YtikecpcgcccmoaaDoor
