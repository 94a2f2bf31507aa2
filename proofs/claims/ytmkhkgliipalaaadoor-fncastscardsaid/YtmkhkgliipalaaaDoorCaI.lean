/- Contracts over one translation: Cast of the program where it answers and where it refuses; plain facts about casts and about texts. -/
import Derived.Test.YtmkhkgliipalaaaDoorLwB
import Derived.Test.YtmkhkgliipalaaaDoorPrs3
import Derived.Lib.QuietBelow
import Derived.BigQuiet
namespace Go.Proofs.YtmkhkgliipalaaaDoor
open Go.ChangeShapes Go.WideShapes Go.ChangeAt Go.RowKit
open Go.Lib hiding intOf
set_option linter.unusedVariables false
set_option linter.unusedSimpArgs false
set_option maxHeartbeats 2000000 in
theorem cEb_impl (op x y v : Int) (w : World) (hw : Wid w) (v0 : 0 ≤ v) (v1 : v ≤ 18446744073709551615) (hv : isW x v = true) (ht : vw y = true) (ho : op = 16) (hl : ¬ x < y) :
    Calls Tryd.prog 19 #[.int .i64 op, .int .i64 x, .int .i64 y, .int .u64 v] w fun e w' => e = .returned (.agg #[.int .i64 3, .int .u64 (0)]) ∧ Below w.heap.size w w' := by
  have HV : Hid (isW x v = true) := hv
  have HT : Hid (vw y = true) := ht
  clear hv ht
  subst ho
  go_enter Tryd.func19, Tryd.ntmps19
  go_wp2_with (first | (go_at_call 26; refine (isWord_yes _ _ _ (by first | exact hw | exact hw.below (bel_alloc _ _) | exact hw.below (bel_trans (bel_alloc _ _) (bel_alloc _ _))) v0 v1 HV.out).mono ?_; rintro e w' ⟨rfl, rfl⟩) | (go_at_call 34; refine (validWidth_yes _ _ (by first | exact hw | exact hw.below (bel_alloc _ _) | exact hw.below (bel_trans (bel_alloc _ _) (bel_alloc _ _))) HT.out).mono ?_; rintro e w' ⟨rfl, rfl⟩) | (go_at_call 14; refine (signed_impl _ _ _ (by first | exact hw | exact hw.below (bel_alloc _ _) | exact hw.below (bel_trans (bel_alloc _ _) (bel_alloc _ _))) v0 v1 HV.out).mono ?_; rintro e w' ⟨rfl, rfl⟩) | (go_at_call 16; refine (cut_impl _ _ _ (by first | exact hw | exact hw.below (bel_alloc _ _) | exact hw.below (bel_trans (bel_alloc _ _) (bel_alloc _ _))) HT.out (by first | exact v0 | exact (wrapU_bd _).1) (by first | exact v1 | exact (wrapU_bd _).2)).mono ?_; rintro e w' ⟨rfl, rfl⟩))
  all_goals exact bodyPost_ret (v := .agg #[.int .i64 3, .int .u64 (0)]) (by simp [results, Tryd.results19, go_sem]) rfl ⟨rfl, by first | exact bel_alloc _ _ | exact bel_trans (bel_alloc _ _) (bel_alloc _ _)⟩
set_option maxHeartbeats 2000000 in
theorem cGb_impl (op x y v : Int) (w : World) (hw : Wid w) (v0 : 0 ≤ v) (v1 : v ≤ 18446744073709551615) (hv : isW x v = true) (ht : vw y = true) (ho : op = 18) (hl : ¬ y < x) :
    Calls Tryd.prog 19 #[.int .i64 op, .int .i64 x, .int .i64 y, .int .u64 v] w fun e w' => e = .returned (.agg #[.int .i64 3, .int .u64 (0)]) ∧ Below w.heap.size w w' := by
  have HV : Hid (isW x v = true) := hv
  have HT : Hid (vw y = true) := ht
  clear hv ht
  subst ho
  go_enter Tryd.func19, Tryd.ntmps19
  go_wp2_with (first | (go_at_call 26; refine (isWord_yes _ _ _ (by first | exact hw | exact hw.below (bel_alloc _ _) | exact hw.below (bel_trans (bel_alloc _ _) (bel_alloc _ _))) v0 v1 HV.out).mono ?_; rintro e w' ⟨rfl, rfl⟩) | (go_at_call 34; refine (validWidth_yes _ _ (by first | exact hw | exact hw.below (bel_alloc _ _) | exact hw.below (bel_trans (bel_alloc _ _) (bel_alloc _ _))) HT.out).mono ?_; rintro e w' ⟨rfl, rfl⟩) | (go_at_call 14; refine (signed_impl _ _ _ (by first | exact hw | exact hw.below (bel_alloc _ _) | exact hw.below (bel_trans (bel_alloc _ _) (bel_alloc _ _))) v0 v1 HV.out).mono ?_; rintro e w' ⟨rfl, rfl⟩) | (go_at_call 16; refine (cut_impl _ _ _ (by first | exact hw | exact hw.below (bel_alloc _ _) | exact hw.below (bel_trans (bel_alloc _ _) (bel_alloc _ _))) HT.out (by first | exact v0 | exact (wrapU_bd _).1) (by first | exact v1 | exact (wrapU_bd _).2)).mono ?_; rintro e w' ⟨rfl, rfl⟩))
  all_goals exact bodyPost_ret (v := .agg #[.int .i64 3, .int .u64 (0)]) (by simp [results, Tryd.results19, go_sem]) rfl ⟨rfl, by first | exact bel_alloc _ _ | exact bel_trans (bel_alloc _ _) (bel_alloc _ _)⟩
set_option maxHeartbeats 2000000 in
theorem cE_impl (op x y v : Int) (w : World) (hw : Wid w) (v0 : 0 ≤ v) (v1 : v ≤ 18446744073709551615) (hv : isW x v = true) (ht : vw y = true) (ho : op = 16) (hl : x < y) :
    Calls Tryd.prog 19 #[.int .i64 op, .int .i64 x, .int .i64 y, .int .u64 v] w fun e w' => e = .returned (.agg #[.int .i64 0, .int .u64 (v)]) ∧ Below w.heap.size w w' := by
  have HV : Hid (isW x v = true) := hv
  have HT : Hid (vw y = true) := ht
  clear hv ht
  subst ho
  go_enter Tryd.func19, Tryd.ntmps19
  go_wp2_with (first | (go_at_call 26; refine (isWord_yes _ _ _ (by first | exact hw | exact hw.below (bel_alloc _ _) | exact hw.below (bel_trans (bel_alloc _ _) (bel_alloc _ _))) v0 v1 HV.out).mono ?_; rintro e w' ⟨rfl, rfl⟩) | (go_at_call 34; refine (validWidth_yes _ _ (by first | exact hw | exact hw.below (bel_alloc _ _) | exact hw.below (bel_trans (bel_alloc _ _) (bel_alloc _ _))) HT.out).mono ?_; rintro e w' ⟨rfl, rfl⟩) | (go_at_call 14; refine (signed_impl _ _ _ (by first | exact hw | exact hw.below (bel_alloc _ _) | exact hw.below (bel_trans (bel_alloc _ _) (bel_alloc _ _))) v0 v1 HV.out).mono ?_; rintro e w' ⟨rfl, rfl⟩) | (go_at_call 16; refine (cut_impl _ _ _ (by first | exact hw | exact hw.below (bel_alloc _ _) | exact hw.below (bel_trans (bel_alloc _ _) (bel_alloc _ _))) HT.out (by first | exact v0 | exact (wrapU_bd _).1) (by first | exact v1 | exact (wrapU_bd _).2)).mono ?_; rintro e w' ⟨rfl, rfl⟩))
  all_goals exact bodyPost_ret (v := .agg #[.int .i64 0, .int .u64 (v)]) (by simp [results, Tryd.results19, go_sem]) rfl ⟨rfl, by first | exact bel_alloc _ _ | exact bel_trans (bel_alloc _ _) (bel_alloc _ _)⟩
set_option maxHeartbeats 2000000 in
theorem cF_impl (op x y v : Int) (w : World) (hw : Wid w) (v0 : 0 ≤ v) (v1 : v ≤ 18446744073709551615) (hv : isW x v = true) (ht : vw y = true) (ho : op = 17) (hl : x < y) :
    Calls Tryd.prog 19 #[.int .i64 op, .int .i64 x, .int .i64 y, .int .u64 v] w fun e w' => e = .returned (.agg #[.int .i64 0, .int .u64 (cutI y (IntKind.u64.wrap (sgnI x v)))]) ∧ Below w.heap.size w w' := by
  have HV : Hid (isW x v = true) := hv
  have HT : Hid (vw y = true) := ht
  clear hv ht
  subst ho
  go_enter Tryd.func19, Tryd.ntmps19
  go_wp2_with (first | (go_at_call 26; refine (isWord_yes _ _ _ (by first | exact hw | exact hw.below (bel_alloc _ _) | exact hw.below (bel_trans (bel_alloc _ _) (bel_alloc _ _))) v0 v1 HV.out).mono ?_; rintro e w' ⟨rfl, rfl⟩) | (go_at_call 34; refine (validWidth_yes _ _ (by first | exact hw | exact hw.below (bel_alloc _ _) | exact hw.below (bel_trans (bel_alloc _ _) (bel_alloc _ _))) HT.out).mono ?_; rintro e w' ⟨rfl, rfl⟩) | (go_at_call 14; refine (signed_impl _ _ _ (by first | exact hw | exact hw.below (bel_alloc _ _) | exact hw.below (bel_trans (bel_alloc _ _) (bel_alloc _ _))) v0 v1 HV.out).mono ?_; rintro e w' ⟨rfl, rfl⟩) | (go_at_call 16; refine (cut_impl _ _ _ (by first | exact hw | exact hw.below (bel_alloc _ _) | exact hw.below (bel_trans (bel_alloc _ _) (bel_alloc _ _))) HT.out (by first | exact v0 | exact (wrapU_bd _).1) (by first | exact v1 | exact (wrapU_bd _).2)).mono ?_; rintro e w' ⟨rfl, rfl⟩))
  all_goals exact bodyPost_ret (v := .agg #[.int .i64 0, .int .u64 (cutI y (IntKind.u64.wrap (sgnI x v)))]) (by simp [results, Tryd.results19, go_sem]) rfl ⟨rfl, by first | exact bel_alloc _ _ | exact bel_trans (bel_alloc _ _) (bel_alloc _ _)⟩
set_option maxHeartbeats 2000000 in
theorem cG_impl (op x y v : Int) (w : World) (hw : Wid w) (v0 : 0 ≤ v) (v1 : v ≤ 18446744073709551615) (hv : isW x v = true) (ht : vw y = true) (ho : op = 18) (hl : y < x) :
    Calls Tryd.prog 19 #[.int .i64 op, .int .i64 x, .int .i64 y, .int .u64 v] w fun e w' => e = .returned (.agg #[.int .i64 0, .int .u64 (cutI y v)]) ∧ Below w.heap.size w w' := by
  have HV : Hid (isW x v = true) := hv
  have HT : Hid (vw y = true) := ht
  clear hv ht
  subst ho
  go_enter Tryd.func19, Tryd.ntmps19
  go_wp2_with (first | (go_at_call 26; refine (isWord_yes _ _ _ (by first | exact hw | exact hw.below (bel_alloc _ _) | exact hw.below (bel_trans (bel_alloc _ _) (bel_alloc _ _))) v0 v1 HV.out).mono ?_; rintro e w' ⟨rfl, rfl⟩) | (go_at_call 34; refine (validWidth_yes _ _ (by first | exact hw | exact hw.below (bel_alloc _ _) | exact hw.below (bel_trans (bel_alloc _ _) (bel_alloc _ _))) HT.out).mono ?_; rintro e w' ⟨rfl, rfl⟩) | (go_at_call 14; refine (signed_impl _ _ _ (by first | exact hw | exact hw.below (bel_alloc _ _) | exact hw.below (bel_trans (bel_alloc _ _) (bel_alloc _ _))) v0 v1 HV.out).mono ?_; rintro e w' ⟨rfl, rfl⟩) | (go_at_call 16; refine (cut_impl _ _ _ (by first | exact hw | exact hw.below (bel_alloc _ _) | exact hw.below (bel_trans (bel_alloc _ _) (bel_alloc _ _))) HT.out (by first | exact v0 | exact (wrapU_bd _).1) (by first | exact v1 | exact (wrapU_bd _).2)).mono ?_; rintro e w' ⟨rfl, rfl⟩))
  all_goals exact bodyPost_ret (v := .agg #[.int .i64 0, .int .u64 (cutI y v)]) (by simp [results, Tryd.results19, go_sem]) rfl ⟨rfl, by first | exact bel_alloc _ _ | exact bel_trans (bel_alloc _ _) (bel_alloc _ _)⟩
/-- The width at a place of the five. -/
def wdI (k : Int) : Int := if k = 0 then 1 else if k = 1 then 8 else if k = 2 then 16 else if k = 3 then 32 else 64
set_option maxHeartbeats 1000000 in
theorem lwWidth_at (k : Int) (w : World) (k0 : 0 ≤ k) (k1 : k ≤ 4) :
    Calls Tryd.prog 9 #[.int .i64 k] w fun e w' => e = .returned (.int .i64 (wdI k)) ∧ Below w.heap.size w w' := by
  have hk : k = 0 ∨ k = 1 ∨ k = 2 ∨ k = 3 ∨ k = 4 := by omega
  rcases hk with rfl | rfl | rfl | rfl | rfl
  all_goals
    go_enter Tryd.func9, Tryd.ntmps9
    go_wp2
    go_ret
    exact ⟨ret_int (by decide), bel_alloc _ _⟩
theorem wd_vw {k : Int} (k0 : 0 ≤ k) (k1 : k ≤ 4) : vw (wdI k) = true := by
  have hk : k = 0 ∨ k = 1 ∨ k = 2 ∨ k = 3 ∨ k = 4 := by omega
  rcases hk with rfl | rfl | rfl | rfl | rfl <;> decide
theorem wd_lt {k j : Int} (k0 : 0 ≤ k) (h : k < j) (j1 : j ≤ 4) : wdI k < wdI j := by
  have hk : k = 0 ∨ k = 1 ∨ k = 2 ∨ k = 3 := by omega
  have hj : j = 1 ∨ j = 2 ∨ j = 3 ∨ j = 4 := by omega
  rcases hk with rfl | rfl | rfl | rfl <;> rcases hj with rfl | rfl | rfl | rfl <;> first | (exfalso; omega) | decide
set_option maxHeartbeats 1000000 in
theorem lwAt_few (a : Option Addr) (len cap : Nat) (i n : Int) (w : World) (n1 : n ≤ 1) :
    Calls Tryd.prog 10 #[.slice a len cap, .int .i64 i, .int .i64 n] w fun e w' => e = .returned (.int .i64 0) ∧ w' = w := by
  go_enter Tryd.func10, Tryd.ntmps10
  go_wp2
  go_ret
  exact ⟨rfl, rfl⟩
theorem lwAt_up (a : Option Addr) (len cap : Nat) (zs : List Int) (i n : Int) (w : World) (h : IsRow .u8 w a len cap zs) (i0 : 0 ≤ i) (i1 : i ≤ 100) (n0 : 1 ≤ n) (n1 : n ≤ 256) :
    Calls Tryd.prog 10 #[.slice a len cap, .int .i64 i, .int .i64 n] w fun e w' => ∃ v : Int, e = .returned (.int .i64 v) ∧ 0 ≤ v ∧ v < n ∧ Below w.heap.size w w' := by
  by_cases h1 : 1 < n
  · exact lwAt_any a len cap zs i n w h i0 i1 h1 n1
  · refine (lwAt_few a len cap i n w (by omega)).mono ?_
    rintro e w' ⟨rfl, rfl⟩
    exact ⟨0, rfl, by decide, by omega, Below.refl _ _⟩
theorem wide_cases {x y : Int} (hx : vw x = true) (hy : vw y = true) (h : x < y) : (x = 1 ∧ y = 8) ∨ (x = 1 ∧ y = 16) ∨ (x = 1 ∧ y = 32) ∨ (x = 1 ∧ y = 64) ∨ (x = 8 ∧ y = 16) ∨ (x = 8 ∧ y = 32) ∨ (x = 8 ∧ y = 64) ∨ (x = 16 ∧ y = 32) ∨ (x = 16 ∧ y = 64) ∨ (x = 32 ∧ y = 64) := by
  rcases vw_cases hx with rfl | rfl | rfl | rfl | rfl <;> rcases vw_cases hy with rfl | rfl | rfl | rfl | rfl <;> first | (exfalso; omega) | simp
/-- The word of a greater width of the same signed number. -/
def sxI (x y a : Int) : Int := cutI y (IntKind.u64.wrap (sgnI x a))
theorem sx_word {x y a : Int} (hy : vw y = true) : isW y (sxI x y a) = true := isWF_cut hy _
theorem sx_sgn {x y a : Int} (ha : isW x a = true) (hy : vw y = true) (h : x < y) : sgnI y (sxI x y a) = sgnI x a := by
  have bd := isW_bd ha
  unfold sxI
  rw [IntKind.wrap_u64]
  rcases wide_cases (isW_vw ha) hy h with ⟨rfl, rfl⟩ | ⟨rfl, rfl⟩ | ⟨rfl, rfl⟩ | ⟨rfl, rfl⟩ | ⟨rfl, rfl⟩ | ⟨rfl, rfl⟩ | ⟨rfl, rfl⟩ | ⟨rfl, rfl⟩ | ⟨rfl, rfl⟩ | ⟨rfl, rfl⟩ <;> simp [sgnI, cutI] at * <;> split <;> split <;> omega
theorem sx_cut {x y a : Int} (ha : isW x a = true) (hy : vw y = true) (h : x < y) : cutI x (sxI x y a) = a := by
  have bd := isW_bd ha
  unfold sxI
  rw [IntKind.wrap_u64]
  rcases wide_cases (isW_vw ha) hy h with ⟨rfl, rfl⟩ | ⟨rfl, rfl⟩ | ⟨rfl, rfl⟩ | ⟨rfl, rfl⟩ | ⟨rfl, rfl⟩ | ⟨rfl, rfl⟩ | ⟨rfl, rfl⟩ | ⟨rfl, rfl⟩ | ⟨rfl, rfl⟩ | ⟨rfl, rfl⟩ <;> simp [sgnI, cutI] at * <;> split <;> omega
theorem word_up {x y a : Int} (ha : isW x a = true) (hy : vw y = true) (h : x < y) : isW y a = true := by
  have bd := isW_bd ha
  rcases wide_cases (isW_vw ha) hy h with ⟨rfl, rfl⟩ | ⟨rfl, rfl⟩ | ⟨rfl, rfl⟩ | ⟨rfl, rfl⟩ | ⟨rfl, rfl⟩ | ⟨rfl, rfl⟩ | ⟨rfl, rfl⟩ | ⟨rfl, rfl⟩ | ⟨rfl, rfl⟩ | ⟨rfl, rfl⟩ <;> simp [isW, vw] at * <;> omega
theorem cut_two {x y : Int} (hx : vw x = true) (hy : vw y = true) (h : x < y) (b : Int) : cutI x (cutI y b) = cutI x b := by
  rcases wide_cases hx hy h with ⟨rfl, rfl⟩ | ⟨rfl, rfl⟩ | ⟨rfl, rfl⟩ | ⟨rfl, rfl⟩ | ⟨rfl, rfl⟩ | ⟨rfl, rfl⟩ | ⟨rfl, rfl⟩ | ⟨rfl, rfl⟩ | ⟨rfl, rfl⟩ | ⟨rfl, rfl⟩ <;> simp [cutI] <;> omega
theorem zero_word {y : Int} (hy : vw y = true) : isW y 0 = true := by
  rcases vw_cases hy with rfl | rfl | rfl | rfl | rfl <;> decide
theorem dec_zero (u : Nat) : ∀ r : List UInt8, decDigits u = 48 :: r → u = 0 ∧ r = [] := by
  induction u using Nat.strongRecOn with
  | _ u ih =>
    intro r e
    by_cases h : u < 10
    · rw [decDigits, dif_pos h] at e
      injection e with e1 e2
      have := congrArg UInt8.toNat e1
      rw [dig_byte h] at this
      have e48 : (48 : UInt8).toNat = 48 := rfl
      exact ⟨by omega, e2.symm⟩
    · obtain ⟨c, r', q, _, _⟩ := dec_head (u / 10)
      rw [decDigits, dif_neg h, q] at e
      injection e with e1 e2
      rw [e1] at q
      have := (ih (u / 10) (by omega) r' q).1
      omega
theorem itoa_zero (n : Int) (r : List UInt8) (e : itoa n = 48 :: r) : r = [] := by
  unfold itoa at e
  split at e
  · injection e with e1 _; exact absurd e1 (by decide)
  · exact (dec_zero _ r e).2
theorem dec_digit (u : Nat) : ∀ c ∈ decDigits u, 48 ≤ c.toNat := by
  induction u using Nat.strongRecOn with
  | _ u ih =>
    by_cases h : u < 10
    · rw [decDigits, dif_pos h]
      intro c hc
      rw [List.mem_singleton] at hc
      subst hc
      rw [dig_byte h]; omega
    · rw [decDigits, dif_neg h]
      intro c hc
      rcases List.mem_append.1 hc with hc | hc
      · exact ih (u / 10) (by omega) c hc
      · rw [List.mem_singleton] at hc
        subst hc
        rw [dig_byte (by omega)]; omega
theorem itoa_byte (n : Int) : ∀ c ∈ itoa n, 45 ≤ c.toNat := by
  intro c hc
  unfold itoa at hc
  split at hc
  · rcases List.mem_cons.1 hc with rfl | hc
    · decide
    · have := dec_digit _ c hc; omega
  · have := dec_digit _ c hc; omega
/-- No number is written with a blank behind it. -/
theorem blank_no (n m : Int) : ¬ itoa n ++ [32] = itoa m := by
  intro e
  have := itoa_byte m 32 (by rw [← e]; simp)
  revert this; decide
/-- No number is written with a needless zero ahead of it. -/
theorem zero_no (n m : Int) : ¬ 48 :: itoa n = itoa m := by
  intro e
  exact itoa_ne_nil n (itoa_zero m _ e.symm)
end Go.Proofs.YtmkhkgliipalaaaDoor
