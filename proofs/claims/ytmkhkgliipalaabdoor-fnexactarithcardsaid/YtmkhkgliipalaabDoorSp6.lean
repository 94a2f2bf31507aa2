/- Contracts over one translation: whether a product leaves the signed numbers; whether an operation leaves the words. -/
import Derived.Test.YtmkhkgliipalaabDoorSp5
import Derived.Deep.QuietTactic
import Derived.BigQuiet
namespace Go.Proofs.YtmkhkgliipalaabDoor
open Go.ChangeShapes Go.WideShapes Go.ChangeAt Go.RowKit
set_option linter.unusedVariables false
set_option linter.unusedSimpArgs false
theorem pz {P : Int} (h0 : 0 ≤ P) (h1 : P < 340282366920938463463374607431768211456) : (P == 0) = (!(wLo P != 0) && !(wHi P != 0)) := by
  have e : P = 0 ↔ wLo P = 0 ∧ wHi P = 0 := by unfold wLo wHi; omega
  rw [Bool.eq_iff_iff]; simpa using e
theorem pz_of {X Y : Int} (hX : -9223372036854775808 ≤ X ∧ X ≤ 9223372036854775807) (hY : -9223372036854775808 ≤ Y ∧ Y ≤ 9223372036854775807) :
    (szI X * szI Y == 0) = (!(wLo (szI X * szI Y) != 0) && !(wHi (szI X * szI Y) != 0)) := by
  have a := sz_bd hX; have b := sz_bd hY
  exact pz (Int.mul_nonneg a.1 b.1) (mulU_bd ⟨a.1, by omega⟩ ⟨b.1, (by omega : szI Y ≤ 18446744073709551615)⟩).2
set_option maxRecDepth 100000 in
set_option maxHeartbeats 2000000 in
theorem overS_mul (x a b : Int) (w : World) (ha : isW x a = true) (hb : isW x b = true) :
    Calls Tryd.prog 23 #[.int .i64 3, .int .i64 x, .int .u64 a, .int .u64 b] w fun e w' => e = .returned (.bool (!fitS x (arT 3 (sgnI x a) (sgnI x b)))) ∧ Below w.heap.size w w' := by
  have HX : Hid (vw x = true) := isW_vw ha
  have sa := sgn_bd ha
  have sb := sgn_bd hb
  have za := sz_bd sa
  have zb := sz_bd sb
  have za2 : szI (sgnI x a) ≤ 18446744073709551615 := by omega
  have zb2 : szI (sgnI x b) ≤ 18446744073709551615 := by omega
  have HA : Hid (isW x a = true) := ha
  have HB : Hid (isW x b = true) := hb
  have ua := u64_bd ha
  have ub := u64_bd hb
  clear ha hb
  obtain ⟨T, hT⟩ : ∃ T : Int, T = 2 ^ (x.toNat - 1) := ⟨_, rfl⟩
  have HT : Hid (T = 2 ^ (x.toNat - 1)) := hT
  have HP : Hid (0 < T ∧ T ≤ 9223372036854775808) := T_pos hT HX.out
  clear hT
  go_enter Tryd.func23, Tryd.ntmps23
  go_wp2_with fail
  refine (signed_spec _ _ _ ua.1 ua.2 HA.out).mono ?_
  rintro e w' ⟨rfl, rfl⟩
  go_wp2_with fail
  refine (signed_spec _ _ _ ub.1 ub.2 HB.out).mono ?_
  rintro e w' ⟨rfl, rfl⟩
  go_wp2_with (go_at_call 27; refine (size_spec _ _ (by first | exact sa.1 | exact sb.1) (by first | exact sa.2 | exact sb.2)).mono ?_; rintro e w' ⟨rfl, rfl⟩)
  refine (product_spec _ _ _ za.1 za2 zb.1 zb2).mono ?_
  rintro e w1 ⟨rfl, hb1⟩
  cases k : (!(decide (sgnI x a < 0) == decide (sgnI x b < 0)))
  · have HK : Hid _ := k
    go_wp2_with fail
    refine (ins_spec _ _ _ _ _ _ HT.out HX.out).mono ?_
    rintro e w2 ⟨rfl, hb2⟩
    go_wp2_with fail
    go_ret
    refine ⟨ret_bool ?_, bel_trans hb1 (bel_trans (bel_alloc _ _) hb2)⟩
    rw [over_mul HP.out sa sb (by rw [bne, HK.out]; rfl), fitS_T HT.out]; rfl
  · have HK : Hid _ := k
    have PZ : Hid _ := pz_of sa sb
    cases l : (wLo (szI (sgnI x a) * szI (sgnI x b)) != 0)
    · have HL : Hid _ := l
      cases m : (wHi (szI (sgnI x a) * szI (sgnI x b)) != 0)
      · have HM : Hid _ := m
        go_wp2_with fail
        refine (ins_spec _ _ _ _ _ _ HT.out HX.out).mono ?_
        rintro e w2 ⟨rfl, hb2⟩
        go_wp2_with fail
        go_ret
        refine ⟨ret_bool ?_, bel_trans hb1 (bel_trans (bel_alloc _ _) hb2)⟩
        rw [over_mul HP.out sa sb (by rw [bne, HK.out, PZ.out, HL.out, HM.out]; rfl), fitS_T HT.out]; rfl
      · have HM : Hid _ := m
        go_wp2_with fail
        refine (ins_spec _ _ _ _ _ _ HT.out HX.out).mono ?_
        rintro e w2 ⟨rfl, hb2⟩
        go_wp2_with fail
        go_ret
        refine ⟨ret_bool ?_, bel_trans hb1 (bel_trans (bel_alloc _ _) hb2)⟩
        rw [over_mul HP.out sa sb (by rw [bne, HK.out, PZ.out, HL.out, HM.out]; rfl), fitS_T HT.out]; rfl
    · have HL : Hid _ := l
      go_wp2_with fail
      refine (ins_spec _ _ _ _ _ _ HT.out HX.out).mono ?_
      rintro e w2 ⟨rfl, hb2⟩
      go_wp2_with fail
      go_ret
      refine ⟨ret_bool ?_, bel_trans hb1 (bel_trans (bel_alloc _ _) hb2)⟩
      rw [over_mul HP.out sa sb (by rw [bne, HK.out, PZ.out, HL.out]; rfl), fitS_T HT.out]; rfl
theorem over_words {x T : Int} (hx : vw x = true) (h0 : 0 ≤ T) (h1 : T < 340282366920938463463374607431768211456) :
    (!(wHi T != 0)) = true → (decide (2 ^ x.toNat - 1 < wLo T)) = (!fitU x T) := by
  intro h
  have h' : wHi T = 0 := by simpa using h
  have e : wLo T = T := by unfold wLo; unfold wHi at h'; omega
  rw [e]; unfold fitU
  rw [← decide_not]
  apply decide_eq_decide.2
  omega
theorem over_words2 {x T : Int} (hx : vw x = true) (h0 : 0 ≤ T) (h1 : T < 340282366920938463463374607431768211456) (h : (wHi T != 0) = true) : (!fitU x T) = true := by
  have h' : ¬ wHi T = 0 := by simpa using h
  have e : ¬ T < 18446744073709551616 := by unfold wHi at h'; omega
  have m : (2 : Int) ^ x.toNat ≤ 18446744073709551616 := by rcases vw_cases hx with rfl | rfl | rfl | rfl | rfl <;> decide
  unfold fitU
  simp; omega
set_option maxRecDepth 100000 in
set_option maxHeartbeats 2000000 in
theorem overW_sub (x a b : Int) (w : World) (ha : isW x a = true) (hb : isW x b = true) :
    Calls Tryd.prog 24 #[.int .i64 2, .int .i64 x, .int .u64 a, .int .u64 b] w fun e w' => e = .returned (.bool (!fitU x (arT 2 a b))) ∧ Below w.heap.size w w' := by
  have A := isW_bd ha
  have B := isW_bd hb
  have H : Hid (decide (a < b) = !fitU x (arT 2 a b)) := show decide (a < b) = !fitU x (arT 2 a b) by
    unfold fitU
    rw [← decide_not]
    apply decide_eq_decide.2
    simp [arT]; omega
  clear A B ha hb
  go_enter Tryd.func24, Tryd.ntmps24
  go_wp2_with fail
  go_ret
  exact ⟨ret_bool H.out, by first | exact Below.refl _ _ | exact bel_alloc _ _⟩
set_option maxRecDepth 100000 in
set_option maxHeartbeats 2000000 in
theorem overW_add (x a b : Int) (w : World) (ha : isW x a = true) (hb : isW x b = true) :
    Calls Tryd.prog 24 #[.int .i64 1, .int .i64 x, .int .u64 a, .int .u64 b] w fun e w' => e = .returned (.bool (!fitU x (arT 1 a b))) ∧ Below w.heap.size w w' := by
  have HX : Hid (vw x = true) := isW_vw ha
  have ua := u64_bd ha
  have ub := u64_bd hb
  clear ha hb
  go_enter Tryd.func24, Tryd.ntmps24
  go_wp2_with fail
  refine (sum_spec _ _ _ ua.1 ua.2 ub.1 ub.2).mono ?_
  rintro e w1 ⟨rfl, hb1⟩
  have S0 : 0 ≤ a + b := by omega
  have S1 : a + b < 340282366920938463463374607431768211456 := by omega
  cases k : (wHi (a + b) != 0)
  · have HK : Hid _ := k
    go_wp2_with fail
    go_quiet ((go_at_call 37; exact Calls.quiet_of_same (mask_spec _ _ HX.out)))
    go_wp2_with fail
    go_ret
    exact ⟨ret_bool (over_words HX.out S0 S1 (by rw [HK.out]; rfl)), bel_trans hb1 ((bel_alloc _ _).trans ⟨rfl, rfl, rfl, Nat.le_refl _, fun _ _ => rfl⟩)⟩
  · have HK : Hid _ := k
    go_wp2_with fail
    go_quiet ((go_at_call 37; exact Calls.quiet_of_same (mask_spec _ _ HX.out)))
    go_wp2_with fail
    go_ret
    exact ⟨ret_bool (over_words2 HX.out S0 S1 HK.out).symm, bel_trans hb1 ((bel_alloc _ _).trans ⟨rfl, rfl, rfl, Nat.le_refl _, fun _ _ => rfl⟩)⟩
set_option maxRecDepth 100000 in
set_option maxHeartbeats 2000000 in
theorem overW_mul (x a b : Int) (w : World) (ha : isW x a = true) (hb : isW x b = true) :
    Calls Tryd.prog 24 #[.int .i64 3, .int .i64 x, .int .u64 a, .int .u64 b] w fun e w' => e = .returned (.bool (!fitU x (arT 3 a b))) ∧ Below w.heap.size w w' := by
  have HX : Hid (vw x = true) := isW_vw ha
  have ua := u64_bd ha
  have ub := u64_bd hb
  clear ha hb
  go_enter Tryd.func24, Tryd.ntmps24
  go_wp2_with fail
  refine (sum_spec _ _ _ ua.1 ua.2 ub.1 ub.2).mono ?_
  rintro e w1 ⟨rfl, hb1⟩
  go_wp2_with fail
  refine (product_spec _ _ _ ua.1 ua.2 ub.1 ub.2).mono ?_
  rintro e w2 ⟨rfl, hb2⟩
  have P := mulU_bd ua ub
  have hz2 : w1.heap.size < w2.heap.size := by have := hb2.size; simp at this; omega
  have hO : TwoIs w1.heap.size (wHi (a + b)) (wLo (a + b)) w2 := TwoIs.bel ⟨by simp, by simp, by simp, by simp⟩ (by simp) hb2
  obtain ⟨u0, u1, v0, v1⟩ := hO
  have hB : Below w.heap.size w w2 := bel_trans (bel_trans hb1 (bel_alloc _ _)) hb2
  have hz1 : w.heap.size ≤ w1.heap.size := hb1.size
  have p1 := P.2
  cases k : (wHi (a * b) != 0)
  · have HK : Hid _ := k
    go_wp2_with fail
    go_quiet ((go_at_call 37; exact Calls.quiet_of_same (mask_spec _ _ HX.out)))
    go_wp2_with fail
    go_ret
    exact ⟨ret_bool (over_words HX.out P.1 p1 (by rw [HK.out]; rfl)), ((hB.setCell (by exact hz1) _).setCell (by exact hz1) _).trans ⟨rfl, rfl, rfl, Nat.le_refl _, fun _ _ => rfl⟩⟩
  · have HK : Hid _ := k
    go_wp2_with fail
    go_quiet ((go_at_call 37; exact Calls.quiet_of_same (mask_spec _ _ HX.out)))
    go_wp2_with fail
    go_ret
    exact ⟨ret_bool (over_words2 HX.out P.1 p1 HK.out).symm, ((hB.setCell (by exact hz1) _).setCell (by exact hz1) _).trans ⟨rfl, rfl, rfl, Nat.le_refl _, fun _ _ => rfl⟩⟩
end Go.Proofs.YtmkhkgliipalaabDoor
