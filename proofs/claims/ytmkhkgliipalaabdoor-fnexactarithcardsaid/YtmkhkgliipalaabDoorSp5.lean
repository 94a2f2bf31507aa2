/- Contracts over one translation: whether an operation leaves the signed numbers, or the words. -/
import Derived.Test.YtmkhkgliipalaabDoorSp4
namespace Go.Proofs.YtmkhkgliipalaabDoor
open Go.ChangeShapes Go.WideShapes Go.ChangeAt Go.RowKit
set_option linter.unusedVariables false
set_option linter.unusedSimpArgs false
theorem T_pos {x T : Int} (hT : T = 2 ^ (x.toNat - 1)) (hx : vw x = true) : 0 < T ∧ T ≤ 9223372036854775808 := by
  rcases vw_cases hx with rfl | rfl | rfl | rfl | rfl <;> subst hT <;> decide
theorem ins_val {T S : Int} (m : Bool) (hT : 0 < T ∧ T ≤ 9223372036854775808) (h0 : 0 ≤ S) (h1 : S < 340282366920938463463374607431768211456) :
    insI T m (wHi S) (wLo S) = if m then decide (S ≤ T) else decide (S < T) := by
  by_cases h : S < 18446744073709551616
  · have e1 : wHi S = 0 := by unfold wHi; omega
    have e2 : wLo S = S := by unfold wLo; omega
    rw [e1, e2]; simp [insI]
  · have e1 : ¬ wHi S = 0 := by unfold wHi; omega
    have e3 : ¬ S ≤ T := by omega
    have e4 : ¬ S < T := by omega
    simp [insI, e1, e3, e4]
theorem sz_bd {v : Int} (h : -9223372036854775808 ≤ v ∧ v ≤ 9223372036854775807) : 0 ≤ szI v ∧ szI v ≤ 9223372036854775808 := by unfold szI; split <;> omega
theorem fitS_T {x T : Int} (hT : T = 2 ^ (x.toNat - 1)) (S : Int) : fitS x S = decide (-T ≤ S ∧ S < T) := by subst hT; rfl
theorem over_add {T X Y : Int} {m : Bool} (hT : 0 < T ∧ T ≤ 9223372036854775808) (hX : -9223372036854775808 ≤ X ∧ X ≤ 9223372036854775807) (hY : -9223372036854775808 ≤ Y ∧ Y ≤ 9223372036854775807) (hm : m = decide (X < 0)) (hs : decide (X < 0) = decide (Y < 0)) :
    insI T m (wHi (szI X + szI Y)) (wLo (szI X + szI Y)) = decide (-T ≤ X + Y ∧ X + Y < T) := by
  have a := sz_bd hX; have b := sz_bd hY
  rw [ins_val m hT (by omega) (by omega), hm]
  by_cases h : X < 0
  · have h' : Y < 0 := by simpa [h] using hs
    simp only [h, decide_true, if_true, szI, h']
    apply decide_eq_decide.2; omega
  · have h' : ¬ Y < 0 := by simpa [h] using hs
    simp only [h, decide_false, szI, h', if_false, Bool.false_eq_true]
    apply decide_eq_decide.2; omega
theorem over_sub {T X Y : Int} {m : Bool} (hT : 0 < T ∧ T ≤ 9223372036854775808) (hX : -9223372036854775808 ≤ X ∧ X ≤ 9223372036854775807) (hY : -9223372036854775808 ≤ Y ∧ Y ≤ 9223372036854775807) (hm : m = decide (X < 0)) (hs : ¬ decide (X < 0) = decide (Y < 0)) :
    insI T m (wHi (szI X + szI Y)) (wLo (szI X + szI Y)) = decide (-T ≤ X - Y ∧ X - Y < T) := by
  have a := sz_bd hX; have b := sz_bd hY
  rw [ins_val m hT (by omega) (by omega), hm]
  by_cases h : X < 0
  · have h' : ¬ Y < 0 := by simpa [h] using hs
    simp only [h, decide_true, if_true, szI, h', if_false]
    apply decide_eq_decide.2; omega
  · have h' : Y < 0 := by simpa [h] using hs
    simp only [h, decide_false, szI, h', if_true, if_false, Bool.false_eq_true]
    apply decide_eq_decide.2; omega
theorem over_mul {T X Y : Int} {m : Bool} (hT : 0 < T ∧ T ≤ 9223372036854775808) (hX : -9223372036854775808 ≤ X ∧ X ≤ 9223372036854775807) (hY : -9223372036854775808 ≤ Y ∧ Y ≤ 9223372036854775807)
    (hm : m = ((decide (X < 0) != decide (Y < 0)) && !(szI X * szI Y == 0))) :
    insI T m (wHi (szI X * szI Y)) (wLo (szI X * szI Y)) = decide (-T ≤ X * Y ∧ X * Y < T) := by
  have a := sz_bd hX; have b := sz_bd hY
  have p0 : 0 ≤ szI X * szI Y := Int.mul_nonneg a.1 b.1
  have p1 := mulU_bd ⟨a.1, by omega⟩ ⟨b.1, (by omega : szI Y ≤ 18446744073709551615)⟩
  rw [ins_val m hT p0 p1.2, hm]
  by_cases h : X < 0 <;> by_cases h' : Y < 0
  · have e : szI X * szI Y = X * Y := by simp [szI, h, h', Int.neg_mul_neg]
    rw [e] at p0 ⊢
    simp only [h, h', bne_self_eq_false, Bool.false_and, Bool.false_eq_true, if_false]
    apply decide_eq_decide.2; omega
  · have e : szI X * szI Y = -(X * Y) := by simp [szI, h, h', Int.neg_mul]
    rw [e] at p0 ⊢
    by_cases z : X * Y = 0
    · simp [z]; omega
    · have z' : (-(X * Y) == 0) = false := by simp [z]
      simp only [h, h', z', decide_true, decide_false, Bool.not_false, Bool.and_true]
      simp only [show (true != false) = true from rfl, if_true]
      apply decide_eq_decide.2; omega
  · have e : szI X * szI Y = -(X * Y) := by simp [szI, h, h', Int.mul_neg]
    rw [e] at p0 ⊢
    by_cases z : X * Y = 0
    · simp [z]; omega
    · have z' : (-(X * Y) == 0) = false := by simp [z]
      simp only [h, h', z', decide_true, decide_false, Bool.not_false, Bool.and_true]
      simp only [show (false != true) = true from rfl, if_true]
      apply decide_eq_decide.2; omega
  · have e : szI X * szI Y = X * Y := by simp [szI, h, h']
    rw [e] at p0 ⊢
    simp only [h, h', bne_self_eq_false, Bool.false_and, Bool.false_eq_true, if_false]
    apply decide_eq_decide.2; omega
theorem sgn_T {x a T : Int} (hT : T = 2 ^ (x.toNat - 1)) (hx : vw x = true) (ha : isW x a = true) : -T ≤ sgnI x a ∧ sgnI x a < T := by
  have b := isW_bd ha
  unfold sgnI
  subst hT
  rcases vw_cases hx with rfl | rfl | rfl | rfl | rfl <;> simp at b ⊢ <;> split <;> omega
set_option maxRecDepth 100000 in
set_option maxHeartbeats 2000000 in
theorem overS_add (x a b : Int) (w : World) (ha : isW x a = true) (hb : isW x b = true) :
    Calls Tryd.prog 23 #[.int .i64 1, .int .i64 x, .int .u64 a, .int .u64 b] w fun e w' => e = .returned (.bool (!fitS x (arT 1 (sgnI x a) (sgnI x b)))) ∧ Below w.heap.size w w' := by
  have HX : Hid (vw x = true) := isW_vw ha
  have sa := sgn_bd ha
  have sb := sgn_bd hb
  have za := sz_bd sa
  have zb := sz_bd sb
  have za2 : szI (sgnI x a) ≤ 18446744073709551615 := by omega
  have zb2 : szI (sgnI x b) ≤ 18446744073709551615 := by omega
  have HA : Hid (isW x a = true) := ha
  have HB : Hid (isW x b = true) := hb
  have ua := u64_bd ha
  have ub := u64_bd hb
  clear ha hb
  obtain ⟨T, hT⟩ : ∃ T : Int, T = 2 ^ (x.toNat - 1) := ⟨_, rfl⟩
  have HT : Hid (T = 2 ^ (x.toNat - 1)) := hT
  have HP : Hid (0 < T ∧ T ≤ 9223372036854775808) := T_pos hT HX.out
  clear hT
  go_enter Tryd.func23, Tryd.ntmps23
  go_wp2_with fail
  refine (signed_spec _ _ _ ua.1 ua.2 HA.out).mono ?_
  rintro e w' ⟨rfl, rfl⟩
  go_wp2_with fail
  refine (signed_spec _ _ _ ub.1 ub.2 HB.out).mono ?_
  rintro e w' ⟨rfl, rfl⟩
  by_cases hs : decide (sgnI x a < 0) = decide (sgnI x b < 0)
  · have HS : Hid _ := hs
    have k : (!(decide (sgnI x a < 0) == decide (sgnI x b < 0))) = false := by simpa using hs
    clear hs
    go_wp2_with (go_at_call 27; refine (size_spec _ _ (by first | exact sa.1 | exact sb.1) (by first | exact sa.2 | exact sb.2)).mono ?_; rintro e w' ⟨rfl, rfl⟩)
    refine (sum_spec _ _ _ za.1 za2 zb.1 zb2).mono ?_
    rintro e w1 ⟨rfl, hb1⟩
    go_wp2_with fail
    refine (ins_spec _ _ _ _ _ _ HT.out HX.out).mono ?_
    rintro e w2 ⟨rfl, hb2⟩
    go_wp2_with fail
    go_ret
    exact ⟨ret_bool (by rw [over_add HP.out sa sb rfl HS.out, fitS_T HT.out]; rfl), bel_trans hb1 hb2⟩
  · have HS : Hid _ := hs
    have k : (!(decide (sgnI x a < 0) == decide (sgnI x b < 0))) = true := by simpa using hs
    clear hs
    go_wp2_with fail
    go_ret
    refine ⟨ret_bool ?_, Below.refl _ _⟩
    rw [fitS_T HT.out]
    have hs := HS.out
    have t := sgn_T HT.out HX.out HA.out
    have t' := sgn_T HT.out HX.out HB.out
    symm
    simp only [Bool.not_eq_false']
    apply decide_eq_true
    by_cases h : sgnI x a < 0 <;> by_cases h' : sgnI x b < 0 <;> simp [h, h'] at hs <;> simp [arT] <;> omega
set_option maxRecDepth 100000 in
set_option maxHeartbeats 2000000 in
theorem overS_sub (x a b : Int) (w : World) (ha : isW x a = true) (hb : isW x b = true) :
    Calls Tryd.prog 23 #[.int .i64 2, .int .i64 x, .int .u64 a, .int .u64 b] w fun e w' => e = .returned (.bool (!fitS x (arT 2 (sgnI x a) (sgnI x b)))) ∧ Below w.heap.size w w' := by
  have HX : Hid (vw x = true) := isW_vw ha
  have sa := sgn_bd ha
  have sb := sgn_bd hb
  have za := sz_bd sa
  have zb := sz_bd sb
  have za2 : szI (sgnI x a) ≤ 18446744073709551615 := by omega
  have zb2 : szI (sgnI x b) ≤ 18446744073709551615 := by omega
  have HA : Hid (isW x a = true) := ha
  have HB : Hid (isW x b = true) := hb
  have ua := u64_bd ha
  have ub := u64_bd hb
  clear ha hb
  obtain ⟨T, hT⟩ : ∃ T : Int, T = 2 ^ (x.toNat - 1) := ⟨_, rfl⟩
  have HT : Hid (T = 2 ^ (x.toNat - 1)) := hT
  have HP : Hid (0 < T ∧ T ≤ 9223372036854775808) := T_pos hT HX.out
  clear hT
  go_enter Tryd.func23, Tryd.ntmps23
  go_wp2_with fail
  refine (signed_spec _ _ _ ua.1 ua.2 HA.out).mono ?_
  rintro e w' ⟨rfl, rfl⟩
  go_wp2_with fail
  refine (signed_spec _ _ _ ub.1 ub.2 HB.out).mono ?_
  rintro e w' ⟨rfl, rfl⟩
  by_cases hs : decide (sgnI x a < 0) = decide (sgnI x b < 0)
  · have HS : Hid _ := hs
    have k : (decide (sgnI x a < 0) == decide (sgnI x b < 0)) = true := by simpa using hs
    clear hs
    go_wp2_with fail
    go_ret
    refine ⟨ret_bool ?_, Below.refl _ _⟩
    rw [fitS_T HT.out]
    have hs := HS.out
    have t := sgn_T HT.out HX.out HA.out
    have t' := sgn_T HT.out HX.out HB.out
    symm
    simp only [Bool.not_eq_false']
    apply decide_eq_true
    by_cases h : sgnI x a < 0 <;> by_cases h' : sgnI x b < 0 <;> simp [h, h'] at hs <;> simp [arT] <;> omega
  · have HS : Hid _ := hs
    have k : (decide (sgnI x a < 0) == decide (sgnI x b < 0)) = false := by simpa using hs
    clear hs
    go_wp2_with (go_at_call 27; refine (size_spec _ _ (by first | exact sa.1 | exact sb.1) (by first | exact sa.2 | exact sb.2)).mono ?_; rintro e w' ⟨rfl, rfl⟩)
    refine (sum_spec _ _ _ za.1 za2 zb.1 zb2).mono ?_
    rintro e w1 ⟨rfl, hb1⟩
    go_wp2_with fail
    refine (ins_spec _ _ _ _ _ _ HT.out HX.out).mono ?_
    rintro e w2 ⟨rfl, hb2⟩
    go_wp2_with fail
    go_ret
    exact ⟨ret_bool (by rw [over_sub HP.out sa sb rfl HS.out, fitS_T HT.out]; rfl), bel_trans hb1 hb2⟩
end Go.Proofs.YtmkhkgliipalaabDoor
