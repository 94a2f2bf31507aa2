/- Over one translation: at every code the law FnDivide answers true and turns nothing that was there. -/
import Derived.Test.YtmkhkgliipalaaaDoorDvI
import Derived.Deep.DeepCutAuto
namespace Go.Proofs.YtmkhkgliipalaaaDoor
open Go.ChangeShapes Go.WideShapes Go.ChangeAt Go.RowKit
open Go.Sort (grow)
set_option linter.unusedVariables false
set_option linter.unusedSimpArgs false
theorem fieldW0 (W : World) (c v : Int) : (Instr.field 28 (.agg #[.int .i64 c, .int .u64 v]) 0).run Tryd.prog W = .ok (.int .i64 c) W := by kernel_rfl
theorem fieldW1 (W : World) (c v : Int) : (Instr.field 28 (.agg #[.int .i64 c, .int .u64 v]) 1).run Tryd.prog W = .ok (.int .u64 v) W := by kernel_rfl
/-- The four answers ahead of the law's tests. -/
structure Four (x a b c4 v4 c6 v6 c5 v5 c7 v7 : Int) : Prop where
  t4 : Ari 4 0 x a b c4 v4
  t6 : Ari 6 0 x a b c6 v6
  t5 : Ari 5 0 x a b c5 v5
  t7 : Ari 7 0 x a b c7 v7
set_option maxRecDepth 100000 in
set_option maxHeartbeats 16000000 in
theorem divide_law (w : World) (al : Option Addr) (len cap : Nat) (zs : List Int) (h0 : IsRow .u8 w al len cap zs) (hl : len ≤ 1048576) (hw : Wid w) :
    Calls Tryd.prog 3 #[.slice al len cap] w fun e w' => e = .returned (.bool true) ∧ Below w.heap.size w w' := by
  have hl' : (len : Int) ≤ 1048576 := by omega
  have hf0 := fieldW0
  have hf1 := fieldW1
  go_enter Tryd.func3, Tryd.ntmps3
  go_wp2_with fail
  refine (lwAt_any _ _ _ _ _ _ _ h0 (by decide) (by decide) (by decide) (by decide)).mono ?_
  rintro e w1 ⟨k, rfl, k0, k1, hb1⟩
  go_wp2_with fail
  refine (lwWidth_any _ _ k0 k1).mono ?_
  rintro e w2 ⟨x, rfl, hx, hb2⟩
  have hB2 := bel_trans hb1 hb2
  have HX : Kp (vw x = true) := ⟨hx⟩
  clear hx hb1 hb2
  go_wp2_with fail
  refine (lwWord_any _ _ _ _ _ _ _ (h0.bel hB2) (by decide) (by decide) HX.out).mono ?_
  rintro e w3 ⟨a, rfl, ha, hb3⟩
  have hB3 := bel_trans hB2 hb3
  have HA : Kp (isW x a = true) := ⟨ha⟩
  clear ha hb3 hB2
  go_wp2_with fail
  refine (lwWord_any _ _ _ _ _ _ _ (h0.bel hB3) (by decide) (by decide) HX.out).mono ?_
  rintro e w4 ⟨b, rfl, hb, hb4⟩
  have hB4 := bel_trans hB3 hb4
  have HB : Kp (isW x b = true) := ⟨hb⟩
  clear hb hb4 hB3 h0
  have W4 := hw.below hB4
  by_cases z : b = 0
  · subst z
    have zf := sgn_z HX.out
    have zw := zero_w HX.out
    have F : Kp (Four x a 0 2 0 2 0 2 0 2 0) := ⟨⟨ari_zero 4 0 x a (by decide) HA.out zw zf, ari_zero 6 0 x a (by decide) HA.out zw zf, ari_zero 5 0 x a (by decide) HA.out zw zf, ari_zero 7 0 x a (by decide) HA.out zw zf⟩⟩
    clear zf zw
    as_aux_lemma =>
    go_wp2_with fail
    refine (F.out.t4 _ W4).mono ?_
    rintro e w5 ⟨rfl, hb5⟩
    have u5 := tw_new w5 (.int .i64 2) (.int .u64 0) 28
    have W5 := (W4.below hb5).below (bel_alloc w5 (Obj.cells #[.int .i64 2, .int .u64 0] 28))
    have hB5 := bel_trans (bel_trans hB4 hb5) (bel_alloc w5 (Obj.cells #[.int .i64 2, .int .u64 0] 28))
    go_wp2_with fail
    refine (F.out.t6 _ W5).mono ?_
    rintro e w6 ⟨rfl, hb6⟩
    have b6 := bel_alloc w6 (Obj.cells #[.int .i64 2, .int .u64 0] 28)
    have u6 := (u5.keep hb6).keep b6
    have r6 := tw_new w6 (.int .i64 2) (.int .u64 0) 28
    have W6 := (W5.below hb6).below b6
    have hB6 := bel_trans (bel_trans hB5 hb6) b6
    go_wp2_with fail
    refine (F.out.t5 _ W6).mono ?_
    rintro e w7 ⟨rfl, hb7⟩
    have b7 := bel_alloc w7 (Obj.cells #[.int .i64 2, .int .u64 0] 28)
    have u7 := (u6.keep hb7).keep b7
    have r7 := (r6.keep hb7).keep b7
    have s7 := tw_new w7 (.int .i64 2) (.int .u64 0) 28
    have W7 := (W6.below hb7).below b7
    have hB7 := bel_trans (bel_trans hB6 hb7) b7
    go_wp2_with fail
    refine (F.out.t7 _ W7).mono ?_
    rintro e w8 ⟨rfl, hb8⟩
    have b8 := bel_alloc w8 (Obj.cells #[.int .i64 2, .int .u64 0] 28)
    obtain ⟨u80, u81⟩ := (u7.keep hb8).keep b8
    obtain ⟨r80, r81⟩ := (r7.keep hb8).keep b8
    obtain ⟨s80, s81⟩ := (s7.keep hb8).keep b8
    have hB8 := bel_trans (bel_trans hB7 hb8) b8
    go_wp2_with fail
    go_ret
    exact ⟨rfl, hB8⟩
  · have b0 : 0 < b := by have := (isW_bd HB.out).1; omega
    have nb : (b == 0) = false := beq_eq_false_iff_ne.2 z
    obtain ⟨U1, U2, U3, U4, U5, U6⟩ := divU_facts HA.out HB.out b0
    have m0 := sgn_ne HB.out z
    obtain ⟨cE, vE, hcE, TE0⟩ := ari_4e HA.out HB.out b0
    have TE : Kp _ := ⟨TE0⟩
    have T4 : Kp (Ari 4 0 x a b 0 (a / b)) := ⟨ari_4 HA.out HB.out b0⟩
    have T6 : Kp (Ari 6 0 x a b 0 (a % b)) := ⟨ari_6 HA.out HB.out b0⟩
    have D3 : Kp (Tl 13 #[.int .i64 3, .int .i64 x, .int .u64 (a / b), .int .u64 b] (.int .u64 (RW 3 x (a / b) b))) := ⟨fun w hw => lwDo0 3 x (a / b) b w hw (by decide) U1 HB.out⟩
    have D1 : Kp (Tl 13 #[.int .i64 1, .int .i64 x, .int .u64 (RW 3 x (a / b) b), .int .u64 (a % b)] (.int .u64 a)) := ⟨fun w hw => by
      have q := lwDo0 1 x (RW 3 x (a / b) b) (a % b) w hw (by decide) U5 U2
      rw [U6] at q
      exact q⟩
    obtain ⟨c5, v5, c7, v7, T5a, T7a, hL⟩ : ∃ c5 v5 c7 v7, Ari 5 0 x a b c5 v5 ∧ Ari 7 0 x a b c7 v7 ∧ ((least x a b = true ∧ c5 = 2 ∧ c7 = 2) ∨ (least x a b = false ∧ c5 = 0 ∧ v5 = qW x a b ∧ c7 = 0 ∧ v7 = rW x a b)) := by
      cases hl : least x a b with
      | true => exact ⟨2, 0, 2, 0, ari_least 5 x a b (by decide) HA.out HB.out m0 hl, ari_least 7 x a b (by decide) HA.out HB.out m0 hl, .inl ⟨rfl, rfl, rfl⟩⟩
      | false => exact ⟨0, _, 0, _, ari_5 HA.out HB.out m0 hl, ari_7 HA.out HB.out m0 hl, .inr ⟨rfl, rfl, rfl, rfl, rfl⟩⟩
    have T5 : Kp _ := ⟨T5a⟩
    have T7 : Kp _ := ⟨T7a⟩
    have HL : Kp _ := ⟨hL⟩
    clear T5a T7a TE0 hL U1 U2 U5 U6
    generalize a / b = U at *
    generalize a % b = R at *
    generalize RW 3 x U b = M at *
    go_wp2_with fail
    refine (T4.out _ W4).mono ?_
    rintro e w5 ⟨rfl, hb5⟩
    have u5 := tw_new w5 (.int .i64 0) (.int .u64 U) 28
    have b5 := bel_alloc w5 (Obj.cells #[.int .i64 0, .int .u64 U] 28)
    have W5 := (W4.below hb5).below b5
    have hB5 := bel_trans (bel_trans hB4 hb5) b5
    clear hb5 b5 hB4 W4 T4
    go_wp2_with fail
    refine (T6.out _ W5).mono ?_
    rintro e w6 ⟨rfl, hb6⟩
    have b6 := bel_alloc w6 (Obj.cells #[.int .i64 0, .int .u64 R] 28)
    have u6 := (u5.keep hb6).keep b6
    have r6 := tw_new w6 (.int .i64 0) (.int .u64 R) 28
    have W6 := (W5.below hb6).below b6
    have hB6 := bel_trans (bel_trans hB5 hb6) b6
    clear hb6 b6 hB5 W5 u5 T6
    go_wp2_with fail
    refine (T5.out _ W6).mono ?_
    rintro e w7 ⟨rfl, hb7⟩
    have b7 := bel_alloc w7 (Obj.cells #[.int .i64 c5, .int .u64 v5] 28)
    have u7 := (u6.keep hb7).keep b7
    have r7 := (r6.keep hb7).keep b7
    have s7 := tw_new w7 (.int .i64 c5) (.int .u64 v5) 28
    have W7 := (W6.below hb7).below b7
    have hB7 := bel_trans (bel_trans hB6 hb7) b7
    clear hb7 b7 hB6 W6 u6 r6 T5
    go_wp2_with fail
    refine (T7.out _ W7).mono ?_
    rintro e w8 ⟨rfl, hb8⟩
    have b8 := bel_alloc w8 (Obj.cells #[.int .i64 c7, .int .u64 v7] 28)
    have u8 := (u7.keep hb8).keep b8
    have r8 := (r7.keep hb8).keep b8
    have s8 := (s7.keep hb8).keep b8
    have t8 := tw_new w8 (.int .i64 c7) (.int .u64 v7) 28
    have W8 := (W7.below hb8).below b8
    have hB8 := bel_trans (bel_trans hB7 hb8) b8
    clear hb8 b8 hB7 W7 u7 r7 s7 T7
    go_upto_region 12 with fail
    generalize hW : w8.alloc (Obj.cells #[.int .i64 c7, .int .u64 v7] 28) = W at *
    clear hW
    have k1 := cell_regrown u8.c0
    have k2 := cell_regrown u8.c1
    have k3 := cell_regrown r8.c0
    have k4 := cell_regrown r8.c1
    have C3 := Kp.mk (D3.out.at W8)
    have C1 := Kp.mk (D1.out.at W8)
    clear D3 D1
    refine wp_region_quiet_below (by kernel_rfl) (by kernel_rfl) ?_
    repeat (quiet_step (fail))
    quiet_step (exact C3.out _ _)
    repeat (quiet_step (fail))
    quiet_step (exact C1.out _ _)
    repeat (quiet_step (fail))
    refine wpQuiet_nil ?_
    intro _ hw'
    obtain ⟨⟨dq, osq⟩, hw''⟩ := hw'
    subst hw''
    have hq := below_regrown W dq osq
    have u9 := u8.keep hq
    have r9 := r8.keep hq
    have s9 := s8.keep hq
    have t9 := t8.keep hq
    have W9 := W8.below hq
    have hB9 := bel_trans hB8 hq
    clear k1 k2 k3 k4 C1 C3 hq hB8 W8 u8 r8 s8 t8
    generalize grow (redrawn W dq) osq = V at *
    go_upto_region 14 with fail
    have k1 := cell_regrown r9.c1
    have CE := Kp.mk (TE.out.at W9)
    refine wp_region_quiet_below (by kernel_rfl) (by kernel_rfl) ?_
    repeat (quiet_step (fail))
    quiet_step (exact CE.out _ _)
    repeat (quiet_step (fail))
    refine wpQuiet_nil ?_
    intro _ hw'
    obtain ⟨⟨dq2, osq2⟩, hw''⟩ := hw'
    subst hw''
    have hq := below_regrown V dq2 osq2
    have s10 := s9.keep hq
    have t10 := t9.keep hq
    have W10 := W9.below hq
    have hB10 := bel_trans hB9 hq
    clear k1 CE hq hB9 W9 u9 r9 s9 t9 TE
    generalize grow (redrawn V dq2) osq2 = V2 at *
    have ff := fun hl => div_facts HA.out HB.out z (show least x a b = false from hl)
    have T5e := fun hl => ari_5e HA.out HB.out m0 (show least x a b = false from hl)
    have hY := sgn_half HB.out
    have hX := sgn_half HA.out
    have hH := (half_pos HX.out).2
    have lq : least x a b = ((sgnI x b == -1) && (a == 2 ^ (x.toNat - 1))) := rfl
    have A := u64_bd HA.out
    have B := u64_bd HB.out
    have SB : Kp (TlS 14 #[.int .i64 x, .int .u64 b] (.int .i64 (sgnI x b))) := ⟨fun w hw => signed_impl x b w hw B.1 B.2 HB.out⟩
    have SA : Kp (TlS 14 #[.int .i64 x, .int .u64 a] (.int .i64 (sgnI x a))) := ⟨fun w hw => signed_impl x a w hw A.1 A.2 HA.out⟩
    have TT : Kp (TlS 15 #[.int .i64 x] (.int .u64 (2 ^ (x.toNat - 1)))) := ⟨fun w hw => lwTop_any x w HX.out⟩
    generalize (2 : Int) ^ (x.toNat - 1) = T at TT lq
    clear A B
    cases hle : least x a b with
    | true =>
      have hc : c5 = 2 ∧ c7 = 2 := by
        rcases HL.out with ⟨_, h5, h7⟩ | ⟨h, _⟩
        · exact ⟨h5, h7⟩
        · rw [hle] at h; cases h
      obtain ⟨rfl, rfl⟩ := hc
      rw [hle] at lq
      have lq2 := Bool.and_eq_true_iff.1 lq.symm
      obtain ⟨m1, ht⟩ := lq2
      clear lq hle HL ff T5e
      generalize sgnI x b = Y at *
      generalize sgnI x a = X at *
      obtain ⟨s100, s101⟩ := s10
      obtain ⟨t100, t101⟩ := t10
      as_aux_lemma =>
      go_wp2_with fail
      refine (SB.out _ W10).mono ?_
      rintro e w' ⟨rfl, rfl⟩
      go_wp2_with fail
      refine (TT.out _ W10).mono ?_
      rintro e w' ⟨rfl, rfl⟩
      go_wp2_with fail
      go_ret
      exact ⟨rfl, hB10⟩
    | false =>
      have hc : c5 = 0 ∧ v5 = qW x a b ∧ c7 = 0 ∧ v7 = rW x a b := by
        rcases HL.out with ⟨h, _⟩ | ⟨_, h⟩
        · rw [hle] at h; cases h
        · exact h
      obtain ⟨rfl, rfl, rfl, rfl⟩ := hc
      obtain ⟨f1, f2, f3, f4, f5, f6⟩ := ff hle
      obtain ⟨cF, vF, hcF, TF0⟩ := T5e hle
      have TF : Kp _ := ⟨TF0⟩
      have q1 := u64_bd f1
      have q2 := u64_bd f2
      have SQ : Kp (TlS 14 #[.int .i64 x, .int .u64 (qW x a b)] (.int .i64 (sgnI x (qW x a b)))) := ⟨fun w hw => signed_impl x _ w hw q1.1 q1.2 f1⟩
      have SE : Kp (TlS 14 #[.int .i64 x, .int .u64 (rW x a b)] (.int .i64 (sgnI x (rW x a b)))) := ⟨fun w hw => signed_impl x _ w hw q2.1 q2.2 f2⟩
      have hq9 := sgn_half f1
      have he9 := sgn_half f2
      rw [f4] at hcF
      rw [hle] at lq
      clear q1 q2 f1 f2 f4 ff T5e HL hle TF0
      generalize qW x a b = v5 at *
      generalize rW x a b = v7 at *
      generalize sgnI x v5 = Q at *
      generalize sgnI x v7 = E at *
      generalize sgnI x b = Y at *
      generalize sgnI x a = X at *
      obtain ⟨s100, s101⟩ := s10
      obtain ⟨t100, t101⟩ := t10
      have F3 : Kp _ := ⟨f3⟩
      have F5 : Kp _ := ⟨f5⟩
      clear f3 f5
      have hmul : wrap64 (wrap64 (Q * Y) + E) = X := by
        have e : Q * Y = X - E := by have := F3.out; omega
        rw [e]
        unfold wrap64
        omega
      have hEX : ¬ E = 0 → (E < 0 ↔ X < 0) := fun h => by
        have q := F5.out h
        by_cases h1 : E < 0 <;> by_cases h2 : X < 0 <;> simp [h1, h2] at q ⊢
      have HM : Kp _ := ⟨hmul⟩
      have HE : Kp _ := ⟨hEX⟩
      clear hEX F5
      have hm : (Y == -1) = false ∨ (Y == -1) = true ∧ (a == T) = false := by
        cases h1 : (Y == -1) with
        | false => exact .inl rfl
        | true => rw [h1] at lq; exact .inr ⟨rfl, by simpa using lq.symm⟩
      clear lq
      rcases hm with m1 | ⟨m1, ht⟩
      · as_aux_lemma =>
        go_wp2_with fail
        refine (SB.out _ W10).mono ?_
        rintro e w' ⟨rfl, rfl⟩
        go_wp2_with fail
        refine (SA.out _ W10).mono ?_
        rintro e w' ⟨rfl, rfl⟩
        go_wp2_with fail
        refine (SB.out _ W10).mono ?_
        rintro e w' ⟨rfl, rfl⟩
        go_wp2_with fail
        refine (SQ.out _ W10).mono ?_
        rintro e w' ⟨rfl, rfl⟩
        go_wp2_with fail
        refine (SE.out _ W10).mono ?_
        rintro e w' ⟨rfl, rfl⟩
        rcases Int.lt_trichotomy E 0 with l1 | l1 | l1
        · have i1 : ¬ E = 0 := by omega
          have i2 : E < 0 ↔ X < 0 := HE.out i1
          have i3 : X < 0 := i2.1 l1
          have i4 : (E != 0) = true := bne_iff_ne.2 i1
          clear i2
          go_wp2_with fail
          refine (TF.out _ W10).mono ?_
          rintro e w11 ⟨rfl, hb11⟩
          have hB11 := bel_trans hB10 hb11
          clear hb11
          have y0 : -9223372036854775808 ≤ Y := by omega
          have y9 : Y ≤ 9223372036854775807 := by omega
          by_cases y1 : Y = -9223372036854775808
          · have y2 : (Y == -9223372036854775808) = true := by rw [y1]; rfl
            clear y1 hmul
            go_wp2_with fail
            go_ret
            exact ⟨rfl, hB11⟩
          · have y2 : (Y == -9223372036854775808) = false := beq_eq_false_iff_ne.2 y1
            have y3 : -9223372036854775808 < Y := by omega
            by_cases y4 : -E < Y
            · clear y1 hmul
              go_wp2_with fail
              go_ret
              exact ⟨rfl, hB11⟩
            · have y5 : -E < -Y := by omega
              clear y1 hmul
              go_wp2_with fail
              go_ret
              exact ⟨rfl, hB11⟩
        · subst l1
          have i4 : ((0 : Int) != 0) = false := rfl
          have i6 : wrap64 (wrap64 (Q * Y)) = X := by simpa using HM.out
          clear hmul
          go_wp2_with fail
          refine (TF.out _ W10).mono ?_
          rintro e w11 ⟨rfl, hb11⟩
          have hB11 := bel_trans hB10 hb11
          clear hb11
          have y0 : -9223372036854775808 ≤ Y := by omega
          have y9 : Y ≤ 9223372036854775807 := by omega
          by_cases y1 : Y = -9223372036854775808
          · have y2 : (Y == -9223372036854775808) = true := by rw [y1]; rfl
            clear y1 i6
            go_wp2_with fail
            go_ret
            exact ⟨rfl, hB11⟩
          · have y2 : (Y == -9223372036854775808) = false := beq_eq_false_iff_ne.2 y1
            have y3 : -9223372036854775808 < Y := by omega
            by_cases y4 : 0 < Y
            · clear y1 i6
              go_wp2_with fail
              go_ret
              exact ⟨rfl, hB11⟩
            · have y5 : Y < 0 := by omega
              clear y1 i6
              go_wp2_with fail
              go_ret
              exact ⟨ret_bool (by simp [y5]), hB11⟩
        · have i1 : ¬ E = 0 := by omega
          have i2 : E < 0 ↔ X < 0 := HE.out i1
          have i3 : ¬ X < 0 := fun h => by have := i2.2 h; omega
          have i5 : ¬ E < 0 := by omega
          have i4 : (E != 0) = true := bne_iff_ne.2 i1
          clear i2
          go_wp2_with fail
          refine (TF.out _ W10).mono ?_
          rintro e w11 ⟨rfl, hb11⟩
          have hB11 := bel_trans hB10 hb11
          clear hb11
          have y0 : -9223372036854775808 ≤ Y := by omega
          have y9 : Y ≤ 9223372036854775807 := by omega
          by_cases y1 : Y = -9223372036854775808
          · have y2 : (Y == -9223372036854775808) = true := by rw [y1]; rfl
            clear y1 hmul
            go_wp2_with fail
            go_ret
            exact ⟨rfl, hB11⟩
          · have y2 : (Y == -9223372036854775808) = false := beq_eq_false_iff_ne.2 y1
            have y3 : -9223372036854775808 < Y := by omega
            by_cases y4 : E < Y
            · clear y1 hmul
              go_wp2_with fail
              go_ret
              exact ⟨rfl, hB11⟩
            · have y5 : E < -Y := by omega
              clear y1 hmul
              go_wp2_with fail
              go_ret
              exact ⟨rfl, hB11⟩
      · as_aux_lemma =>
        go_wp2_with fail
        refine (SB.out _ W10).mono ?_
        rintro e w' ⟨rfl, rfl⟩
        go_wp2_with fail
        refine (TT.out _ W10).mono ?_
        rintro e w' ⟨rfl, rfl⟩
        go_wp2_with fail
        refine (SA.out _ W10).mono ?_
        rintro e w' ⟨rfl, rfl⟩
        go_wp2_with fail
        refine (SB.out _ W10).mono ?_
        rintro e w' ⟨rfl, rfl⟩
        go_wp2_with fail
        refine (SQ.out _ W10).mono ?_
        rintro e w' ⟨rfl, rfl⟩
        go_wp2_with fail
        refine (SE.out _ W10).mono ?_
        rintro e w' ⟨rfl, rfl⟩
        rcases Int.lt_trichotomy E 0 with l1 | l1 | l1
        · have i1 : ¬ E = 0 := by omega
          have i2 : E < 0 ↔ X < 0 := HE.out i1
          have i3 : X < 0 := i2.1 l1
          have i4 : (E != 0) = true := bne_iff_ne.2 i1
          clear i2
          go_wp2_with fail
          refine (TF.out _ W10).mono ?_
          rintro e w11 ⟨rfl, hb11⟩
          have hB11 := bel_trans hB10 hb11
          clear hb11
          have y0 : -9223372036854775808 ≤ Y := by omega
          have y9 : Y ≤ 9223372036854775807 := by omega
          by_cases y1 : Y = -9223372036854775808
          · have y2 : (Y == -9223372036854775808) = true := by rw [y1]; rfl
            clear y1 hmul
            go_wp2_with fail
            go_ret
            exact ⟨rfl, hB11⟩
          · have y2 : (Y == -9223372036854775808) = false := beq_eq_false_iff_ne.2 y1
            have y3 : -9223372036854775808 < Y := by omega
            by_cases y4 : -E < Y
            · clear y1 hmul
              go_wp2_with fail
              go_ret
              exact ⟨rfl, hB11⟩
            · have y5 : -E < -Y := by omega
              clear y1 hmul
              go_wp2_with fail
              go_ret
              exact ⟨rfl, hB11⟩
        · subst l1
          have i4 : ((0 : Int) != 0) = false := rfl
          have i6 : wrap64 (wrap64 (Q * Y)) = X := by simpa using HM.out
          clear hmul
          go_wp2_with fail
          refine (TF.out _ W10).mono ?_
          rintro e w11 ⟨rfl, hb11⟩
          have hB11 := bel_trans hB10 hb11
          clear hb11
          have y0 : -9223372036854775808 ≤ Y := by omega
          have y9 : Y ≤ 9223372036854775807 := by omega
          by_cases y1 : Y = -9223372036854775808
          · have y2 : (Y == -9223372036854775808) = true := by rw [y1]; rfl
            clear y1 i6
            go_wp2_with fail
            go_ret
            exact ⟨rfl, hB11⟩
          · have y2 : (Y == -9223372036854775808) = false := beq_eq_false_iff_ne.2 y1
            have y3 : -9223372036854775808 < Y := by omega
            by_cases y4 : 0 < Y
            · clear y1 i6
              go_wp2_with fail
              go_ret
              exact ⟨rfl, hB11⟩
            · have y5 : Y < 0 := by omega
              clear y1 i6
              go_wp2_with fail
              go_ret
              exact ⟨ret_bool (by simp [y5]), hB11⟩
        · have i1 : ¬ E = 0 := by omega
          have i2 : E < 0 ↔ X < 0 := HE.out i1
          have i3 : ¬ X < 0 := fun h => by have := i2.2 h; omega
          have i5 : ¬ E < 0 := by omega
          have i4 : (E != 0) = true := bne_iff_ne.2 i1
          clear i2
          go_wp2_with fail
          refine (TF.out _ W10).mono ?_
          rintro e w11 ⟨rfl, hb11⟩
          have hB11 := bel_trans hB10 hb11
          clear hb11
          have y0 : -9223372036854775808 ≤ Y := by omega
          have y9 : Y ≤ 9223372036854775807 := by omega
          by_cases y1 : Y = -9223372036854775808
          · have y2 : (Y == -9223372036854775808) = true := by rw [y1]; rfl
            clear y1 hmul
            go_wp2_with fail
            go_ret
            exact ⟨rfl, hB11⟩
          · have y2 : (Y == -9223372036854775808) = false := beq_eq_false_iff_ne.2 y1
            have y3 : -9223372036854775808 < Y := by omega
            by_cases y4 : E < Y
            · clear y1 hmul
              go_wp2_with fail
              go_ret
              exact ⟨rfl, hB11⟩
            · have y5 : E < -Y := by omega
              clear y1 hmul
              go_wp2_with fail
              go_ret
              exact ⟨rfl, hB11⟩
end Go.Proofs.YtmkhkgliipalaaaDoor
