/- Over one translation: at every code the law FnShift answers true and turns nothing that was there. -/
import Derived.Test.YtmkhkgliipalaaaDoorShI
import Derived.Deep.DeepCutAuto
namespace Go.Proofs.YtmkhkgliipalaaaDoor
open Go.ChangeShapes Go.WideShapes Go.ChangeAt Go.RowKit
open Go.Sort (grow)
set_option linter.unusedVariables false
set_option linter.unusedSimpArgs false
theorem fieldX0 (W : World) (c v : Int) : (Instr.field 28 (.agg #[.int .i64 c, .int .u64 v]) 0).run Tryd.prog W = .ok (.int .i64 c) W := by kernel_rfl
theorem fieldX1 (W : World) (c v : Int) : (Instr.field 28 (.agg #[.int .i64 c, .int .u64 v]) 1).run Tryd.prog W = .ok (.int .u64 v) W := by kernel_rfl
set_option maxRecDepth 100000 in
set_option maxHeartbeats 16000000 in
theorem shift_law (w : World) (al : Option Addr) (len cap : Nat) (zs : List Int) (h0 : IsRow .u8 w al len cap zs) (hl : len ≤ 1048576) (hw : Wid w) :
    Calls Tryd.prog 4 #[.slice al len cap] w fun e w' => e = .returned (.bool true) ∧ Below w.heap.size w w' := by
  have hl' : (len : Int) ≤ 1048576 := by omega
  have hf0 := fieldX0
  have hf1 := fieldX1
  go_enter Tryd.func4, Tryd.ntmps4
  go_wp2_with fail
  refine (lwAt_any _ _ _ _ _ _ _ h0 (by decide) (by decide) (by decide) (by decide)).mono ?_
  rintro e w1 ⟨k0, rfl, k00, k01, hb1⟩
  go_wp2_with fail
  refine (lwWidth_any _ _ k00 k01).mono ?_
  rintro e w2 ⟨x, rfl, hx, hb2⟩
  have hB2 := bel_trans hb1 hb2
  have x1 : 1 ≤ x := by rcases vw_cases hx with rfl | rfl | rfl | rfl | rfl <;> decide
  have x2 : x ≤ 64 := by rcases vw_cases hx with rfl | rfl | rfl | rfl | rfl <;> decide
  have HX : Kp (vw x = true) := ⟨hx⟩
  clear hx hb1 hb2
  go_wp2_with fail
  refine (lwWord_any _ _ _ _ _ _ _ (h0.bel hB2) (by decide) (by decide) HX.out).mono ?_
  rintro e w3 ⟨a, rfl, ha, hb3⟩
  have hB3 := bel_trans hB2 hb3
  have HA : Kp (isW x a = true) := ⟨ha⟩
  clear ha hb3 hB2
  go_wp2_with fail
  refine (lwAtN_up _ _ _ _ _ _ _ (h0.bel hB3) (by decide) (by decide) x1 (by omega)).mono ?_
  rintro e w4 ⟨n, rfl, n0, n1, hb4⟩
  have hB4 := bel_trans hB3 hb4
  clear hb4 hB3 h0
  have W4 := hw.below hB4
  have n63 : n ≤ 63 := by omega
  obtain ⟨p, hp⟩ : ∃ p : Int, p = 2 ^ n.toNat := ⟨_, rfl⟩
  have WN := w_place HX.out n0 n1
  have HN : Kp (isW x n = true) := ⟨WN⟩
  obtain ⟨p1, p2, F1, F2, F3, F4, F5, F6, F7, F8, F9, F10, F11, F12⟩ := shift_facts HA.out n0 n1 p hp
  have ep : IntKind.u64.wrap (2 ^ n.toNat) = p := by rw [← hp, IntKind.wrap_u64]; omega
  obtain ⟨cR, vR, hcR, TR0⟩ := ari_9e (op := 9) (.inl rfl) HA.out WN n1
  obtain ⟨cA, vA, hcA, TA0⟩ := ari_9e (op := 10) (.inr rfl) HA.out WN n1
  obtain ⟨cU, vU, hcU, TU0⟩ := ari_8u HA.out WN n1
  obtain ⟨cS, vS, hcS, TS0⟩ := ari_8s HA.out WN n1
  rw [F11] at hcR
  rw [F12] at hcA
  have L8 : isW x (shI 8 x a n) = true := by rw [F3]; exact isW_RW HX.out
  have TR : Kp _ := ⟨TR0⟩
  have TA : Kp _ := ⟨TA0⟩
  have TU : Kp _ := ⟨TU0⟩
  have TS : Kp _ := ⟨TS0⟩
  have T8 : Kp _ := ⟨ari_8 HA.out WN n1⟩
  have T9 : Kp (Ari 9 0 x a n 0 (a / p)) := ⟨by rw [← F4]; exact ari_9 (.inl rfl) HA.out WN n1⟩
  have T10 : Kp _ := ⟨ari_9 (op := 10) (.inr rfl) HA.out WN n1⟩
  have D3 : Kp (Tl 13 #[.int .i64 3, .int .i64 x, .int .u64 a, .int .u64 p] (.int .u64 (shI 8 x a n))) := ⟨fun w hw => by rw [F3]; exact lwDo0 3 x a p w hw (by decide) HA.out F1⟩
  have D4 : Kp _ := ⟨lwDoDiv HA.out F1 (by omega)⟩
  have D3s : Kp _ := ⟨fun w hw => lwDo0 3 x (shI 10 x a n) p w hw (by decide) F5 F1⟩
  have D11 : Kp (Tl 13 #[.int .i64 11, .int .i64 x, .int .u64 a, .int .u64 (p - 1)] (.int .u64 (a % p))) := ⟨by
    have q := lwDoBits 11 x a (p - 1) (by decide) HA.out F2
    rw [F7] at q
    exact q⟩
  have D1 : Kp (Tl 13 #[.int .i64 1, .int .i64 x, .int .u64 (RW 3 x (shI 10 x a n) p), .int .u64 (a % p)] (.int .u64 a)) := ⟨fun w hw => by
    have q := lwDo0 1 x (RW 3 x (shI 10 x a n) p) (a % p) w hw (by decide) F6 F8
    rw [F9] at q
    exact q⟩
  have D9L : Kp _ := ⟨lwDoSh (op := 9) (.inl rfl) L8 WN n1⟩
  have D10L : Kp _ := ⟨lwDoSh (op := 10) (.inr rfl) L8 WN n1⟩
  have q1 := u64_bd F5
  have q2 := u64_bd HA.out
  have SS : Kp (TlS 14 #[.int .i64 x, .int .u64 (shI 10 x a n)] (.int .i64 (sgnI x (shI 10 x a n)))) := ⟨fun w hw => signed_impl x _ w hw q1.1 q1.2 F5⟩
  have SA : Kp (TlS 14 #[.int .i64 x, .int .u64 a] (.int .i64 (sgnI x a))) := ⟨fun w hw => signed_impl x _ w hw q2.1 q2.2 HA.out⟩
  have CX : Kp (TlS 16 #[.int .i64 x, .int .u64 x] (.int .u64 x)) := ⟨fun w hw => by
    have q := cut_impl x x w hw HX.out (by omega) (by omega)
    rw [cut_self HX.out] at q
    exact q⟩
  have F8x : Kp _ := ⟨ari_far (op := 8) (.inl rfl) HA.out (w_self HX.out) (Int.le_refl x)⟩
  have F10x : Kp _ := ⟨ari_far (op := 10) (.inr rfl) HA.out (w_self HX.out) (Int.le_refl x)⟩
  clear F1 F2 F3 F4 F5 F6 F7 F8 F9 F11 F12 L8 TR0 TA0 TU0 TS0 q1 q2 WN hp
  generalize shI 9 x (shI 8 x a n) n = N9 at *
  generalize shI 10 x (shI 8 x a n) n = N10 at *
  generalize RW 3 x (shI 10 x a n) p = M at *
  generalize shI 8 x a n = L at *
  generalize sgnI x (shI 10 x a n) = GS at *
  generalize shI 10 x a n = S at *
  generalize sgnI x a = GA at *
  generalize a / p = U at *
  generalize a % p = D at *
  go_wp2_with fail
  refine (T8.out _ W4).mono ?_
  rintro e w5 ⟨rfl, hb5⟩
  have u5 := tw_new w5 (.int .i64 0) (.int .u64 L) 28
  have b5 := bel_alloc w5 (Obj.cells #[.int .i64 0, .int .u64 L] 28)
  have W5 := (W4.below hb5).below b5
  have hB5 := bel_trans (bel_trans hB4 hb5) b5
  clear hb5 b5 hB4 W4 T8 ep
  go_wp2_with fail
  refine (T9.out _ W5).mono ?_
  rintro e w6 ⟨rfl, hb6⟩
  have b6 := bel_alloc w6 (Obj.cells #[.int .i64 0, .int .u64 U] 28)
  have u6 := (u5.keep hb6).keep b6
  have r6 := tw_new w6 (.int .i64 0) (.int .u64 U) 28
  have W6 := (W5.below hb6).below b6
  have hB6 := bel_trans (bel_trans hB5 hb6) b6
  clear hb6 b6 hB5 W5 u5 T9
  go_wp2_with fail
  refine (T10.out _ W6).mono ?_
  rintro e w7 ⟨rfl, hb7⟩
  have b7 := bel_alloc w7 (Obj.cells #[.int .i64 0, .int .u64 S] 28)
  have u7 := (u6.keep hb7).keep b7
  have r7 := (r6.keep hb7).keep b7
  have s7 := tw_new w7 (.int .i64 0) (.int .u64 S) 28
  have W7 := (W6.below hb7).below b7
  have hB7 := bel_trans (bel_trans hB6 hb7) b7
  clear hb7 b7 hB6 W6 u6 r6 T10
  go_upto_region 10 with fail
  generalize hW : w7.alloc (Obj.cells #[.int .i64 0, .int .u64 S] 28) = W at *
  clear hW
  have k1 := cell_regrown u7.c0
  have k2 := cell_regrown u7.c1
  have k3 := cell_regrown r7.c0
  have k4 := cell_regrown r7.c1
  have k5 := cell_regrown s7.c0
  have k6 := cell_regrown s7.c1
  have C3 := Kp.mk (D3.out.at W7)
  have C4 := Kp.mk (D4.out.at W7)
  clear D3 D4
  refine wp_region_quiet_below (by kernel_rfl) (by kernel_rfl) ?_
  repeat (quiet_step (fail))
  quiet_step (exact C3.out _ _)
  repeat (quiet_step (fail))
  quiet_step (exact C4.out _ _)
  repeat (quiet_step (fail))
  refine wpQuiet_nil ?_
  intro _ hw'
  obtain ⟨⟨dq, osq⟩, hw''⟩ := hw'
  subst hw''
  have hq := below_regrown W dq osq
  have u8 := u7.keep hq
  have s8 := s7.keep hq
  have W8 := W7.below hq
  have hB8 := bel_trans hB7 hq
  clear k1 k2 k3 k4 k5 k6 C3 C4 hq hB7 W7 u7 r7 s7
  generalize grow (redrawn W dq) osq = V at *
  have s80 := s8.c0
  have s81 := s8.c1
  go_wp2_with fail
  refine (D3s.out _ W8).mono ?_
  rintro e w9 ⟨rfl, hb9⟩
  have u9 := u8.keep hb9
  have s9 := s8.keep hb9
  have W9 := W8.below hb9
  have hB9 := bel_trans hB8 hb9
  clear s80 s81 hb9 hB8 W8 u8 s8 D3s
  go_wp2_with fail
  refine (D11.out _ W9).mono ?_
  rintro e w10 ⟨rfl, hb10⟩
  have u10 := u9.keep hb10
  have s10 := s9.keep hb10
  have W10 := W9.below hb10
  have hB10 := bel_trans hB9 hb10
  clear hb10 hB9 W9 u9 s9
  go_wp2_with fail
  refine (D1.out _ W10).mono ?_
  rintro e w11 ⟨rfl, hb11⟩
  have u11 := u10.keep hb11
  have s11 := s10.keep hb11
  have W11 := W10.below hb11
  have hB11 := bel_trans hB10 hb11
  clear hb11 hB10 W10 u10 s10 D1
  have s110 := s11.c0
  have s111 := s11.c1
  go_wp2_with fail
  refine (SS.out _ W11).mono ?_
  rintro e w' ⟨rfl, rfl⟩
  go_wp2_with fail
  refine (SA.out _ W11).mono ?_
  rintro e w' ⟨rfl, rfl⟩
  clear SS SA
  go_wp2_with fail
  refine (D11.out _ W11).mono ?_
  rintro e w12 ⟨rfl, hb12⟩
  have u12 := u11.keep hb12
  have W12 := W11.below hb12
  have hB12 := bel_trans hB11 hb12
  clear s110 s111 hb12 hB11 W11 u11 s11 D11 F10
  go_wp2_with fail
  refine (TR.out _ W12).mono ?_
  rintro e w13 ⟨rfl, hb13⟩
  have u13 := u12.keep hb13
  have W13 := W12.below hb13
  have hB13 := bel_trans hB12 hb13
  clear hb13 hB12 W12 u12 TR
  go_wp2_with fail
  refine (TA.out _ W13).mono ?_
  rintro e w14 ⟨rfl, hb14⟩
  have u14 := u13.keep hb14
  have W14 := W13.below hb14
  have hB14 := bel_trans hB13 hb14
  clear hb14 hB13 W13 u13 TA
  go_upto_region 17 with fail
  have k1 := cell_regrown u14.c0
  have k2 := cell_regrown u14.c1
  have CU := Kp.mk (TU.out.at W14)
  have CS := Kp.mk (TS.out.at W14)
  have C9 := Kp.mk (D9L.out.at W14)
  have C10 := Kp.mk (D10L.out.at W14)
  clear TU TS D9L D10L
  refine wp_region_quiet_below (by kernel_rfl) (by kernel_rfl) ?_
  repeat (quiet_step (fail))
  quiet_step (exact CU.out _ _)
  repeat (quiet_step (fail))
  quiet_step (exact C9.out _ _)
  repeat (quiet_step (fail))
  quiet_step (exact CS.out _ _)
  repeat (quiet_step (fail))
  quiet_step (exact C10.out _ _)
  repeat (quiet_step (fail))
  refine wpQuiet_nil ?_
  intro _ hw'
  obtain ⟨⟨dq2, osq2⟩, hw''⟩ := hw'
  subst hw''
  have hq := below_regrown w14 dq2 osq2
  have W15 := W14.below hq
  have hB15 := bel_trans hB14 hq
  clear k1 k2 CU CS C9 C10 hq hB14 W14 u14 hcR hcA hcU hcS
  generalize grow (redrawn w14 dq2) osq2 = V2 at *
  go_wp2_with fail
  refine (CX.out _ W15).mono ?_
  rintro e w' ⟨rfl, rfl⟩
  go_wp2_with fail
  refine (F8x.out _ W15).mono ?_
  rintro e w16 ⟨rfl, hb16⟩
  have W16 := W15.below hb16
  have hB16 := bel_trans hB15 hb16
  go_wp2_with fail
  refine (F10x.out _ W16).mono ?_
  rintro e w17 ⟨rfl, hb17⟩
  have hB17 := bel_trans hB16 hb17
  go_wp2_with fail
  go_ret
  exact ⟨rfl, hB17⟩
end Go.Proofs.YtmkhkgliipalaaaDoor
