/- Over one translation: at every code the law FnCasts answers true and turns nothing that was there. -/
import Derived.Test.YtmkhkgliipalaaaDoorCaI
import Derived.Deep.DeepCutAuto
namespace Go.Proofs.YtmkhkgliipalaaaDoor
open Go.ChangeShapes Go.WideShapes Go.ChangeAt Go.RowKit
open Go.Lib hiding intOf
open Go.Sort (grow)
set_option linter.unusedVariables false
set_option linter.unusedSimpArgs false
/-- A fact that the walk does not take for a rule. -/
structure Kep (p : Prop) : Prop where
  out : p
/-- Two cells of a block. -/
structure Two (w : World) (b : Nat) (x y : Value) : Prop where
  c0 : w.cell? ⟨b, 0, none⟩ = some x
  c1 : w.cell? ⟨b, 1, none⟩ = some y
theorem Two.keep {w w' : World} {b : Nat} {x y : Value} (h : Two w b x y) (hb : Below w.heap.size w w') : Two w' b x y := by
  have l := lt_of_cell h.c0
  exact ⟨by rw [hb.cell (p := ⟨b, 0, none⟩) l]; exact h.c0, by rw [hb.cell (p := ⟨b, 1, none⟩) l]; exact h.c1⟩
theorem two_new (w : World) (c d : Value) (t : TypeId) : Two (w.alloc (Obj.cells #[c, d] t)) w.heap.size c d := ⟨by simp, by simp⟩
/-- What a call answers in each world where the variables hold what they list; it makes new memory at most. -/
def Tells (f : Nat) (args : Array Value) (v : Value) : Prop := ∀ w : World, Lp w → Calls Tryd.prog f args w fun e w' => e = .returned v ∧ Below w.heap.size w w'
theorem Tells.at {f : Nat} {args : Array Value} {v : Value} (h : Tells f args v) {w : World} (hL : Lp w) (d : Nat) (os : Array Obj) :
    Calls Tryd.prog f args (grow (redrawn w d) os) fun e w'' => e = .returned v ∧ ∃ p : Regrown, w'' = grow (redrawn w p.d) p.os :=
  Calls.regrown_of (h _ (hL.below (below_regrown w d os)))
/-- .. and turns nothing at all. -/
def TellsS (f : Nat) (args : Array Value) (v : Value) : Prop := ∀ w : World, Lp w → Calls Tryd.prog f args w fun e w' => e = .returned v ∧ w' = w
theorem parse_yes {x v : Int} (h : isW x v = true) : Tells 21 #[.int .i64 x, .string ⟨(itoa (numW x v)).toArray⟩] (.agg #[.bool true, .int .u64 v]) := by
  intro w hL
  have hp : Lib.parseIntB 64 (⟨(itoa (numW x v)).toArray⟩ : ByteArray).data.toList = .ok (numW x v) := by rw [Lib.parseIntB_64]; exact atoi_itoa _ (num_bd h).1 (num_bd h).2
  have hc : cutI x (IntKind.u64.wrap (numW x v)) = v := by rw [cut_w64 (isW_vw h), cut_num h]
  have il := itoa_len h
  have sl := size_l ⟨(itoa (numW x v)).toArray⟩
  refine prsI_y x _ (numW x v) v (itoa (numW x v)).toArray w hL (by rw [sl]; show (itoa (numW x v)).length ≤ _; omega) hp (fun w hw => ?_) (fun w hw => fmtI_yes x v w hw h) (cmp_eq _ _ rfl)
  have k := cut_impl x (IntKind.u64.wrap (numW x v)) w hw (isW_vw h) (by rw [IntKind.wrap_u64]; omega) (by rw [IntKind.wrap_u64]; omega)
  rw [hc] at k
  exact k
theorem parse_not {x : Int} {s : ByteArray} (hs : s.size ≤ 281474976710656) (hno : ∀ u, isW x u = true → ¬ s.data.toList = itoa (numW x u)) : Tells 21 #[.int .i64 x, .string s] (.agg #[.bool false, .int .u64 0]) := by
  intro w hL
  obtain ⟨g, v, h, _, hI⟩ := parse_full x s hs
  rcases h with ⟨_, hv, e⟩ | ⟨rfl, rfl, _⟩
  · exact absurd e (hno v hv)
  · exact hI w hL
set_option maxRecDepth 100000 in
set_option maxHeartbeats 16000000 in
theorem casts_law (w : World) (al : Option Addr) (len cap : Nat) (zs : List Int) (h0 : IsRow .u8 w al len cap zs) (hl : len ≤ 1048576) (hL : Lp w) :
    Calls Tryd.prog 6 #[.slice al len cap] w fun e w' => e = .returned (.bool true) ∧ Below w.heap.size w w' := by
  have hl' : (len : Int) ≤ 1048576 := by omega
  have hf0 : ∀ W c v, (Instr.field 28 (.agg #[.int .i64 c, .int .u64 v]) 0).run Tryd.prog W = .ok (.int .i64 c) W := fun W c v => by kernel_rfl
  have hf1 : ∀ W c v, (Instr.field 28 (.agg #[.int .i64 c, .int .u64 v]) 1).run Tryd.prog W = .ok (.int .u64 v) W := fun W c v => by kernel_rfl
  have hn0 : ∀ W c v, (Instr.field 42 (.agg #[.bool c, .int .u64 v]) 0).run Tryd.prog W = .ok (.bool c) W := fun W c v => by kernel_rfl
  go_enter Tryd.func6, Tryd.ntmps6
  go_wp2_with fail
  refine (lwAt_any _ _ _ _ _ _ _ h0 (by decide) (by decide) (by decide) (by decide)).mono ?_
  rintro e w1 ⟨k, rfl, k0, k1, hb1⟩
  go_wp2_with fail
  refine (lwAt_up _ _ _ _ _ _ _ (h0.bel hb1) (by decide) (by decide) (by omega) (by omega)).mono ?_
  rintro e w2 ⟨d, rfl, d0, d1, hb2⟩
  have hB2 := bel_trans hb1 hb2
  clear hb1 hb2
  go_wp2_with fail
  refine (lwWidth_at _ _ k0 (by omega)).mono ?_
  rintro e w3 ⟨rfl, hb3⟩
  have hB3 := bel_trans hB2 hb3
  clear hb3 hB2
  go_wp2_with fail
  refine (lwWidth_at _ _ (by omega) (by omega)).mono ?_
  rintro e w4 ⟨rfl, hb4⟩
  have hB4 := bel_trans hB3 hb4
  clear hb4 hB3
  have hx : vw (wdI k) = true := wd_vw k0 (by omega)
  have hy : vw (wdI (k + 1 + d)) = true := wd_vw (by omega) (by omega)
  have hlt : wdI k < wdI (k + 1 + d) := wd_lt k0 (by omega) (by omega)
  generalize wdI k = x at *
  generalize wdI (k + 1 + d) = y at *
  clear k0 k1 d0 d1
  have HX : Hid (vw x = true) := hx
  have HY : Hid (vw y = true) := hy
  clear hx hy
  go_wp2_with fail
  refine (lwWord_any _ _ _ _ _ _ _ (h0.bel hB4) (by decide) (by decide) HX.out).mono ?_
  rintro e w5 ⟨a, rfl, ha, hb5⟩
  have hB5 := bel_trans hB4 hb5
  have HA : Hid (isW x a = true) := ha
  have A := u64_bd ha
  have A0 := A.1
  have A1 := A.2
  have hS := sx_word (x := x) (a := a) HY.out
  have HXg : Hid (sgnI y (sxI x y a) = sgnI x a) := sx_sgn ha HY.out hlt
  have HXc : Hid (cutI x (sxI x y a) = a) := sx_cut ha HY.out hlt
  have T17 : Hid (Tells 19 #[.int .i64 17, .int .i64 x, .int .i64 y, .int .u64 a] (.agg #[.int .i64 0, .int .u64 (sxI x y a)])) := fun w hL => cF_impl 17 x y a w hL.lt.wid A0 A1 HA.out HY.out rfl hlt
  generalize sxI x y a = S at *
  have S0 := (u64_bd hS).1
  have S1 := (u64_bd hS).2
  have HS : Hid (isW y S = true) := hS
  have T16 : Hid (Tells 19 #[.int .i64 16, .int .i64 x, .int .i64 y, .int .u64 a] (.agg #[.int .i64 0, .int .u64 a])) := fun w hL => cE_impl 16 x y a w hL.lt.wid A0 A1 HA.out HY.out rfl hlt
  have Tg1 : Hid (TellsS 14 #[.int .i64 y, .int .u64 S] (.int .i64 (sgnI x a))) := fun w hL => by
    have q := signed_impl y S w hL.lt.wid S0 S1 HS.out
    rw [HXg.out] at q
    exact q
  have Tg2 : Hid (TellsS 14 #[.int .i64 x, .int .u64 a] (.int .i64 (sgnI x a))) := fun w hL => signed_impl x a w hL.lt.wid A0 A1 HA.out
  have T18a : Hid (Tells 19 #[.int .i64 18, .int .i64 y, .int .i64 x, .int .u64 a] (.agg #[.int .i64 0, .int .u64 a])) := fun w hL => by
    have q := cG_impl 18 y x a w hL.lt.wid A0 A1 (word_up HA.out HY.out hlt) HX.out rfl hlt
    rw [cut_same HA.out] at q
    exact q
  have T18s : Hid (Tells 19 #[.int .i64 18, .int .i64 y, .int .i64 x, .int .u64 S] (.agg #[.int .i64 0, .int .u64 a])) := fun w hL => by
    have q := cG_impl 18 y x S w hL.lt.wid S0 S1 HS.out HX.out rfl hlt
    rw [HXc.out] at q
    exact q
  have T18b : Hid (Tells 19 #[.int .i64 18, .int .i64 x, .int .i64 y, .int .u64 a] (.agg #[.int .i64 3, .int .u64 0])) := fun w hL => cGb_impl 18 x y a w hL.lt.wid A0 A1 HA.out HY.out rfl (by omega)
  have T16b : Hid (Tells 19 #[.int .i64 16, .int .i64 y, .int .i64 x, .int .u64 0] (.agg #[.int .i64 3, .int .u64 0])) := fun w hL => cEb_impl 16 y x 0 w hL.lt.wid (by decide) (by decide) (zero_word HY.out) HX.out rfl (by omega)
  generalize sgnI x a = X at Tg1 Tg2
  clear ha hS HXg HXc A hb5 hB4
  have L5 := hL.below hB5
  go_wp2_with fail
  refine (T16.out _ L5).mono ?_
  rintro e w6 ⟨rfl, hb6⟩
  have L6 := (L5.below hb6).below (bel_alloc w6 (Obj.cells #[.int .i64 0, .int .u64 a] 28))
  have z6 := two_new w6 (.int .i64 0) (.int .u64 a) 28
  have hB6 := bel_trans hB5 hb6
  clear hb6 hB5 L5
  go_wp2_with fail
  refine (T17.out _ L6).mono ?_
  rintro e w7 ⟨rfl, hb7⟩
  have L7 := (L6.below hb7).below (bel_alloc w7 (Obj.cells #[.int .i64 0, .int .u64 S] 28))
  have z7 := (z6.keep hb7).keep (bel_alloc w7 (Obj.cells #[.int .i64 0, .int .u64 S] 28))
  have s7 := two_new w7 (.int .i64 0) (.int .u64 S) 28
  have hB7 := bel_trans (bel_trans hB6 (bel_alloc _ _)) hb7
  clear hb7 hB6 L6 z6
  obtain ⟨z70, z71⟩ := z7
  go_wp2_with fail
  refine (Tg1.out _ L7).mono ?_
  rintro e w' ⟨rfl, rfl⟩
  go_wp2_with fail
  refine (Tg2.out _ L7).mono ?_
  rintro e w' ⟨rfl, rfl⟩
  clear Tg1 Tg2 T16 T17
  go_wp2_with fail
  refine (T18a.out _ L7).mono ?_
  rintro e w8 ⟨rfl, hb8⟩
  obtain ⟨s80, s81⟩ := s7.keep hb8
  have s8 : Two w8 w7.heap.size (.int .i64 0) (.int .u64 S) := ⟨s80, s81⟩
  have S8 : Hid _ := s8
  clear s7 s8 z70 z71
  have L8 := L7.below hb8
  have hB8 := bel_trans (bel_trans hB7 (bel_alloc _ _)) hb8
  clear hB7 hb8 L7
  go_wp2_with fail
  refine (T18s.out _ L8).mono ?_
  rintro e w9 ⟨rfl, hb9⟩
  have S9 : Hid _ := S8.out.keep hb9
  clear s80 s81 S8
  have L9 := L8.below hb9
  have hB9 := bel_trans hB8 hb9
  clear hB8 hb9 L8 T18a T18s
  go_wp2_with fail
  refine (T18b.out _ L9).mono ?_
  rintro e w10 ⟨rfl, hb10⟩
  have S10 : Hid _ := S9.out.keep hb10
  have L10 := L9.below hb10
  have hB10 := bel_trans hB9 hb10
  clear hB9 hb10 L9 S9
  go_wp2_with fail
  refine (T16b.out _ L10).mono ?_
  rintro e w11 ⟨rfl, hb11⟩
  have S11 : Hid _ := S10.out.keep hb11
  have L11 := L10.below hb11
  have hB11 := bel_trans hB10 hb11
  clear hB10 hb11 L10 S10 T18b T16b
  go_wp2_with fail
  refine (lwWord_any _ _ _ _ _ _ _ (h0.bel hB11) (by decide) (by decide) (by decide)).mono ?_
  rintro e w12 ⟨b, rfl, hbw, hb12⟩
  have S12 : Hid _ := S11.out.keep hb12
  have L12 := L11.below hb12
  have hB12 := bel_trans hB11 hb12
  clear hB11 hb12 L11 S11
  have B := u64_bd hbw
  have cd := u64_bd (isWF_cut HY.out b)
  have TC1 : Hid (TellsS 16 #[.int .i64 x, .int .u64 b] (.int .u64 (cutI x b))) := fun w hL => cut_impl x b w hL.lt.wid HX.out B.1 B.2
  have TC2 : Hid (TellsS 16 #[.int .i64 y, .int .u64 b] (.int .u64 (cutI y b))) := fun w hL => cut_impl y b w hL.lt.wid HY.out B.1 B.2
  have TC3 : Hid (TellsS 16 #[.int .i64 x, .int .u64 (cutI y b)] (.int .u64 (cutI x b))) := fun w hL => by
    have q := cut_impl x (cutI y b) w hL.lt.wid HX.out cd.1 cd.2
    rw [cut_two HX.out HY.out hlt] at q
    exact q
  clear B cd hbw
  generalize cutI x b = C at TC1 TC3
  generalize cutI y b = D at TC2 TC3
  go_wp2_with fail
  refine (TC1.out _ L12).mono ?_
  rintro e w' ⟨rfl, rfl⟩
  go_wp2_with fail
  refine (TC2.out _ L12).mono ?_
  rintro e w' ⟨rfl, rfl⟩
  go_wp2_with fail
  refine (TC3.out _ L12).mono ?_
  rintro e w' ⟨rfl, rfl⟩
  clear TC1 TC2 TC3
  obtain ⟨s120, s121⟩ := S12.out
  go_wp2_with fail
  refine (fmtI_yes _ _ _ L12.lt HS.out).mono ?_
  rintro e w13 ⟨rfl, hb13⟩
  have S13 : Hid _ := S12.out.keep hb13
  have L13 := L12.below hb13
  have hB13 := bel_trans hB12 hb13
  clear hB12 hb13 L12 S12 s120 s121
  have tl := itoa_len HS.out
  have TP1 : Hid (Tells 21 #[.int .i64 y, .string ⟨(itoa (numW y S)).toArray⟩] (.agg #[.bool true, .int .u64 S])) := parse_yes HS.out
  have TP2 : Hid (Tells 21 #[.int .i64 y, .string ⟨(itoa (numW y S) ++ [32]).toArray⟩] (.agg #[.bool false, .int .u64 0])) :=
    parse_not (by rw [size_l]; simp; omega) (fun u _ => blank_no _ _)
  have TP3 : Hid (Tells 21 #[.int .i64 y, .string ⟨(48 :: itoa (numW y S)).toArray⟩] (.agg #[.bool false, .int .u64 0])) :=
    parse_not (by rw [size_l]; simp; omega) (fun u _ => zero_no _ _)
  generalize itoa (numW y S) = t at *
  go_wp2_with fail
  refine (TP1.out _ L13).mono ?_
  rintro e w14 ⟨rfl, hb14⟩
  have L14 := (L13.below hb14).below (bel_alloc w14 (Obj.cells #[.bool true, .int .u64 S] 42))
  have S14 : Hid _ := (S13.out.keep hb14).keep (bel_alloc w14 (Obj.cells #[.bool true, .int .u64 S] 42))
  have R14 : Hid _ := two_new w14 (.bool true) (.int .u64 S) 42
  have hB14 := bel_trans (bel_trans hB13 hb14) (bel_alloc w14 (Obj.cells #[.bool true, .int .u64 S] 42))
  clear hB13 hb14 L13 S13 TP1
  go_wp2_with fail
  refine (lwWord_any _ _ _ _ _ _ _ (h0.bel hB14) (by decide) (by decide) (by decide)).mono ?_
  rintro e w15 ⟨c, rfl, hcw, hb15⟩
  have L15 := L14.below hb15
  have S15 : Hid _ := S14.out.keep hb15
  have R15 : Hid _ := R14.out.keep hb15
  have hB15 := bel_trans hB14 hb15
  clear hB14 hb15 L14 S14 R14
  go_wp2_with fail
  refine (fmtS_yes _ _ _ hcw).mono ?_
  rintro e w16 ⟨rfl, hb16⟩
  have L16 := L15.below hb16
  have S16 : Hid _ := S15.out.keep hb16
  have R16 : Hid _ := R15.out.keep hb16
  have hB16 := bel_trans hB15 hb16
  clear hB15 hb16 L15 S15 R15
  have ol := itoa_len hcw
  obtain ⟨g, v, hg, hSp, hIp⟩ := parse_full x ⟨(itoa (numW 64 c)).toArray⟩ (by rw [size_l]; show (itoa (numW 64 c)).length ≤ _; omega)
  have TS : Hid (Tells 23 #[.int .i64 x, .string ⟨(itoa (numW 64 c)).toArray⟩] (.agg #[.bool g, .int .u64 v])) := fun w _ => hSp w
  have TI : Hid (Tells 21 #[.int .i64 x, .string ⟨(itoa (numW 64 c)).toArray⟩] (.agg #[.bool g, .int .u64 v])) := hIp
  have TF : Hid (g = true → Tells 20 #[.int .i64 x, .int .u64 v] (.string ⟨(itoa (numW 64 c)).toArray⟩)) := fun gt => by
    rcases hg with ⟨_, hv, e⟩ | ⟨gf, _⟩
    · have e' : itoa (numW 64 c) = itoa (numW x v) := e
      rw [e']
      exact fun w hL => fmtI_yes x v w hL.lt hv
    · rw [gf] at gt; cases gt
  clear hSp hIp hg
  generalize itoa (numW 64 c) = o at *
  go_wp2_with fail
  refine (TI.out _ L16).mono ?_
  rintro e w17 ⟨rfl, hb17⟩
  have L17 := (L16.below hb17).below (bel_alloc w17 (Obj.cells #[.bool g, .int .u64 v] 42))
  have S17 := (S16.out.keep hb17).keep (bel_alloc w17 (Obj.cells #[.bool g, .int .u64 v] 42))
  have R17 := (R16.out.keep hb17).keep (bel_alloc w17 (Obj.cells #[.bool g, .int .u64 v] 42))
  have Q17 := two_new w17 (.bool g) (.int .u64 v) 42
  have hB17 := bel_trans (bel_trans hB16 hb17) (bel_alloc w17 (Obj.cells #[.bool g, .int .u64 v] 42))
  clear hB16 hb17 L16 S16 R16 TI h0 HX HY HA HS hcw
  go_upto_region 21 with fail
  generalize hW : w17.alloc (Obj.cells #[.bool g, .int .u64 v] 42) = W at *
  have k1 := cell_regrown S17.c0
  have k2 := cell_regrown S17.c1
  have k3 := cell_regrown R17.c0
  have k4 := cell_regrown R17.c1
  have k5 := cell_regrown Q17.c0
  have k6 := cell_regrown Q17.c1
  clear S17 R17 Q17 hW
  have n1 : ¬ 9223372036854775807 < t.length + 1 := by omega
  have n2 : ¬ 9223372036854775807 < 1 + t.length := by omega
  have cS : ∀ d os, Calls Tryd.prog 23 #[.int .i64 x, .string ⟨o.toArray⟩] (grow (redrawn W d) os) fun e w'' => e = .returned (.agg #[.bool g, .int .u64 v]) ∧ ∃ p : Regrown, w'' = grow (redrawn W p.d) p.os := TS.out.at L17
  have c2 : ∀ d os, Calls Tryd.prog 21 #[.int .i64 y, .string (⟨t.toArray⟩ ++ ⟨#[32]⟩)] (grow (redrawn W d) os) fun e w'' => e = .returned (.agg #[.bool false, .int .u64 0]) ∧ ∃ p : Regrown, w'' = grow (redrawn W p.d) p.os := by rw [ba_app]; exact TP2.out.at L17
  have c3 : ∀ d os, Calls Tryd.prog 21 #[.int .i64 y, .string (⟨#[48]⟩ ++ ⟨t.toArray⟩)] (grow (redrawn W d) os) fun e w'' => e = .returned (.agg #[.bool false, .int .u64 0]) ∧ ∃ p : Regrown, w'' = grow (redrawn W p.d) p.os := by rw [ba_cons]; exact TP3.out.at L17
  have CS := Kep.mk cS
  have C2 := Kep.mk c2
  have C3 := Kep.mk c3
  clear cS c2 c3 TS TP2 TP3
  cases g with
  | true =>
    have CF := Kep.mk ((TF.out rfl).at L17)
    clear TF
    as_aux_lemma =>
    refine wp_region_quiet_below (by kernel_rfl) (by kernel_rfl) ?_
    repeat (quiet_step (fail))
    quiet_step (exact CF.out _ _)
    repeat (quiet_step (fail))
    quiet_step (exact CS.out _ _)
    repeat (quiet_step (fail))
    quiet_step (exact C2.out _ _)
    repeat (quiet_step (fail))
    quiet_step (exact C3.out _ _)
    repeat (quiet_step (fail))
    refine wpQuiet_nil ?_
    intro _ hw'
    obtain ⟨⟨dq, osq⟩, hw''⟩ := hw'
    subst hw''
    go_wp2_with fail
    go_ret
    exact ⟨rfl, bel_trans hB17 (below_regrown W dq osq)⟩
  | false =>
    clear TF
    as_aux_lemma =>
    refine wp_region_quiet_below (by kernel_rfl) (by kernel_rfl) ?_
    repeat (quiet_step (fail))
    quiet_step (exact CS.out _ _)
    repeat (quiet_step (fail))
    quiet_step (exact C2.out _ _)
    repeat (quiet_step (fail))
    quiet_step (exact C3.out _ _)
    repeat (quiet_step (fail))
    refine wpQuiet_nil ?_
    intro _ hw'
    obtain ⟨⟨dq, osq⟩, hw''⟩ := hw'
    subst hw''
    go_wp2_with fail
    go_ret
    exact ⟨rfl, bel_trans hB17 (below_regrown W dq osq)⟩
end Go.Proofs.YtmkhkgliipalaaaDoor
