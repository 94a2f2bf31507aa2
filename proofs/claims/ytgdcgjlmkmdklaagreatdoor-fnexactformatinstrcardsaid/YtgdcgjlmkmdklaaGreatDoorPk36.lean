/- Texts of one claim. -/
import Derived.Test.YtgdcgjlmkmdklaaGreatDoorPk0
import Derived.Test.YtgdcgjlmkmdklaaGreatDoorPk34
import Derived.Test.YtgdcgjlmkmdklaaGreatDoorPk35
import Derived.Test.YtgdcgjlmkmdklaaGreatDoorPk5
import Derived.RangeFuncBox
import Derived.Test.YtgdcgjlmkmdklaaGreatDoorPk1
import Derived.ProofKit
import Derived.Deep.Slices
import Derived.OpenShut
import Derived.SizedLaws
import Derived.Test.YtgdcgjlmkmdklaaGreatDoorPk6
import Derived.Deep.RegionHeld3
namespace Go.Proofs.YtgdcgjlmkmdklaaGreatDoor
open Go.ChangeShapes Go.WideShapes Go.ChangeAt Go.RowKit
set_option linter.unusedVariables false
set_option linter.unusedSimpArgs false
theorem phi_prev {ng : Nat} {ts : List Int} {fs : List FnD} {f : FnD} {bk : Int} {ys : List InD} {i : Nat} (hi : i < ys.length) (h : ∀ j, j < i → atF ng ts fs f bk ys j = 0) :
  ((ys.take i).any fun y => decide (y.op ≠ 20)) = (decide (0 < i) && decide ((ys.getD (i - 1) default).op ≠ 20)) := by
 cases i with
 | zero => simp
 | succ j =>
  have hj : j < ys.length := by omega
  have hg : ys.getD j default = ys[j] := by simp [List.getD_eq_getElem?_getD, hj]
  rw [List.take_succ_eq_append_getElem hj, List.any_append]
  simp only [Nat.add_sub_cancel, hg]
  by_cases e : (ys[j]).op = 20
  ·have q := h j (by omega)
   have hn : ((ys.take j).any fun y => decide (y.op ≠ 20)) = false := by
    unfold atF at q
    split at q
    ·unfold inF at q
     rw [hg, e] at q
     split at q
     ·omega
     ·split at q
      ·omega
      ·split at q
       ·omega
       ·split at q
        ·omega
        ·split at q
         ·omega
         ·split at q
          ·omega
          ·split at q
           ·omega
           ·rename_i hz
            simpa using hz
    ·omega
   rw [hn]
   simp [e]
  ·simp [e]
structure ScC (W : World) (B : Nat) (v0 v1 : Value) (name : ByteArray) (link : Int) (v4 : Value) (res : Int) (v6 v7 : Value) (bk : Int) : Prop where
 c0 : At W B 0 v0
 c1 : At W B 1 v1
 c2 : At W B 2 (.string name)
 c3 : At W B 3 (.int .i64 link)
 c4 : At W B 4 v4
 c5 : At W B 5 (.int .i64 res)
 c6 : At W B 6 v6
 c7 : At W B 7 v7
 c8 : At W B 8 (.int .i64 bk)
theorem scC_of {W : World} {B : Nat} {v0 v1 : Value} {name : ByteArray} {link : Int} {v4 : Value} {res : Int} {v6 v7 : Value} {bk : Int} {T : TypeId} (h : W.heap[B]? = some (Go.Obj.cells #[v0, v1, .string name, .int .i64 link, v4, .int .i64 res, v6, v7, .int .i64 bk] T)) : ScC W B v0 v1 name link v4 res v6 v7 bk := by
 exact tl65
set_option maxRecDepth 100000 in
set_option maxHeartbeats 4000000 in
theorem fatI (gs : List GlD) (fs : List FnD) (ts : List Int) (a1 a2 a3 a4 a5 : Option Addr) (params : List Int) (blocks : List (List InD)) (c1 c2 c3 c4 c5 : Nat) (name : ByteArray) (link res bk : Int) (ai : Option Addr) (ki : Nat) (ys : List InD) (i : Nat) (w : World) {lo l2 : Nat} (hm : MoAt lo w gs fs (.slice a1 gs.length c1) (.slice a2 fs.length c2)) (htt : Ints l2 .i64 w (.slice a5 ts.length c5) ts) (hy : Ins lo w (.slice ai ys.length ki) ys) (hw : Wid w) (hi : i < ys.length) (hbd : ∀ x ∈ ys, InB x) (hsz : ∀ x ∈ ys, inN x ≤ 1048576) (hts : ∀ t ∈ ts, t ≠ 0) (hb4 : blocks.length ≤ 140737488355328) (hprev : ∀ j, j < i → atF gs.length ts fs ⟨name, link, params, res, blocks⟩ bk ys j = 0) :
  Calls Tryz.prog 60 #[scV (.slice a1 gs.length c1) (.slice a2 fs.length c2) name link (.slice a3 params.length c3) res (.slice a4 blocks.length c4) (.slice a5 ts.length c5) bk, .slice ai ys.length ki, .int .i64 i] w fun e w' => e = .returned (.int .i64 (atF gs.length ts fs ⟨name, link, params, res, blocks⟩ bk ys i)) ∧ Below w.heap.size w w' := by
 have hgx : ys.getD i default = ys[i] := by simp [List.getD_eq_getElem?_getD, hi]
 obtain ⟨bi, oi, ⟨⟨_, _, hve, y1, y2⟩, y3⟩, -, hic⟩ := hy.ex
 injection hve with e1 e2 e3
 subst e1 e3
 clear e2
 obtain rfl := y2 (by omega)
 obtain ⟨va, vl, vs, hx⟩ := hic i hi
 have hOB : InB ys[i] := hbd _ (List.getElem_mem hi)
 have hSZ : inN ys[i] ≤ 1048576 := hsz _ (List.getElem_mem hi)
 have PH := phi_prev (ng := gs.length) (ts := ts) (fs := fs) (f := ⟨name, link, params, res, blocks⟩) (bk := bk) hi hprev
 have PV : Kp (0 < i → At w bi (oi + (i - 1) * 9) (.int .i64 (ys.getD (i - 1) default).op)) := ⟨fun h0 => by
  obtain ⟨_, _, _, q⟩ := hic (i - 1) (by omega)
  rw [show ys.getD (i - 1) default = ys[i - 1] by simp [List.getD_eq_getElem?_getD, show i - 1 < ys.length by omega]]
  exact q.c0⟩
 have AY := @atF_yes gs.length ts fs ⟨name, link, params, res, blocks⟩ bk ys i
 have AN := @atF_no gs.length ts fs ⟨name, link, params, res, blocks⟩ bk ys i
 rw [hgx] at AY AN
 generalize ys[i] = x at *
 obtain ⟨op, ty, fl, pr, ca, sz, args, bl, ws⟩ := x
 have hxl := hx.l
 obtain ⟨aa, ca', rfl⟩ := ops_shape hxl.a
 obtain ⟨al, cl, rfl⟩ := hxl.b.shape
 obtain ⟨as', cs, rfl⟩ := hxl.c.shape
 obtain ⟨W0, hW⟩ : ∃ W0, W0 = w.alloc (scC (.slice a1 gs.length c1) (.slice a2 fs.length c2) name link (.slice a3 params.length c3) res (.slice a4 blocks.length c4) (.slice a5 ts.length c5) bk) := ⟨_, rfl⟩
 have B0 : Below w.heap.size w W0 := by rw [hW]; exact bel_alloc _ _
 have sC0 : W0.heap[w.heap.size]? = some (scC (.slice a1 gs.length c1) (.slice a2 fs.length c2) name link (.slice a3 params.length c3) res (.slice a4 blocks.length c4) (.slice a5 ts.length c5) bk) := by rw [hW]; exact new_at w _
 obtain ⟨q0, q1, q2, q3, q4, q5, q6, q7, q8, -⟩ := hx.keep B0
 dsimp only at q0 q1 q2 q3 q4 q5 q6 q7 q8 hxl
 obtain ⟨W1, hW1⟩ : ∃ W1, W1 = W0.alloc (Go.Obj.cells #[.int .i64 op, .int .i64 ty, .int .i64 fl, .int .i64 pr, .int .i64 ca, .int .i64 sz, .slice aa args.length ca', .slice al bl.length cl, .slice as' ws.length cs] 73) := ⟨_, rfl⟩
 have B1 : Below W0.heap.size W0 W1 := by rw [hW1]; exact bel_alloc _ _
 have B01 := bel_trans B0 B1
 have iC1 : W1.heap[W0.heap.size]? = some (Go.Obj.cells #[.int .i64 op, .int .i64 ty, .int .i64 fl, .int .i64 pr, .int .i64 ca, .int .i64 sz, .slice aa args.length ca', .slice al bl.length cl, .slice as' ws.length cs] 73) := by rw [hW1]; exact new_at W0 _
 have SCC : Kp (∀ W, Below W1.heap.size W1 W → ScC W w.heap.size (.slice a1 gs.length c1) (.slice a2 fs.length c2) name link (.slice a3 params.length c3) res (.slice a4 blocks.length c4) (.slice a5 ts.length c5) bk) := ⟨fun W hB => scC_of (kept_at (kept_at sC0 B1) hB)⟩
 have INC : Kp (∀ W, Below W1.heap.size W1 W → InC W W0.heap.size op ty fl pr ca sz (.slice aa args.length ca') (.slice al bl.length cl) (.slice as' ws.length cs)) := ⟨fun W hB => inC_of (kept_at iC1 hB)⟩
 have hna : args.length ≤ 1048576 := by unfold inN at hSZ; dsimp only at hSZ; omega
 have hnl : bl.length ≤ 1048576 := by unfold inN at hSZ; dsimp only at hSZ; omega
 have hns : ws.length ≤ 1048576 := by unfold inN at hSZ; dsimp only at hSZ; omega
 have CE : Kp (∀ W, Calls Tryz.prog 105 #[.int .i64 op] W fun e w' => e = .returned (.bool (endB op)) ∧ w' = W) := ⟨fun W => endI op W⟩
 have CIN : Kp (∀ W, Calls Tryz.prog 106 #[.agg #[.int .i64 op, .int .i64 ty, .int .i64 fl, .int .i64 pr, .int .i64 ca, .int .i64 sz, .slice aa args.length ca', .slice al bl.length cl, .slice as' ws.length cs]] W fun e w' => e = .returned (insV op ty fl pr ca sz (.slice aa args.length ca') (.slice al bl.length cl) (.slice as' ws.length cs)) ∧ Below W.heap.size W w') := ⟨fun W => insU op ty fl pr ca sz aa al as' args.length bl.length ws.length ca' cl cs W⟩
 have FF : Kp (tabB op = true → ∀ W, Below W1.heap.size W1 W → Calls Tryz.prog 107 #[scV (.slice a1 gs.length c1) (.slice a2 fs.length c2) name link (.slice a3 params.length c3) res (.slice a4 blocks.length c4) (.slice a5 ts.length c5) bk, .agg #[.int .i64 op, .int .i64 ty, .int .i64 fl, .int .i64 pr, .int .i64 ca, .int .i64 sz, .slice aa args.length ca', .slice al bl.length cl, .slice as' ws.length cs], insV op ty fl pr ca sz (.slice aa args.length ca') (.slice al bl.length cl) (.slice as' ws.length cs)] W fun e w' => e = .returned (.bool (hdB fs bk ⟨op, ty, fl, pr, ca, sz, args, bl, ws⟩ && cntB fs ⟨name, link, params, res, blocks⟩ ⟨op, ty, fl, pr, ca, sz, args, bl, ws⟩)) ∧ Below W.heap.size W w') := ⟨fun ht W hB0 => have hB := bel_trans B01 hB0; fieldsU gs fs ts a1 a2 a3 a4 a5 params blocks c1 c2 c3 c4 c5 name link res bk op ty fl pr ca sz aa al as' args bl ws ca' cl cs W (hm.keep hB) (hxl.a.keep hB) (hxl.b.keep hB) (hxl.c.keep hB) (hw.below hB) hna hnl hns hOB.fl ht⟩
 have TT : Kp (tabB op = true → cntB fs ⟨name, link, params, res, blocks⟩ ⟨op, ty, fl, pr, ca, sz, args, bl, ws⟩ = true → ∀ W, Below W1.heap.size W1 W → Calls Tryz.prog 108 #[scV (.slice a1 gs.length c1) (.slice a2 fs.length c2) name link (.slice a3 params.length c3) res (.slice a4 blocks.length c4) (.slice a5 ts.length c5) bk, insV op ty fl pr ca sz (.slice aa args.length ca') (.slice al bl.length cl) (.slice as' ws.length cs)] W fun e w' => e = .returned (.bool (tgtB ⟨name, link, params, res, blocks⟩ ⟨op, ty, fl, pr, ca, sz, args, bl, ws⟩)) ∧ Below W.heap.size W w') := ⟨fun ht hc W hB0 => have hB := bel_trans B01 hB0; targetsU gs fs ts a1 a2 a3 a4 a5 params blocks c1 c2 c3 c4 c5 name link res bk op ty fl pr ca sz aa al as' args bl ws ca' cl cs W (hxl.b.keep hB) hb4 ht hc⟩
 have AA : Kp (tabB op = true → hdB fs bk ⟨op, ty, fl, pr, ca, sz, args, bl, ws⟩ = true → cntB fs ⟨name, link, params, res, blocks⟩ ⟨op, ty, fl, pr, ca, sz, args, bl, ws⟩ = true → ∀ W, Below W1.heap.size W1 W → Calls Tryz.prog 109 #[scV (.slice a1 gs.length c1) (.slice a2 fs.length c2) name link (.slice a3 params.length c3) res (.slice a4 blocks.length c4) (.slice a5 ts.length c5) bk, insV op ty fl pr ca sz (.slice aa args.length ca') (.slice al bl.length cl) (.slice as' ws.length cs)] W fun e w' => e = .returned (.bool (argB gs.length ts fs ⟨name, link, params, res, blocks⟩ ⟨op, ty, fl, pr, ca, sz, args, bl, ws⟩ && casB ⟨op, ty, fl, pr, ca, sz, args, bl, ws⟩)) ∧ Below W.heap.size W w') := ⟨fun ht hh hc W hB0 => have hB := bel_trans B01 hB0; argsU gs fs ts a1 a2 a3 a4 a5 params blocks c1 c2 c3 c4 c5 name link res bk op ty fl pr ca sz aa al as' args bl ws ca' cl cs W (hm.keep hB) (htt.keep hB) (hxl.a.keep hB) (hxl.c.keep hB) hOB.c (hw.below hB) hna hOB.a hOB.fl hts ht hh hc⟩
 have PVW : Kp (∀ W, Below W1.heap.size W1 W → 0 < i → At W bi (oi + (i - 1) * 9) (.int .i64 (ys.getD (i - 1) default).op)) := ⟨fun W hB h0 => at_keep (PV.out h0) (bel_trans B01 hB)⟩
 have RI := inR_of (R := inF gs.length ts fs ⟨name, link, params, res, blocks⟩ bk (ys.take i) ⟨op, ty, fl, pr, ca, sz, args, bl, ws⟩) (T := tabB op) (H := hdB fs bk ⟨op, ty, fl, pr, ca, sz, args, bl, ws⟩) (C := cntB fs ⟨name, link, params, res, blocks⟩ ⟨op, ty, fl, pr, ca, sz, args, bl, ws⟩) (G := tgtB ⟨name, link, params, res, blocks⟩ ⟨op, ty, fl, pr, ca, sz, args, bl, ws⟩) (A := argB gs.length ts fs ⟨name, link, params, res, blocks⟩ ⟨op, ty, fl, pr, ca, sz, args, bl, ws⟩) (S := casB ⟨op, ty, fl, pr, ca, sz, args, bl, ws⟩) (P := decide (op = 20) && (ys.take i).any fun y => decide (y.op ≠ 20)) rfl
 rw [PH] at RI
 have KS := insV_some op ty fl pr ca sz (.slice aa args.length ca') (.slice al bl.length cl) (.slice as' ws.length cs)
 have KN := insV_none op ty fl pr ca sz (.slice aa args.length ca') (.slice al bl.length cl) (.slice as' ws.length cs)
 obtain ⟨R, hR⟩ : ∃ R, R = atF gs.length ts fs ⟨name, link, params, res, blocks⟩ bk ys i := ⟨_, rfl⟩
 rw [← hR] at AY AN ⊢
 dsimp only at AY AN
 generalize inF gs.length ts fs ⟨name, link, params, res, blocks⟩ bk (ys.take i) ⟨op, ty, fl, pr, ca, sz, args, bl, ws⟩ = RF at *
 generalize argB gs.length ts fs ⟨name, link, params, res, blocks⟩ ⟨op, ty, fl, pr, ca, sz, args, bl, ws⟩ = AB at *
 generalize casB ⟨op, ty, fl, pr, ca, sz, args, bl, ws⟩ = SB at *
 generalize tgtB ⟨name, link, params, res, blocks⟩ ⟨op, ty, fl, pr, ca, sz, args, bl, ws⟩ = GB at *
 generalize cntB fs ⟨name, link, params, res, blocks⟩ ⟨op, ty, fl, pr, ca, sz, args, bl, ws⟩ = CB at *
 generalize hdB fs bk ⟨op, ty, fl, pr, ca, sz, args, bl, ws⟩ = HB at *
 generalize (ys.getD (i - 1) default).op = pop at *
 generalize insV op ty fl pr ca sz (.slice aa args.length ca') (.slice al bl.length cl) (.slice as' ws.length cs) = K at *
 have g5 : (ys.length : Int) ≤ 140737488355328 := by omega
 have hi' : (i : Int) < ys.length := by omega
 replace hW := Kp.mk hW
 replace hW1 := Kp.mk hW1
 replace KS := Kp.mk KS
 replace KN := Kp.mk KN
 replace RI := Kp.mk RI
 replace AY := Kp.mk AY
 replace AN := Kp.mk AN
 replace hi := Kp.mk hi
 clear hR hbd hsz hOB hSZ hy hic hx hxl hprev PH PV y2 hgx sC0 iC1 htt hm hw hts
 by_cases hmis : endB op = decide (i + 1 = ys.length)
 case neg =>
  have hR4 : Kp (R = 4) := ⟨AN.out hmis⟩
  obtain ⟨j0, j1, j2, j3, j4, j5, j6, j7, j8⟩ := INC.out W1 (Below.refl _ _)
  by_cases hlast : i + 1 = ys.length
  ·have l3 : ((i : Int) == (ys.length : Int) - 1) = true := by simp; omega
   rw [decide_eq_true hlast] at hmis
   have he : endB op = false := by cases h : endB op with
    | true => exact absurd h hmis
    | false => rfl
   rw [he] at CE
   replace hlast := Kp.mk hlast
   clear hmis he FF TT AA KS KN RI AY AN CIN
   exact tl69
  ·have l3 : ((i : Int) == (ys.length : Int) - 1) = false := nb (by omega)
   rw [decide_eq_false hlast] at hmis
   have he : endB op = true := by cases h : endB op with
    | true => rfl
    | false => exact absurd h hmis
   rw [he] at CE
   clear hlast hmis he FF TT AA KS KN RI AY AN CIN
   exact tl69
 case pos =>
  have hRR : R = RF := AY.out hmis
  subst hRR
  obtain ⟨EV, hEV⟩ : ∃ EV, EV = endB op := ⟨_, rfl⟩
  rw [← hEV] at CE hmis
  have l3 : ((i : Int) == (ys.length : Int) - 1) = EV := by
   rw [hmis, Bool.eq_iff_iff]
   simp
   omega
  have SP1 := SCC.out W1 (Below.refl _ _)
  obtain ⟨s0, s1, s2, s3, s4, s5, s6, s7, s8⟩ := SP1
  obtain ⟨j0, j1, j2, j3, j4, j5, j6, j7, j8⟩ := INC.out W1 (Below.refl _ _)
  have hcmp : (EV == EV) = true := by cases EV <;> rfl
  clear hmis hEV AY AN
  go_enter Tryz.func60, Tryz.ntmps60
  go_upto_region 1 with fail
  rw [← hW.out]
  go_upto_region 2 with fail
  rw [← hW1.out]
  clear q0 q1 q2 q3 q4 q5 q6 q7 q8
  go_wp2_with fail
  refine (CE.out _).mono ?_
  rintro e w2 ⟨rfl, hw2⟩
  subst w2
  go_wp2_with fail
  refine (CIN.out _).mono ?_
  rintro e w3 ⟨rfl, hb3⟩
  clear s0 s1 s2 s3 s4 s5 s6 s7 s8 j0 j1 j2 j3 j4 j5 j6 j7 j8 l3 hcmp
  cases hT : tabB op with
  | false =>
   have hK := KN.out hT
   have hf : Kp (R = 5) := ⟨RI.out.f5 hT⟩
   subst hK
   clear FF TT AA KS KN RI hT
   go_wp2_with fail
   go_ret
   exact ⟨ret_int hf.out.symm, bel_trans B01 hb3⟩
  | true =>
   obtain ⟨KT, KV, hK⟩ := KS.out hT
   subst hK
   have nilF : ∀ W : World, (binOp .eql 149 (.iface KT KV) .nilIface).run Tryz.prog W = .ok (.bool false) W := fun _ => by kernel_rfl
   have FF2 := Kp.mk (FF.out hT)
   rw [hT] at RI
   have hb3' := hb3
   obtain ⟨s0, s1, s2, s3, s4, s5, s6, s7, s8⟩ := SCC.out _ hb3
   obtain ⟨j0, j1, j2, j3, j4, j5, j6, j7, j8⟩ := INC.out _ hb3
   clear KS KN FF
   cases HB with
   | false =>
    have hf : Kp (R = 6) := ⟨RI.out.f6 rfl rfl⟩
    simp only [Bool.false_and] at FF2
    exact tl83
   | true =>
    cases CB with
    | false =>
     have hf : Kp (R = 6) := ⟨RI.out.f6c rfl rfl rfl⟩
     simp only [Bool.and_false] at FF2
     exact tl83
    | true =>
     simp only [Bool.and_true] at FF2
     have TT2 := Kp.mk (TT.out hT rfl)
     have AA2 := Kp.mk (AA.out hT rfl rfl)
     clear TT AA hT
     go_wp2_with fail
     refine (FF2.out _ hb3).mono ?_
     rintro e w4 ⟨rfl, hb4⟩
     clear s0 s1 s2 s3 s4 s5 s6 s7 s8 j0 j1 j2 j3 j4 j5 j6 j7 j8
     have hb4' := bel_trans hb3' hb4
     obtain ⟨s0, s1, s2, s3, s4, s5, s6, s7, s8⟩ := SCC.out _ hb4'
     cases GB with
     | false =>
      have hf : Kp (R = 7) := ⟨RI.out.f7 rfl rfl rfl rfl⟩
      clear RI AA2
      go_wp2_with fail
      refine (TT2.out _ hb4').mono ?_
      rintro e w5 ⟨rfl, hb5⟩
      go_wp2_with fail
      go_ret
      exact ⟨ret_int hf.out.symm, bel_trans B01 (bel_trans hb4' hb5)⟩
     | true =>
      go_wp2_with fail
      refine (TT2.out _ hb4').mono ?_
      rintro e w5 ⟨rfl, hb5⟩
      clear s0 s1 s2 s3 s4 s5 s6 s7 s8
      have hb5' := bel_trans hb4' hb5
      obtain ⟨s0, s1, s2, s3, s4, s5, s6, s7, s8⟩ := SCC.out _ hb5'
      cases AB with
      | false =>
       have hf : Kp (R = 8) := ⟨RI.out.f8 rfl rfl rfl rfl rfl⟩
       simp only [Bool.false_and] at AA2
       exact tl75
      | true =>
       cases SB with
       | false =>
        have hf : Kp (R = 8) := ⟨RI.out.f8s rfl rfl rfl rfl rfl rfl⟩
        simp only [Bool.and_false] at AA2
        exact tl75
       | true =>
        simp only [Bool.and_true] at AA2
        go_wp2_with fail
        refine (AA2.out _ hb5').mono ?_
        rintro e w6 ⟨rfl, hb6⟩
        clear s0 s1 s2 s3 s4 s5 s6 s7 s8
        have hb6' := bel_trans hb5' hb6
        obtain ⟨j0, j1, j2, j3, j4, j5, j6, j7, j8⟩ := INC.out _ hb6'
        by_cases e20 : op = 20
        ·have n20 : (op == 20) = true := by simp [e20]
         by_cases h0 : 0 < i
         ·have h0' : (0 : Int) < (i : Int) := by omega
          have pv := PVW.out _ hb6' h0
          have hd : ((i - 1 : Nat) : Int) = (i : Int) - 1 := by omega
          have hi1 : (i : Int) - 1 < (ys.length : Int) := by omega
          obtain ⟨m, rfl⟩ : ∃ m, i = m + 1 := ⟨i - 1, by omega⟩
          simp only [Nat.add_sub_cancel] at pv
          have hm1 : ((m + 1 : Nat) : Int) - 1 = (m : Int) := by omega
          by_cases ep : pop = 20
          ·have hf : Kp (R = 0) := ⟨RI.out.f0 rfl rfl rfl rfl rfl rfl (by simp [ep])⟩
           have np : (pop != 20) = false := by simp [ep]
           replace ep := Kp.mk ep
           replace e20 := Kp.mk e20
           clear RI hd
           exact tl71
          ·have hf : Kp (R = 9) := ⟨RI.out.f9 rfl rfl rfl rfl rfl rfl (by simp [ep, e20])⟩
           have np := nbT ep
           replace e20 := Kp.mk e20
           clear RI hd ep
           exact tl71
         ·have hf : Kp (R = 0) := ⟨RI.out.f0 rfl rfl rfl rfl rfl rfl (by simp [h0])⟩
          have h0' : ¬ (0 : Int) < (i : Int) := by omega
          replace e20 := Kp.mk e20
          clear RI h0
          exact tl71
        ·have hf : Kp (R = 0) := ⟨RI.out.f0 rfl rfl rfl rfl rfl rfl (by simp [e20])⟩
         have n20 := nb e20
         clear RI e20
         exact tl71
end Go.Proofs.YtgdcgjlmkmdklaaGreatDoor

namespace Go.Proofs.YtgdcgjlmkmdklaaGreatDoor
open Go.ChangeShapes Go.WideShapes Go.ChangeAt Go.RowKit
attribute [local go_sem] Oper.semAt_some
set_option linter.unusedVariables false
set_option linter.unusedSimpArgs false
set_option maxRecDepth 100000 in
set_option maxHeartbeats 2000000 in
theorem instrs_stops (F : Fence) (n : Nat) (hF : F.fn 138) (hro : F.round = none) (hn : 1 ≤ n) (n0 Bx : Nat) (w0 : World) (vb : Value) (Y : List (List ItD)) (hY : ItBls n0 w0 vb Y)
  (hc : At w0 Bx 4 vb) (hS0 : n0 ≤ w0.heap.size) :
  SeqStopsK F n Tryz.prog 138 #[.pointer (some ⟨Bx, 0, none⟩)] (fun x : {y : ItD // y ∈ Y.flatten} => itE x.1) (Below n0) (fun ys => ys.map (·.1) = Y.flatten) (fun _ => True) Y.flatten.length w0 := by
 intro l J Jx W hW hJ hJx hR h0
 have hal : ∀ s A o, J s A → J s (World.alloc A o) := fun s A o h => hJ s A _ none h (World.grownBy_alloc A o none) (fun r e => by cases e)
 obtain ⟨L, hL⟩ : ∃ L, L = Y.flatten.attach := ⟨_, rfl⟩
 have hLl : L.length = Y.flatten.length := by rw [hL]; simp
 have hLg : ∀ m (h : m < L.length), L[m].1 = Y.flatten[m]'(by omega) := fun m h => by subst hL; simp
 have hLe : L.map (·.1) = Y.flatten := by subst hL; simp
 obtain ⟨S, hS⟩ : ∃ S : Nat → Prop, S = fun k => k < n0 := ⟨_, rfl⟩
 have hSw : ∀ k, S k → k < w0.heap.size := fun k hk => by rw [hS] at hk; omega
 have hsn : ∀ k, S k → k < n0 := fun k hk => by rw [hS] at hk; exact hk
 replace hS : ∀ k, k < n0 → S k := fun k hk => by rw [hS]; exact hk
 have K0 : Kq S w0 W := Kq.below hW hSw
 obtain ⟨⟨b, o, ⟨⟨a, cap, rfl, h1, h2⟩, h3⟩, hk⟩, ix⟩ := hY
 replace hc := (hW.cell (p := ⟨Bx, 4, none⟩) (Lib.lt_of_cell hc)).trans hc
 refine callsIn_of_wp Tryz.func138 rfl hF ?_ hro
 simp only [Tryz.ntmps138, List.size_toArray, List.length_cons, List.length_nil, Nat.reduceAdd, Nat.reduceSub, Array.replicate_succ, Array.replicate_zero, List.push_toArray, List.append_toArray, List.nil_append, List.cons_append]
 replace h2 := Kp.mk h2
 replace hk := Kp.mk hk
 replace ix := Kp.mk ix
 replace hR := Kp.mk hR
 replace hS := Kp.mk hS
 replace hLe := Kp.mk hLe
 replace hLg := Kp.mk hLg
 replace hsn := Kp.mk hsn
 gi_wp2
 gi_loopw [10] (fun i wr => ∃ k : Nat, k ≤ Y.length ∧ i = .int .i64 k ∧ J (L.take (offY Y k)) wr ∧ Kq S W wr) (fun i _ => Y.length - (intOf i).toNat)
 case atStart => exact ⟨0, Nat.zero_le _, rfl, h0, Kq.refl _ _⟩
 case round =>
  obtain ⟨k, hkl, rfl, hJk, KW⟩ := hrel
  by_cases hlt : k < Y.length
  ·obtain rfl := h2.out (by omega)
   obtain ⟨hb, vi, c0, hins⟩ := hk.out k hlt
   replace c0 := KW.at (hS.out _ hb) (K0.at (hS.out _ hb) c0)
   obtain ⟨⟨bi, oi, ⟨⟨ai, capi, rfl, i1, i2⟩, i3⟩, hi⟩⟩ := hins
   obtain ⟨ys, hys⟩ : ∃ ys, Kp (Y[k] = ys) := ⟨_, ⟨rfl⟩⟩
   rw [hys.out] at hi i3 i1 i2 c0
   have hR2 : Kp (∀ j (hj : j < ys.length) W1, J (L.take (offY Y k + j)) W1 → YieldAt F (n - 1) Tryz.prog l #[.agg #[.int .i64 k, .int .i64 j], inV ys[j].d ys[j].va ys[j].vb ys[j].vw] W1 fun e W' =>
     e = Ending.returned (Value.bool true) ∧ J (L.take (offY Y k + (j + 1))) W' ∧ Below n0 W1 W' ∨ e = Ending.returned (Value.bool false) ∧ (∃ pre, Jx pre W')) := ⟨fun j hj W1 hJ1 => by
    obtain ⟨q, e⟩ := flat_at Y k j hlt (by rw [hys.out]; exact hj)
    have r := hR.out _ (L[offY Y k + j]'(by omega)) W1 hJ1 (by rw [List.length_take]; omega)
    have x := ix.out k hlt j (by rw [hys.out]; exact hj)
    have et : L.take (offY Y k + j) ++ [L[offY Y k + j]'(by omega)] = L.take (offY Y k + (j + 1)) := (List.take_succ_eq_append_getElem (by omega)).symm
    rw [et] at r
    rw [hLg.out _ (by omega), e] at r
    simp only [hys.out] at x
    simp only [itE, hys.out, x.1, x.2] at r
    refine r.mono ?_
    rintro e w' (⟨h1, h2, h3⟩ | ⟨h1, h2⟩)
    ·exact .inl ⟨h1, h2, h3⟩
    ·exact .inr ⟨h1, ⟨_, h2⟩⟩⟩
   have hoff : Kp (offY Y (k + 1) = offY Y k + ys.length) := ⟨by rw [offY_succ Y k hlt, hys.out]⟩
   replace hi := Kp.mk hi
   replace i2 := Kp.mk i2
   replace c0 : At wr b (o + k) (.slice ai ys.length capi) := c0
   have HJ := Kp.mk hJk
   have hbl := Lib.lt_of_cell c0
   clear hR ix hk hys
   generalize offY Y k = O at *
   gi_wp2
   gi_loopw [18] (fun i wq => ∃ j : Nat, j ≤ ys.length ∧ i = .int .i64 j ∧ J (L.take (O + j)) wq ∧ Kq S W wq) (fun i _ => ys.length - (intOf i).toNat)
   case atStart =>
    exact ⟨0, Nat.zero_le _, rfl, hal _ _ _ HJ.out, KW.trans (Kq.below (bel_alloc _ _) (fun k hk => by have := hSw k hk; have := hW.size; have := KW.size; omega))⟩
   case round =>
    obtain ⟨j, hjl, rfl, hJj, KQ⟩ := hrel
    by_cases hlt2 : j < ys.length
    ·obtain rfl := i2.out (by omega)
     obtain ⟨hb2, sh, c9⟩ := hi.out j hlt2
     replace c9 := KQ.i9 (hS.out _ hb2) (K0.i9 (hS.out _ hb2) c9)
     have hR3 := hR2.out j hlt2
     generalize ys[j] = y at *
     obtain ⟨yb, yi, d, va, vb, vw⟩ := y
     obtain ⟨⟨p1, m1, g1, rfl⟩, ⟨p2, m2, g2, rfl⟩, ⟨p3, m3, g3, rfl⟩⟩ := sh
     obtain ⟨q0, q1, q2, q3, q4, q5, q6, q7, q8⟩ := c9
     have hwl : W.heap.size ≤ wr.heap.size := KQ.size
     have hsl : ∀ k, S k → k < W.heap.size := fun k hk => by have := hSw k hk; have := hW.size; omega
     obtain ⟨fn, tmps, assign, body, hy, hRR⟩ := hR3 (wr.alloc (Go.Obj.cells #[.int .i64 d.op, .int .i64 d.ty, .int .i64 d.fl, .int .i64 d.pr, .int .i64 d.ca, .int .i64 d.sz, .slice p1 m1 g1, .slice p2 m2 g2, .slice p3 m3 g3] 73))
      (hal _ _ _ hJj)
     have KA : Kq S W (wr.alloc (Go.Obj.cells #[.int .i64 d.op, .int .i64 d.ty, .int .i64 d.fl, .int .i64 d.pr, .int .i64 d.ca, .int .i64 d.sz, .slice p1 m1 g1, .slice p2 m2 g2, .slice p3 m3 g3] 73)) :=
      KQ.trans (Kq.below (bel_alloc _ _) (fun k hk => by have := hsl k hk; omega))
     dsimp only at hy
     gi_wp2
     refine hRR.mono ?_
     rintro e W3 (⟨rfl, hJ3, hk3⟩ | ⟨rfl, ⟨m, hJx3⟩⟩)
     ·gi_wp2
      exact ⟨⟨j + 1, by omega, by go_num, hJ3, KA.trans (Kq.below hk3 hsn.out)⟩, by simp [intOf]; omega⟩
     ·gi_wp2
      refine bodyPost_ret (results_none rfl _ _ _) rfl ?_
      exact ⟨⟨_, rfl⟩, .inr ⟨m, trivial, hJx3⟩⟩
    ·exact tl94
  ·obtain rfl : k = Y.length := by omega
   gi_wp2
   go_end0
   refine ⟨⟨_, rfl⟩, .inl ⟨L, hLe.out, ?_⟩⟩
   rw [offY_end, ← hLl, List.take_length] at hJk
   exact hJk
end Go.Proofs.YtgdcgjlmkmdklaaGreatDoor

namespace Go.Proofs.YtgdcgjlmkmdklaaGreatDoor
open Go.ChangeShapes Go.WideShapes Go.ChangeAt Go.RowKit
set_option linter.unusedVariables false
set_option linter.unusedSimpArgs false
theorem mem_weightsAll {H : Type} {P : Program} {e : TypeId} {ds : List (DataW H)} {d : DataW H} {n : Nat} (hd : d ∈ ds) (hn : n ∈ d.weights P e) : n ∈ DataW.weightsAll P e ds := by
 induction ds with
 | nil => simp at hd
 | cons y r ih =>
  simp only [DataW.weightsAll, List.mem_append]
  rcases List.mem_cons.1 hd with rfl | h
  ·exact .inl hn
  ·exact .inr (ih h)
theorem list_of {α : Type} (n : Nat) (R : Nat → α → Prop) (h : ∀ i, i < n → ∃ y, R i y) : ∃ ys : List α, ys.length = n ∧ ∀ i (hi : i < ys.length), R i ys[i] := by
 refine ⟨List.ofFn (fun i : Fin n => Classical.choose (h i i.2)), by simp, fun i hi => ?_⟩
 rw [List.getElem_ofFn]
 exact Classical.choose_spec (h i (by simpa using hi))
section
variable {H : Type} {enc : TypeId × Value → H} {w : World} {spare : Nat → Bool} {held : Bool}
theorem cells_in {a : Addr} {m n : Nat} {cs : List Value} (h : w.cells? 0 (a.add m) n = some cs) (hn : 0 < n) : (m = 0 → a.spot = none) ∧ cs.length = n ∧ ∀ j (hj : j < cs.length), At w a.block (a.off + m + j) cs[j] := by
 have h2 := World.cells?_some h
 obtain ⟨-, hl, hc⟩ := h2
 refine ⟨fun hm => ?_, hl, fun j hj => ?_⟩
 ·have := hc 0 hn
  rw [Deep.add_add, hm, List.getElem?_eq_getElem (by omega)] at this
  exact World.cell?_spot this
 ·have := hc j (by omega)
  rw [Deep.add_add, List.getElem?_eq_getElem hj] at this
  obtain ⟨b, o, s⟩ := a
  show w.cell? ⟨b, o + m + j, none⟩ = _
  rw [Nat.add_assoc]
  by_cases q : m + j = 0
  ·have hs : s = none := by
    rw [q] at this
    exact World.cell?_spot this
   subst hs
   rwa [Go.WideShapes.add_plain] at this
  ·unfold Addr.add at this
   rwa [if_neg q] at this
theorem opn_slice {t e : TypeId} {size fuel : Nat} {v : Value} {x : DataW H × List MemPlace} (ht : Tryz.prog.underlying t = some (.slice e)) (hc : Tryz.prog.cellsOf e = size) (hs : 0 < size) (hb : decide (0 < Tryz.prog.bytesOf e) = true)
  (h : DataW.trod enc Tryz.prog w 0 spare held fuel t [v] = some x) (hw : ∀ n ∈ x.1.weights Tryz.prog t, n ≤ reachBytes) :
  ∃ b o len, Sl v len b o ∧ ∀ i, i < len → ∃ cs y n, cs.length = size ∧ (∀ j (hj : j < cs.length), At w b (o + i * size + j) cs[j]) ∧ DataW.trod enc Tryz.prog w 0 spare held n e cs = some y ∧ ∀ n ∈ y.1.weights Tryz.prog e, n ≤ reachBytes := by
 rcases Deep.open_slice ht h with ⟨hcs, -⟩ | ⟨a, len, cap, m, n, D, Pl, hcs, -, hl, hm, hmm, hx, hel⟩
 ·obtain rfl : v = .slice none 0 0 := by simpa using hcs
  exact ⟨0, 0, 0, ⟨⟨none, 0, rfl, Nat.le_refl _, fun h => absurd h (by simp)⟩, by simp⟩, fun i hi => absurd hi (by omega)⟩
 ·obtain rfl : v = .slice (some a) len cap := by simpa using hcs
  have hlm : len ≤ m := by rw [hmm]; split <;> omega
  subst hx
  simp only [DataW.weights, ht, List.mem_cons, List.mem_append] at hw
  have hlen : len ≤ 140737488355328 := by
   have h1 := hw _ (.inl rfl)
   simp only [List.length_map, List.length_range] at h1
   have h2 := reachBytes_lt
   have h3 : len * 1 ≤ (len + (m - len)) * Tryz.prog.bytesOf e := Nat.mul_le_mul (by omega) (of_decide_eq_true hb)
   omega
  refine ⟨a.block, a.off, len, ⟨⟨some a, cap, rfl, hl, fun h0 => ?_⟩, hlen⟩, fun i hi => ?_⟩
  ·obtain ⟨cs', h1, h2⟩ := hel 0 (by omega)
   rw [hc] at h1
   have q := (cells_in h1 hs).1 (by omega)
   obtain ⟨b, o, s⟩ := a
   simp only at q
   subst q
   rfl
  ·obtain ⟨cs', h1, h2⟩ := hel i (by omega)
   rw [hc] at h1
   obtain ⟨-, q2, q3⟩ := cells_in h1 hs
   exact ⟨cs', _, n, q2, q3, h2, fun k hk => hw k (.inr (.inl (mem_weightsAll (List.mem_map.2 ⟨i, List.mem_range.2 hi, rfl⟩) hk)))⟩
theorem opn_ints {t e : TypeId} {k : IntKind} {fuel : Nat} {v : Value} {x : DataW H × List MemPlace} (ht : Tryz.prog.underlying t = some (.slice e)) (he : Tryz.prog.underlying e = some (.int k)) (hc : Tryz.prog.cellsOf e = 1) (hb : decide (0 < Tryz.prog.bytesOf e) = true)
  (h : DataW.trod enc Tryz.prog w 0 spare held fuel t [v] = some x) (hw : ∀ n ∈ x.1.weights Tryz.prog t, n ≤ reachBytes) : ∃ xs, Ints 0 k w v xs := by
 obtain ⟨b, o, len, s, hel⟩ := opn_slice ht hc (by decide) hb h hw
 obtain ⟨zs, e, hz⟩ := list_of len (fun i (z : Int) => At w b (o + i) (.int k z)) (fun i hi => by
  obtain ⟨cs, y, n, c1, c2, c3, -⟩ := hel i hi
  obtain ⟨z, rfl, -, -⟩ := DataW.trod_int he c3
  exact ⟨z, by simpa using c2 0 (by simp)⟩)
 subst e
 exact ⟨zs, ⟨b, o, s, Nat.zero_le _, hz⟩⟩
theorem one_int {e : TypeId} {k : IntKind} {n : Nat} {v : Value} {y : DataW H × List MemPlace} (he : Tryz.prog.underlying e = some (.int k)) (h : DataW.trod enc Tryz.prog w 0 spare held n e [v] = some y) : ∃ a, v = .int k a := by
 obtain ⟨a, h1, -, -⟩ := DataW.trod_int he h
 exact ⟨a, by simpa using h1⟩
theorem opn_ops {fuel : Nat} {v : Value} {x : DataW H × List MemPlace} (h : DataW.trod enc Tryz.prog w 0 spare held fuel 220 [v] = some x) (hw : ∀ n ∈ x.1.weights Tryz.prog 220, n ≤ reachBytes) : ∃ xs, Ops 0 w v xs := by
 obtain ⟨b, o, len, s, hel⟩ := opn_slice Tryz.underlying220 (size := 4) (by kernel_rfl) (by decide) (by kernel_rfl) h hw
 obtain ⟨zs, e, hz⟩ := list_of len (fun i (d : OpD) => OpAt w b (o + i * 4) d) (fun i hi => by
  obtain ⟨cs, y, n, c1, c2, c3, -⟩ := hel i hi
  match cs, c1 with
  | [v0, v1, v2, v3], _ =>
   obtain ⟨ys, m, rfl, -, -, hl, hd⟩ := DataW.trod_struct Tryz.underlying240 c3
   match ys, hl with
   | [y0, y1, y2, y3], _ =>
    obtain ⟨a0, rfl⟩ := one_int Tryz.underlying2 (by simpa [show Tryz.prog.cellsOf 2 = 1 by kernel_rfl] using hd 0 _ rfl)
    obtain ⟨a1, rfl⟩ := one_int Tryz.underlying2 (by simpa [show Tryz.prog.cellsOf 2 = 1 by kernel_rfl] using hd 1 _ rfl)
    obtain ⟨a2, rfl⟩ := one_int Tryz.underlying2 (by simpa [show Tryz.prog.cellsOf 2 = 1 by kernel_rfl] using hd 2 _ rfl)
    obtain ⟨a3, rfl⟩ := one_int Tryz.underlying119 (by simpa [show Tryz.prog.cellsOf 119 = 1 by kernel_rfl] using hd 3 _ rfl)
    exact ⟨⟨a0, a1, a2, a3⟩, c2 0 (by simp), c2 1 (by simp), c2 2 (by simp), c2 3 (by simp)⟩)
 subst e
 exact ⟨zs, ⟨b, o, s, Nat.zero_le _, hz⟩⟩
theorem opn_ins {fuel : Nat} {v : Value} {x : DataW H × List MemPlace} (h : DataW.trod enc Tryz.prog w 0 spare held fuel 169 [v] = some x) (hw : ∀ n ∈ x.1.weights Tryz.prog 169, n ≤ reachBytes) : ∃ xs, Ins 0 w v xs := by
 obtain ⟨b, o, len, s, hel⟩ := opn_slice Tryz.underlying169 (size := 9) (by kernel_rfl) (by decide) (by kernel_rfl) h hw
 obtain ⟨zs, e, hz⟩ := list_of len (fun i (d : InD) => ∃ va vb vw, InAt 0 w b (o + i * 9) d va vb vw) (fun i hi => by
  obtain ⟨cs, y, n, c1, c2, c3, c4⟩ := hel i hi
  match cs, c1 with
  | [v0, v1, v2, v3, v4, v5, v6, v7, v8], _ =>
   obtain ⟨ys, m, rfl, hx, -, hl, hd⟩ := DataW.trod_struct Tryz.underlying222 c3
   match ys, hl with
   | [y0, y1, y2, y3, y4, y5, y6, y7, y8], _ =>
    simp only [hx, DataW.weights, Tryz.underlying222, DataW.weightsEach, List.map_cons, List.map_nil, List.mem_append] at c4
    obtain ⟨a0, rfl⟩ := one_int Tryz.underlying2 (by simpa [show Tryz.prog.cellsOf 2 = 1 by kernel_rfl] using hd 0 _ rfl)
    obtain ⟨a1, rfl⟩ := one_int Tryz.underlying2 (by simpa [show Tryz.prog.cellsOf 2 = 1 by kernel_rfl] using hd 1 _ rfl)
    obtain ⟨a2, rfl⟩ := one_int Tryz.underlying2 (by simpa [show Tryz.prog.cellsOf 2 = 1 by kernel_rfl] using hd 2 _ rfl)
    obtain ⟨a3, rfl⟩ := one_int Tryz.underlying2 (by simpa [show Tryz.prog.cellsOf 2 = 1 by kernel_rfl] using hd 3 _ rfl)
    obtain ⟨a4, rfl⟩ := one_int Tryz.underlying2 (by simpa [show Tryz.prog.cellsOf 2 = 1 by kernel_rfl] using hd 4 _ rfl)
    obtain ⟨a5, rfl⟩ := one_int Tryz.underlying2 (by simpa [show Tryz.prog.cellsOf 2 = 1 by kernel_rfl] using hd 5 _ rfl)
    obtain ⟨xa, ha⟩ := opn_ops (by simpa [show Tryz.prog.cellsOf 220 = 1 by kernel_rfl] using hd 6 _ rfl) (fun n hn => c4 n (by simp [hn]))
    obtain ⟨xb, hb⟩ := opn_ints Tryz.underlying50 Tryz.underlying2 (by kernel_rfl) (by kernel_rfl) (by simpa [show Tryz.prog.cellsOf 50 = 1 by kernel_rfl] using hd 7 _ rfl) (fun n hn => c4 n (by simp [hn]))
    obtain ⟨xc, hc⟩ := opn_ints Tryz.underlying71 Tryz.underlying119 (by kernel_rfl) (by kernel_rfl) (by simpa [show Tryz.prog.cellsOf 71 = 1 by kernel_rfl] using hd 8 _ rfl) (fun n hn => c4 n (by simp [hn]))
    exact ⟨⟨a0, a1, a2, a3, a4, a5, xa, xb, xc⟩, v6, v7, v8, c2 0 (by simp), c2 1 (by simp), c2 2 (by simp), c2 3 (by simp), c2 4 (by simp), c2 5 (by simp), c2 6 (by simp), c2 7 (by simp), c2 8 (by simp), ⟨ha, hb, hc⟩⟩)
 subst e
 exact ⟨zs, ⟨b, o, s, Nat.zero_le _, hz⟩⟩
theorem opn_bls {fuel : Nat} {v : Value} {x : DataW H × List MemPlace} (h : DataW.trod enc Tryz.prog w 0 spare held fuel 92 [v] = some x) (hw : ∀ n ∈ x.1.weights Tryz.prog 92, n ≤ reachBytes) : ∃ xs, Bls 0 w v xs := by
 obtain ⟨b, o, len, s, hel⟩ := opn_slice Tryz.underlying92 (size := 1) (by kernel_rfl) (by decide) (by kernel_rfl) h hw
 obtain ⟨zs, e, hz⟩ := list_of len (fun i (xs : List InD) => ∃ vi, At w b (o + i) vi ∧ Ins 0 w vi xs) (fun i hi => by
  obtain ⟨cs, y, n, c1, c2, c3, c4⟩ := hel i hi
  match cs, c1 with
  | [v0], _ =>
   obtain ⟨ys, m, rfl, hx, -, hl, hd⟩ := DataW.trod_struct Tryz.underlying171 c3
   match ys, hl with
   | [y0], _ =>
    simp only [hx, DataW.weights, Tryz.underlying171, DataW.weightsEach, List.map_cons, List.map_nil, List.mem_append] at c4
    obtain ⟨xs, hx⟩ := opn_ins (by simpa [show Tryz.prog.cellsOf 169 = 1 by kernel_rfl] using hd 0 _ rfl) (fun n hn => c4 n (by simp [hn]))
    exact ⟨xs, v0, by simpa using c2 0 (by simp), hx⟩)
 subst e
 exact ⟨zs, ⟨b, o, s, Nat.zero_le _, hz⟩⟩
set_option maxRecDepth 100000 in
theorem opn_fn {fuel : Nat} {cs : List Value} {x : DataW H × List MemPlace} (h : DataW.trod enc Tryz.prog w 0 spare held fuel 94 cs = some x) (hw : ∀ n ∈ x.1.weights Tryz.prog 94, n ≤ reachBytes) : ∃ d vp vb, cs = [.string d.name, .int .i64 d.link, vp, .int .i64 d.res, vb] ∧ FnAt 0 w d vp vb := by
 obtain ⟨ys, m, rfl, hx, hcl, hl, hd⟩ := DataW.trod_struct Tryz.underlying94 h
 rw [show Tryz.prog.cellsOf 94 = 5 by kernel_rfl] at hcl
 match cs, hcl with
 | [v0, v1, v2, v3, v4], _ =>
  match ys, hl with
  | [y0, y1, y2, y3, y4], _ =>
   simp only [hx, DataW.weights, Tryz.underlying94, DataW.weightsEach, List.map_cons, List.map_nil, List.mem_append] at hw
   obtain ⟨s, e0, e00, -⟩ := DataW.trod_string Tryz.underlying9 (by simpa [show Tryz.prog.cellsOf 9 = 1 by kernel_rfl] using hd 0 _ rfl)
   obtain rfl : v0 = .string s := by simpa using e0
   obtain ⟨a1, rfl⟩ := one_int Tryz.underlying2 (by simpa [show Tryz.prog.cellsOf 2 = 1 by kernel_rfl] using hd 1 _ rfl)
   obtain ⟨a3, rfl⟩ := one_int Tryz.underlying2 (by simpa [show Tryz.prog.cellsOf 2 = 1 by kernel_rfl] using hd 3 _ rfl)
   obtain ⟨xp, hp⟩ := opn_ints Tryz.underlying50 Tryz.underlying2 (by kernel_rfl) (by kernel_rfl) (by simpa [show Tryz.prog.cellsOf 50 = 1 by kernel_rfl] using hd 2 _ rfl) (fun n hn => hw n (by simp [hn]))
   obtain ⟨xb, hb⟩ := opn_bls (by simpa [show Tryz.prog.cellsOf 92 = 1 by kernel_rfl] using hd 4 _ rfl) (fun n hn => hw n (by simp [hn]))
   have hn : s.size ≤ 140737488355328 := by
    exact tl96
   exact ⟨⟨s, a1, xp, a3, xb⟩, v2, v4, rfl, hn, hp, hb⟩
end
end Go.Proofs.YtgdcgjlmkmdklaaGreatDoor

namespace Go.Proofs.YtgdcgjlmkmdklaaGreatDoor
open Go.ChangeShapes Go.WideShapes Go.ChangeAt Go.RowKit
set_option linter.unusedVariables false
set_option linter.unusedSimpArgs false
theorem keep_cells {w w' : World} {b : Nat} {o : Obj} (h : w.heap[b]? = some o) (hb : Below w.heap.size w w') : w'.heap[b]? = some o := (hb.block b (Array.getElem?_eq_some_iff.1 h).1).trans h
theorem new_cells (w : World) (o : Obj) : (w.alloc o).heap[w.heap.size]? = some o := (MapKept.heap_alloc w o).1
theorem FnAt.shapes {lo : Nat} {w : World} {d : FnD} {vp vb : Value} (h : FnAt lo w d vp vb) : (∃ a c, vp = .slice a d.params.length c) ∧ ∃ a c, vb = .slice a d.blocks.length c := by
 obtain ⟨a1, k1, e1⟩ := h.p.shape
 obtain ⟨a2, k2, e2⟩ := h.b.shape
 exact ⟨⟨a1, k1, e1⟩, ⟨a2, k2, e2⟩⟩
theorem fnN_nn (d : FnD) : 0 ≤ fnN d := by have := blsN_nn d.blocks; unfold fnN; omega
theorem fnN_small (d : FnD) (h : 0 ≤ less 1048576 (fnN d)) : fnN d ≤ 1048576 := by
 unfold less at h
 split at h <;> omega
end Go.Proofs.YtgdcgjlmkmdklaaGreatDoor
