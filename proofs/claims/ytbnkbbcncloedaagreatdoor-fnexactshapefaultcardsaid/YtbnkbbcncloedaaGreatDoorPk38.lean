/- The packed texts Im18. -/
import Derived.Test.YtbnkbbcncloedaaGreatDoorRows
import Derived.WalkKit
import Derived.ProofKit
import Derived.OpenShut
import Derived.WalkLawsBesides
import Derived.Below
import Derived.BigQuiet
import Derived.Lib.QuietBelow
import Derived.Lib.AtoiErrMem
import Derived.Deep.OwnRows
import Derived.Deep.DeepCutAuto
import Derived.RangeFuncNested
import Derived.RangeFuncBound
import Derived.RangeFuncCalls
import Derived.RangeFuncLeaves
import Derived.OwnWalkIn
import Derived.TacticsInMore
import Derived.LoopNIn
import Derived.LoopIn
import Derived.Shelf.Abstract
import Derived.Maps.AppendAt
import Derived.OwnWalk
import Derived.Lib.LaidTab
import Derived.Laws.BitsAllLaws
import Derived.Laws.Closers25b
import Derived.Laws.EntriesVeiled
import Derived.Deep.RegionWith
import Derived.Laws.MathBits
import Derived.Shelf.Spec.BitsCarry
import Derived.Laws.CopyOwn
import Derived.Deep.RegionLaw
import Derived.Lib.SliceRun
import Derived.Laws.Tables
import Derived.Lib.SmallJoins
import Derived.Deep.RegionHeld3
import Derived.Test.YtbnkbbcncloedaaGreatDoorPk1
import Derived.Test.YtbnkbbcncloedaaGreatDoorPk2
import Derived.Test.YtbnkbbcncloedaaGreatDoorPk3
import Derived.Test.YtbnkbbcncloedaaGreatDoorPk4
import Derived.Test.YtbnkbbcncloedaaGreatDoorPk5
import Derived.Test.YtbnkbbcncloedaaGreatDoorPk6
import Derived.Test.YtbnkbbcncloedaaGreatDoorPk7
import Derived.Test.YtbnkbbcncloedaaGreatDoorPk9
import Derived.Test.YtbnkbbcncloedaaGreatDoorPk10
import Derived.Test.YtbnkbbcncloedaaGreatDoorPk19
import Derived.Test.YtbnkbbcncloedaaGreatDoorPk21
import Derived.Test.YtbnkbbcncloedaaGreatDoorPk22
import Derived.Test.YtbnkbbcncloedaaGreatDoorPk25
import Derived.Test.YtbnkbbcncloedaaGreatDoorPk26
import Derived.Test.YtbnkbbcncloedaaGreatDoorPk36
import Derived.Test.YtbnkbbcncloedaaGreatDoorPk37
namespace Go.Proofs.YtbnkbbcncloedaaGreatDoor
section
open Go.ChangeShapes Go.WideShapes Go.ChangeAt Go.RowKit

set_option linter.unusedVariables false

set_option linter.unusedSimpArgs false

theorem phi_prev {ng : Nat} {ts : List Int} {fs : List FnD} {f : FnD} {bk : Int} {ys : List InD} {i : Nat} (hi : i < ys.length) (h : ∀ j, j < i → atF ng ts fs f bk ys j = 0) :
    ((ys.take i).any fun y => decide (y.op ≠ 20)) = (decide (0 < i) && decide ((ys.getD (i - 1) default).op ≠ 20)) := by
  cases i with
  | zero => simp
  | succ j =>
    have hj : j < ys.length := by omega
    have hg : ys.getD j default = ys[j] := by simp [List.getD_eq_getElem?_getD, hj]
    rw [List.take_succ_eq_append_getElem hj, List.any_append]
    simp only [Nat.add_sub_cancel, hg]
    by_cases e : (ys[j]).op = 20
    · have q := h j (by omega)
      have hn : ((ys.take j).any fun y => decide (y.op ≠ 20)) = false := by
        unfold atF at q
        split at q
        · unfold inF at q
          rw [hg, e] at q
          split at q
          · omega
          · split at q
            · omega
            · split at q
              · omega
              · split at q
                · omega
                · split at q
                  · omega
                  · split at q
                    · omega
                    · split at q
                      · omega
                      · rename_i hz
                        simpa using hz
        · omega
      rw [hn]
      simp [e]
    · simp [e]

structure ScC (W : World) (B : Nat) (v0 v1 : Value) (name : ByteArray) (link : Int) (v4 : Value) (res : Int) (v6 v7 : Value) (bk : Int) : Prop where
  c0 : At W B 0 v0
  c1 : At W B 1 v1
  c2 : At W B 2 (.string name)
  c3 : At W B 3 (.int .i64 link)
  c4 : At W B 4 v4
  c5 : At W B 5 (.int .i64 res)
  c6 : At W B 6 v6
  c7 : At W B 7 v7
  c8 : At W B 8 (.int .i64 bk)

theorem scC_of {W : World} {B : Nat} {v0 v1 : Value} {name : ByteArray} {link : Int} {v4 : Value} {res : Int} {v6 v7 : Value} {bk : Int} {T : TypeId} (h : W.heap[B]? = some (Go.Obj.cells #[v0, v1, .string name, .int .i64 link, v4, .int .i64 res, v6, v7, .int .i64 bk] T)) : ScC W B v0 v1 name link v4 res v6 v7 bk := by
  have q0 : At W B 0 _ := cells_at h rfl
  have q1 : At W B 1 _ := cells_at h rfl
  have q2 : At W B 2 _ := cells_at h rfl
  have q3 : At W B 3 _ := cells_at h rfl
  have q4 : At W B 4 _ := cells_at h rfl
  have q5 : At W B 5 _ := cells_at h rfl
  have q6 : At W B 6 _ := cells_at h rfl
  have q7 : At W B 7 _ := cells_at h rfl
  have q8 : At W B 8 _ := cells_at h rfl
  exact ⟨q0, q1, q2, q3, q4, q5, q6, q7, q8⟩

set_option maxRecDepth 100000 in
set_option maxHeartbeats 1500000 in
theorem fatI (gs : List GlD) (fs : List FnD) (ts : List Int) (a1 a2 a3 a4 a5 : Option Addr) (params : List Int) (blocks : List (List InD)) (c1 c2 c3 c4 c5 : Nat) (name : ByteArray) (link res bk : Int) (ai : Option Addr) (ki : Nat) (ys : List InD) (i : Nat) (w : World) {lo l2 : Nat} (hm : MoAt lo w gs fs (.slice a1 gs.length c1) (.slice a2 fs.length c2)) (htt : Ints l2 .i64 w (.slice a5 ts.length c5) ts) (hy : Ins lo w (.slice ai ys.length ki) ys) (hw : Wid w) (hi : i < ys.length) (hbd : ∀ x ∈ ys, InB x) (hsz : ∀ x ∈ ys, inN x ≤ 1048576) (hts : ∀ t ∈ ts, t ≠ 0) (hb4 : blocks.length ≤ 140737488355328) (hprev : ∀ j, j < i → atF gs.length ts fs ⟨name, link, params, res, blocks⟩ bk ys j = 0) :
    Calls Tryz.prog 84 #[scV (.slice a1 gs.length c1) (.slice a2 fs.length c2) name link (.slice a3 params.length c3) res (.slice a4 blocks.length c4) (.slice a5 ts.length c5) bk, .slice ai ys.length ki, .int .i64 i] w fun e w' => e = .returned (.int .i64 (atF gs.length ts fs ⟨name, link, params, res, blocks⟩ bk ys i)) ∧ Below w.heap.size w w' := by
  have hgx : ys.getD i default = ys[i] := by simp [List.getD_eq_getElem?_getD, hi]
  obtain ⟨bi, oi, ⟨⟨_, _, hve, y1, y2⟩, y3⟩, -, hic⟩ := hy.ex
  injection hve with e1 e2 e3
  subst e1 e3
  clear e2
  obtain rfl := y2 (by omega)
  obtain ⟨va, vl, vs, hx⟩ := hic i hi
  have hOB : InB ys[i] := hbd _ (List.getElem_mem hi)
  have hSZ : inN ys[i] ≤ 1048576 := hsz _ (List.getElem_mem hi)
  have PH := phi_prev (ng := gs.length) (ts := ts) (fs := fs) (f := ⟨name, link, params, res, blocks⟩) (bk := bk) hi hprev
  have PV : Kp (0 < i → At w bi (oi + (i - 1) * 9) (.int .i64 (ys.getD (i - 1) default).op)) := ⟨fun h0 => by
    obtain ⟨_, _, _, q⟩ := hic (i - 1) (by omega)
    rw [show ys.getD (i - 1) default = ys[i - 1] by simp [List.getD_eq_getElem?_getD, show i - 1 < ys.length by omega]]
    exact q.c0⟩
  have AY := @atF_yes gs.length ts fs ⟨name, link, params, res, blocks⟩ bk ys i
  have AN := @atF_no gs.length ts fs ⟨name, link, params, res, blocks⟩ bk ys i
  rw [hgx] at AY AN
  generalize ys[i] = x at *
  obtain ⟨op, ty, fl, pr, ca, sz, args, bl, ws⟩ := x
  have hxl := hx.l
  obtain ⟨aa, ca', rfl⟩ := ops_shape hxl.a
  obtain ⟨al, cl, rfl⟩ := hxl.b.shape
  obtain ⟨as', cs, rfl⟩ := hxl.c.shape
  obtain ⟨W0, hW⟩ : ∃ W0, W0 = w.alloc (scC (.slice a1 gs.length c1) (.slice a2 fs.length c2) name link (.slice a3 params.length c3) res (.slice a4 blocks.length c4) (.slice a5 ts.length c5) bk) := ⟨_, rfl⟩
  have B0 : Below w.heap.size w W0 := by rw [hW]; exact bel_alloc _ _
  have sC0 : W0.heap[w.heap.size]? = some (scC (.slice a1 gs.length c1) (.slice a2 fs.length c2) name link (.slice a3 params.length c3) res (.slice a4 blocks.length c4) (.slice a5 ts.length c5) bk) := by rw [hW]; exact new_at w _
  obtain ⟨q0, q1, q2, q3, q4, q5, q6, q7, q8, -⟩ := hx.keep B0
  dsimp only at q0 q1 q2 q3 q4 q5 q6 q7 q8 hxl
  obtain ⟨W1, hW1⟩ : ∃ W1, W1 = W0.alloc (Go.Obj.cells #[.int .i64 op, .int .i64 ty, .int .i64 fl, .int .i64 pr, .int .i64 ca, .int .i64 sz, .slice aa args.length ca', .slice al bl.length cl, .slice as' ws.length cs] 82) := ⟨_, rfl⟩
  have B1 : Below W0.heap.size W0 W1 := by rw [hW1]; exact bel_alloc _ _
  have B01 := bel_trans B0 B1
  have iC1 : W1.heap[W0.heap.size]? = some (Go.Obj.cells #[.int .i64 op, .int .i64 ty, .int .i64 fl, .int .i64 pr, .int .i64 ca, .int .i64 sz, .slice aa args.length ca', .slice al bl.length cl, .slice as' ws.length cs] 82) := by rw [hW1]; exact new_at W0 _
  have SCC : Kp (∀ W, Below W1.heap.size W1 W → ScC W w.heap.size (.slice a1 gs.length c1) (.slice a2 fs.length c2) name link (.slice a3 params.length c3) res (.slice a4 blocks.length c4) (.slice a5 ts.length c5) bk) := ⟨fun W hB => scC_of (kept_at (kept_at sC0 B1) hB)⟩
  have INC : Kp (∀ W, Below W1.heap.size W1 W → InC W W0.heap.size op ty fl pr ca sz (.slice aa args.length ca') (.slice al bl.length cl) (.slice as' ws.length cs)) := ⟨fun W hB => inC_of (kept_at iC1 hB)⟩
  have hna : args.length ≤ 1048576 := by unfold inN at hSZ; dsimp only at hSZ; omega
  have hnl : bl.length ≤ 1048576 := by unfold inN at hSZ; dsimp only at hSZ; omega
  have hns : ws.length ≤ 1048576 := by unfold inN at hSZ; dsimp only at hSZ; omega
  have CE : Kp (∀ W, Calls Tryz.prog 146 #[.int .i64 op] W fun e w' => e = .returned (.bool (endB op)) ∧ w' = W) := ⟨fun W => endI op W⟩
  have CIN : Kp (∀ W, Calls Tryz.prog 147 #[.agg #[.int .i64 op, .int .i64 ty, .int .i64 fl, .int .i64 pr, .int .i64 ca, .int .i64 sz, .slice aa args.length ca', .slice al bl.length cl, .slice as' ws.length cs]] W fun e w' => e = .returned (insV op ty fl pr ca sz (.slice aa args.length ca') (.slice al bl.length cl) (.slice as' ws.length cs)) ∧ Below W.heap.size W w') := ⟨fun W => insU op ty fl pr ca sz aa al as' args.length bl.length ws.length ca' cl cs W⟩
  have FF : Kp (tabB op = true → ∀ W, Below W1.heap.size W1 W → Calls Tryz.prog 148 #[scV (.slice a1 gs.length c1) (.slice a2 fs.length c2) name link (.slice a3 params.length c3) res (.slice a4 blocks.length c4) (.slice a5 ts.length c5) bk, .agg #[.int .i64 op, .int .i64 ty, .int .i64 fl, .int .i64 pr, .int .i64 ca, .int .i64 sz, .slice aa args.length ca', .slice al bl.length cl, .slice as' ws.length cs], insV op ty fl pr ca sz (.slice aa args.length ca') (.slice al bl.length cl) (.slice as' ws.length cs)] W fun e w' => e = .returned (.bool (hdB fs bk ⟨op, ty, fl, pr, ca, sz, args, bl, ws⟩ && cntB fs ⟨name, link, params, res, blocks⟩ ⟨op, ty, fl, pr, ca, sz, args, bl, ws⟩)) ∧ Below W.heap.size W w') := ⟨fun ht W hB0 => have hB := bel_trans B01 hB0; fieldsU gs fs ts a1 a2 a3 a4 a5 params blocks c1 c2 c3 c4 c5 name link res bk op ty fl pr ca sz aa al as' args bl ws ca' cl cs W (hm.keep hB) (hxl.a.keep hB) (hxl.b.keep hB) (hxl.c.keep hB) (hw.below hB) hna hnl hns hOB.fl ht⟩
  have TT : Kp (tabB op = true → cntB fs ⟨name, link, params, res, blocks⟩ ⟨op, ty, fl, pr, ca, sz, args, bl, ws⟩ = true → ∀ W, Below W1.heap.size W1 W → Calls Tryz.prog 149 #[scV (.slice a1 gs.length c1) (.slice a2 fs.length c2) name link (.slice a3 params.length c3) res (.slice a4 blocks.length c4) (.slice a5 ts.length c5) bk, insV op ty fl pr ca sz (.slice aa args.length ca') (.slice al bl.length cl) (.slice as' ws.length cs)] W fun e w' => e = .returned (.bool (tgtB ⟨name, link, params, res, blocks⟩ ⟨op, ty, fl, pr, ca, sz, args, bl, ws⟩)) ∧ Below W.heap.size W w') := ⟨fun ht hc W hB0 => have hB := bel_trans B01 hB0; targetsU gs fs ts a1 a2 a3 a4 a5 params blocks c1 c2 c3 c4 c5 name link res bk op ty fl pr ca sz aa al as' args bl ws ca' cl cs W (hxl.b.keep hB) hb4 ht hc⟩
  have AA : Kp (tabB op = true → hdB fs bk ⟨op, ty, fl, pr, ca, sz, args, bl, ws⟩ = true → cntB fs ⟨name, link, params, res, blocks⟩ ⟨op, ty, fl, pr, ca, sz, args, bl, ws⟩ = true → ∀ W, Below W1.heap.size W1 W → Calls Tryz.prog 150 #[scV (.slice a1 gs.length c1) (.slice a2 fs.length c2) name link (.slice a3 params.length c3) res (.slice a4 blocks.length c4) (.slice a5 ts.length c5) bk, insV op ty fl pr ca sz (.slice aa args.length ca') (.slice al bl.length cl) (.slice as' ws.length cs)] W fun e w' => e = .returned (.bool (argB gs.length ts fs ⟨name, link, params, res, blocks⟩ ⟨op, ty, fl, pr, ca, sz, args, bl, ws⟩ && casB ⟨op, ty, fl, pr, ca, sz, args, bl, ws⟩)) ∧ Below W.heap.size W w') := ⟨fun ht hh hc W hB0 => have hB := bel_trans B01 hB0; argsU gs fs ts a1 a2 a3 a4 a5 params blocks c1 c2 c3 c4 c5 name link res bk op ty fl pr ca sz aa al as' args bl ws ca' cl cs W (hm.keep hB) (htt.keep hB) (hxl.a.keep hB) (hxl.c.keep hB) hOB.c (hw.below hB) hna hOB.a hOB.fl hts ht hh hc⟩
  have PVW : Kp (∀ W, Below W1.heap.size W1 W → 0 < i → At W bi (oi + (i - 1) * 9) (.int .i64 (ys.getD (i - 1) default).op)) := ⟨fun W hB h0 => at_keep (PV.out h0) (bel_trans B01 hB)⟩
  have RI := inR_of (R := inF gs.length ts fs ⟨name, link, params, res, blocks⟩ bk (ys.take i) ⟨op, ty, fl, pr, ca, sz, args, bl, ws⟩) (T := tabB op) (H := hdB fs bk ⟨op, ty, fl, pr, ca, sz, args, bl, ws⟩) (C := cntB fs ⟨name, link, params, res, blocks⟩ ⟨op, ty, fl, pr, ca, sz, args, bl, ws⟩) (G := tgtB ⟨name, link, params, res, blocks⟩ ⟨op, ty, fl, pr, ca, sz, args, bl, ws⟩) (A := argB gs.length ts fs ⟨name, link, params, res, blocks⟩ ⟨op, ty, fl, pr, ca, sz, args, bl, ws⟩) (S := casB ⟨op, ty, fl, pr, ca, sz, args, bl, ws⟩) (P := decide (op = 20) && (ys.take i).any fun y => decide (y.op ≠ 20)) rfl
  rw [PH] at RI
  have KS := insV_some op ty fl pr ca sz (.slice aa args.length ca') (.slice al bl.length cl) (.slice as' ws.length cs)
  have KN := insV_none op ty fl pr ca sz (.slice aa args.length ca') (.slice al bl.length cl) (.slice as' ws.length cs)
  obtain ⟨R, hR⟩ : ∃ R, R = atF gs.length ts fs ⟨name, link, params, res, blocks⟩ bk ys i := ⟨_, rfl⟩
  rw [← hR] at AY AN ⊢
  dsimp only at AY AN
  generalize inF gs.length ts fs ⟨name, link, params, res, blocks⟩ bk (ys.take i) ⟨op, ty, fl, pr, ca, sz, args, bl, ws⟩ = RF at *
  generalize argB gs.length ts fs ⟨name, link, params, res, blocks⟩ ⟨op, ty, fl, pr, ca, sz, args, bl, ws⟩ = AB at *
  generalize casB ⟨op, ty, fl, pr, ca, sz, args, bl, ws⟩ = SB at *
  generalize tgtB ⟨name, link, params, res, blocks⟩ ⟨op, ty, fl, pr, ca, sz, args, bl, ws⟩ = GB at *
  generalize cntB fs ⟨name, link, params, res, blocks⟩ ⟨op, ty, fl, pr, ca, sz, args, bl, ws⟩ = CB at *
  generalize hdB fs bk ⟨op, ty, fl, pr, ca, sz, args, bl, ws⟩ = HB at *
  generalize (ys.getD (i - 1) default).op = pop at *
  generalize insV op ty fl pr ca sz (.slice aa args.length ca') (.slice al bl.length cl) (.slice as' ws.length cs) = K at *
  have g5 : (ys.length : Int) ≤ 140737488355328 := by omega
  have hi' : (i : Int) < ys.length := by omega
  replace hW := Kp.mk hW
  replace hW1 := Kp.mk hW1
  replace KS := Kp.mk KS
  replace KN := Kp.mk KN
  replace RI := Kp.mk RI
  replace AY := Kp.mk AY
  replace AN := Kp.mk AN
  replace hi := Kp.mk hi
  clear hR hbd hsz hOB hSZ hy hic hx hxl hprev PH PV y2 hgx sC0 iC1 htt hm hw hts
  by_cases hmis : endB op = decide (i + 1 = ys.length)
  case neg =>
    have hR4 : Kp (R = 4) := ⟨AN.out hmis⟩
    obtain ⟨j0, j1, j2, j3, j4, j5, j6, j7, j8⟩ := INC.out W1 (Below.refl _ _)
    by_cases hlast : i + 1 = ys.length
    · have l3 : ((i : Int) == (ys.length : Int) - 1) = true := by simp; omega
      rw [decide_eq_true hlast] at hmis
      have he : endB op = false := by cases h : endB op with
        | true => exact absurd h hmis
        | false => rfl
      rw [he] at CE
      replace hlast := Kp.mk hlast
      clear hmis he FF TT AA KS KN RI AY AN CIN
      go_enter Tryz.func84, Tryz.ntmps84
      go_upto_region 1 with fail
      rw [← hW.out]
      go_upto_region 2 with fail
      rw [← hW1.out]
      clear q0 q1 q2 q3 q4 q5 q6 q7 q8
      go_wp2_with fail
      refine (CE.out _).mono ?_
      rintro e w2 ⟨rfl, rfl⟩
      go_wp2_with fail
      go_ret
      exact ⟨ret_int hR4.out.symm, B01⟩
    · have l3 : ((i : Int) == (ys.length : Int) - 1) = false := nb (by omega)
      rw [decide_eq_false hlast] at hmis
      have he : endB op = true := by cases h : endB op with
        | true => rfl
        | false => exact absurd h hmis
      rw [he] at CE
      clear hlast hmis he FF TT AA KS KN RI AY AN CIN
      go_enter Tryz.func84, Tryz.ntmps84
      go_upto_region 1 with fail
      rw [← hW.out]
      go_upto_region 2 with fail
      rw [← hW1.out]
      clear q0 q1 q2 q3 q4 q5 q6 q7 q8
      go_wp2_with fail
      refine (CE.out _).mono ?_
      rintro e w2 ⟨rfl, rfl⟩
      go_wp2_with fail
      go_ret
      exact ⟨ret_int hR4.out.symm, B01⟩
  case pos =>
    have hRR : R = RF := AY.out hmis
    subst hRR
    obtain ⟨EV, hEV⟩ : ∃ EV, EV = endB op := ⟨_, rfl⟩
    rw [← hEV] at CE hmis
    have l3 : ((i : Int) == (ys.length : Int) - 1) = EV := by
      rw [hmis, Bool.eq_iff_iff]
      simp
      omega
    have SP1 := SCC.out W1 (Below.refl _ _)
    obtain ⟨s0, s1, s2, s3, s4, s5, s6, s7, s8⟩ := SP1
    obtain ⟨j0, j1, j2, j3, j4, j5, j6, j7, j8⟩ := INC.out W1 (Below.refl _ _)
    have hcmp : (EV == EV) = true := by cases EV <;> rfl
    clear hmis hEV AY AN
    go_enter Tryz.func84, Tryz.ntmps84
    go_upto_region 1 with fail
    rw [← hW.out]
    go_upto_region 2 with fail
    rw [← hW1.out]
    clear q0 q1 q2 q3 q4 q5 q6 q7 q8
    go_wp2_with fail
    refine (CE.out _).mono ?_
    rintro e w2 ⟨rfl, hw2⟩
    subst w2
    go_wp2_with fail
    refine (CIN.out _).mono ?_
    rintro e w3 ⟨rfl, hb3⟩
    clear s0 s1 s2 s3 s4 s5 s6 s7 s8 j0 j1 j2 j3 j4 j5 j6 j7 j8 l3 hcmp
    cases hT : tabB op with
    | false =>
      have hK := KN.out hT
      have hf : Kp (R = 5) := ⟨RI.out.f5 hT⟩
      subst hK
      clear FF TT AA KS KN RI hT
      go_wp2_with fail
      go_ret
      exact ⟨ret_int hf.out.symm, bel_trans B01 hb3⟩
    | true =>
      obtain ⟨KT, KV, hK⟩ := KS.out hT
      subst hK
      have nilF : ∀ W : World, (binOp .eql 193 (.iface KT KV) .nilIface).run Tryz.prog W = .ok (.bool false) W := fun _ => by kernel_rfl
      have FF2 := Kp.mk (FF.out hT)
      rw [hT] at RI
      have hb3' := hb3
      obtain ⟨s0, s1, s2, s3, s4, s5, s6, s7, s8⟩ := SCC.out _ hb3
      obtain ⟨j0, j1, j2, j3, j4, j5, j6, j7, j8⟩ := INC.out _ hb3
      clear KS KN FF
      cases HB with
      | false =>
        have hf : Kp (R = 6) := ⟨RI.out.f6 rfl rfl⟩
        simp only [Bool.false_and] at FF2
        clear TT AA RI hT
        go_wp2_with fail
        refine (FF2.out _ hb3).mono ?_
        rintro e w4 ⟨rfl, hb4⟩
        go_wp2_with fail
        go_ret
        exact ⟨ret_int hf.out.symm, bel_trans B01 (bel_trans hb3' hb4)⟩
      | true =>
        cases CB with
        | false =>
          have hf : Kp (R = 6) := ⟨RI.out.f6c rfl rfl rfl⟩
          simp only [Bool.and_false] at FF2
          clear TT AA RI hT
          go_wp2_with fail
          refine (FF2.out _ hb3).mono ?_
          rintro e w4 ⟨rfl, hb4⟩
          go_wp2_with fail
          go_ret
          exact ⟨ret_int hf.out.symm, bel_trans B01 (bel_trans hb3' hb4)⟩
        | true =>
          simp only [Bool.and_true] at FF2
          have TT2 := Kp.mk (TT.out hT rfl)
          have AA2 := Kp.mk (AA.out hT rfl rfl)
          clear TT AA hT
          go_wp2_with fail
          refine (FF2.out _ hb3).mono ?_
          rintro e w4 ⟨rfl, hb4⟩
          clear s0 s1 s2 s3 s4 s5 s6 s7 s8 j0 j1 j2 j3 j4 j5 j6 j7 j8
          have hb4' := bel_trans hb3' hb4
          obtain ⟨s0, s1, s2, s3, s4, s5, s6, s7, s8⟩ := SCC.out _ hb4'
          cases GB with
          | false =>
            have hf : Kp (R = 7) := ⟨RI.out.f7 rfl rfl rfl rfl⟩
            clear RI AA2
            go_wp2_with fail
            refine (TT2.out _ hb4').mono ?_
            rintro e w5 ⟨rfl, hb5⟩
            go_wp2_with fail
            go_ret
            exact ⟨ret_int hf.out.symm, bel_trans B01 (bel_trans hb4' hb5)⟩
          | true =>
            go_wp2_with fail
            refine (TT2.out _ hb4').mono ?_
            rintro e w5 ⟨rfl, hb5⟩
            clear s0 s1 s2 s3 s4 s5 s6 s7 s8
            have hb5' := bel_trans hb4' hb5
            obtain ⟨s0, s1, s2, s3, s4, s5, s6, s7, s8⟩ := SCC.out _ hb5'
            cases AB with
            | false =>
              have hf : Kp (R = 8) := ⟨RI.out.f8 rfl rfl rfl rfl rfl⟩
              simp only [Bool.false_and] at AA2
              clear RI
              go_wp2_with fail
              refine (AA2.out _ hb5').mono ?_
              rintro e w6 ⟨rfl, hb6⟩
              go_wp2_with fail
              go_ret
              exact ⟨ret_int hf.out.symm, bel_trans B01 (bel_trans hb5' hb6)⟩
            | true =>
              cases SB with
              | false =>
                have hf : Kp (R = 8) := ⟨RI.out.f8s rfl rfl rfl rfl rfl rfl⟩
                simp only [Bool.and_false] at AA2
                clear RI
                go_wp2_with fail
                refine (AA2.out _ hb5').mono ?_
                rintro e w6 ⟨rfl, hb6⟩
                go_wp2_with fail
                go_ret
                exact ⟨ret_int hf.out.symm, bel_trans B01 (bel_trans hb5' hb6)⟩
              | true =>
                simp only [Bool.and_true] at AA2
                go_wp2_with fail
                refine (AA2.out _ hb5').mono ?_
                rintro e w6 ⟨rfl, hb6⟩
                clear s0 s1 s2 s3 s4 s5 s6 s7 s8
                have hb6' := bel_trans hb5' hb6
                obtain ⟨j0, j1, j2, j3, j4, j5, j6, j7, j8⟩ := INC.out _ hb6'
                by_cases e20 : op = 20
                · have n20 : (op == 20) = true := by simp [e20]
                  by_cases h0 : 0 < i
                  · have h0' : (0 : Int) < (i : Int) := by omega
                    have pv := PVW.out _ hb6' h0
                    have hd : ((i - 1 : Nat) : Int) = (i : Int) - 1 := by omega
                    have hi1 : (i : Int) - 1 < (ys.length : Int) := by omega
                    obtain ⟨m, rfl⟩ : ∃ m, i = m + 1 := ⟨i - 1, by omega⟩
                    simp only [Nat.add_sub_cancel] at pv
                    have hm1 : ((m + 1 : Nat) : Int) - 1 = (m : Int) := by omega
                    by_cases ep : pop = 20
                    · have hf : Kp (R = 0) := ⟨RI.out.f0 rfl rfl rfl rfl rfl rfl (by simp [ep])⟩
                      have np : (pop != 20) = false := by simp [ep]
                      replace ep := Kp.mk ep
                      replace e20 := Kp.mk e20
                      clear RI hd
                      go_wp2_with fail
                      go_ret
                      exact ⟨ret_int hf.out.symm, bel_trans B01 hb6'⟩
                    · have hf : Kp (R = 9) := ⟨RI.out.f9 rfl rfl rfl rfl rfl rfl (by simp [ep, e20])⟩
                      have np := nbT ep
                      replace e20 := Kp.mk e20
                      clear RI hd ep
                      go_wp2_with fail
                      go_ret
                      exact ⟨ret_int hf.out.symm, bel_trans B01 hb6'⟩
                  · have hf : Kp (R = 0) := ⟨RI.out.f0 rfl rfl rfl rfl rfl rfl (by simp [h0])⟩
                    have h0' : ¬ (0 : Int) < (i : Int) := by omega
                    replace e20 := Kp.mk e20
                    clear RI h0
                    go_wp2_with fail
                    go_ret
                    exact ⟨ret_int hf.out.symm, bel_trans B01 hb6'⟩
                · have hf : Kp (R = 0) := ⟨RI.out.f0 rfl rfl rfl rfl rfl rfl (by simp [e20])⟩
                  have n20 := nb e20
                  clear RI e20
                  go_wp2_with fail
                  go_ret
                  exact ⟨ret_int hf.out.symm, bel_trans B01 hb6'⟩
end
end Go.Proofs.YtbnkbbcncloedaaGreatDoor
