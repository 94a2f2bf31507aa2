/- The packed texts Im13b. -/
import Derived.Test.YtbnkbbcncloedaaGreatDoorRows
import Derived.WalkKit
import Derived.ProofKit
import Derived.OpenShut
import Derived.WalkLawsBesides
import Derived.Below
import Derived.BigQuiet
import Derived.Lib.QuietBelow
import Derived.Lib.AtoiErrMem
import Derived.Deep.OwnRows
import Derived.Deep.DeepCutAuto
import Derived.RangeFuncNested
import Derived.RangeFuncBound
import Derived.RangeFuncCalls
import Derived.RangeFuncLeaves
import Derived.OwnWalkIn
import Derived.TacticsInMore
import Derived.LoopNIn
import Derived.LoopIn
import Derived.Shelf.Abstract
import Derived.Maps.AppendAt
import Derived.OwnWalk
import Derived.Lib.LaidTab
import Derived.Laws.BitsAllLaws
import Derived.Laws.Closers25b
import Derived.Deep.RegionWith
import Derived.Laws.MathBits
import Derived.Shelf.Spec.BitsCarry
import Derived.Laws.CopyOwn
import Derived.Deep.RegionLaw
import Derived.Lib.SliceRun
import Derived.Laws.Tables
import Derived.Lib.SmallJoins
import Derived.Deep.RegionHeld3
import Derived.Test.YtbnkbbcncloedaaGreatDoorPk1
import Derived.Test.YtbnkbbcncloedaaGreatDoorPk2
import Derived.Test.YtbnkbbcncloedaaGreatDoorPk3
import Derived.Test.YtbnkbbcncloedaaGreatDoorPk4
import Derived.Test.YtbnkbbcncloedaaGreatDoorPk5
import Derived.Test.YtbnkbbcncloedaaGreatDoorPk6
import Derived.Test.YtbnkbbcncloedaaGreatDoorPk7
import Derived.Test.YtbnkbbcncloedaaGreatDoorPk9
import Derived.Test.YtbnkbbcncloedaaGreatDoorPk10
import Derived.Test.YtbnkbbcncloedaaGreatDoorPk21
import Derived.Test.YtbnkbbcncloedaaGreatDoorPk22
import Derived.Test.YtbnkbbcncloedaaGreatDoorPk23
import Derived.Test.YtbnkbbcncloedaaGreatDoorPk25
import Derived.Test.YtbnkbbcncloedaaGreatDoorPk26
import Derived.Test.YtbnkbbcncloedaaGreatDoorPk27
import Derived.Test.YtbnkbbcncloedaaGreatDoorPk30
import Derived.Test.YtbnkbbcncloedaaGreatDoorPk43
namespace Go.Proofs.YtbnkbbcncloedaaGreatDoor
section
open Go.ChangeShapes Go.WideShapes Go.ChangeAt Go.RowKit

set_option linter.unusedVariables false

set_option linter.unusedSimpArgs false

set_option maxRecDepth 100000 in
set_option maxHeartbeats 4000000 in
theorem fldCm (gs : List GlD) (fs : List FnD) (ts : List Int) (a1 a2 a3 a4 a5 : Option Addr) (params : List Int) (blocks : List (List InD)) (c1 c2 c3 c4 c5 : Nat) (name : ByteArray) (link res bk : Int) (op ty fl pr ca sz : Int) (aa al as' : Option Addr) (args : List OpD) (bl ws : List Int) (ca' cl cs : Nat) (w : World) {lo : Nat} (hm : MoAt lo w gs fs (.slice a1 gs.length c1) (.slice a2 fs.length c2)) (ha : Ops lo w (.slice aa args.length ca') args) (hl : Ints lo .i64 w (.slice al bl.length cl) bl) (hs : Ints lo .u64 w (.slice as' ws.length cs) ws) (hw : Wid w) (hn : args.length ≤ 1048576) (hnl : bl.length ≤ 1048576) (hns : ws.length ≤ 1048576) :
    Calls Tryz.prog 148 #[scV (.slice a1 gs.length c1) (.slice a2 fs.length c2) name link (.slice a3 params.length c3) res (.slice a4 blocks.length c4) (.slice a5 ts.length c5) bk, .agg #[.int .i64 op, .int .i64 ty, .int .i64 fl, .int .i64 pr, .int .i64 ca, .int .i64 sz, .slice aa args.length ca', .slice al bl.length cl, .slice as' ws.length cs], kCm op ty (.slice aa args.length ca') pr] w fun e w' => e = .returned (.bool (nmrB fl pr ca sz 0 pr 0 0 bl.length ws.length 0 0 && ((decide (swpN pr ≠ 0)) && ((decide (ty = 1)) && decide (([cmF pr args, cmF pr args]).length = args.length))))) ∧ Below w.heap.size w w' := by
  have hfl : fs.length ≤ 140737488355328 := by obtain ⟨_, _, q, _⟩ := hm.f.ex; exact q.le
  obtain ⟨W0, hW⟩ : ∃ W0, W0 = (w.alloc (scC (.slice a1 gs.length c1) (.slice a2 fs.length c2) name link (.slice a3 params.length c3) res (.slice a4 blocks.length c4) (.slice a5 ts.length c5) bk)).alloc (Go.Obj.cells #[.int .i64 op, .int .i64 ty, .int .i64 fl, .int .i64 pr, .int .i64 ca, .int .i64 sz, .slice aa args.length ca', .slice al bl.length cl, .slice as' ws.length cs] 82) := ⟨_, rfl⟩
  have B0 : Below w.heap.size w W0 := by rw [hW]; exact bel_trans (bel_alloc _ _) (bel_alloc _ _)
  have sC0 : W0.heap[w.heap.size]? = some (scC (.slice a1 gs.length c1) (.slice a2 fs.length c2) name link (.slice a3 params.length c3) res (.slice a4 blocks.length c4) (.slice a5 ts.length c5) bk) := by rw [hW]; exact kept_at (new_at w _) (bel_alloc _ _)
  have iC0 : W0.heap[w.heap.size + 1]? = some (Go.Obj.cells #[.int .i64 op, .int .i64 ty, .int .i64 fl, .int .i64 pr, .int .i64 ca, .int .i64 sz, .slice aa args.length ca', .slice al bl.length cl, .slice as' ws.length cs] 82) := by
    rw [hW]
    have := new_at (w.alloc (scC (.slice a1 gs.length c1) (.slice a2 fs.length c2) name link (.slice a3 params.length c3) res (.slice a4 blocks.length c4) (.slice a5 ts.length c5) bk)) (Go.Obj.cells #[.int .i64 op, .int .i64 ty, .int .i64 fl, .int .i64 pr, .int .i64 ca, .int .i64 sz, .slice aa args.length ca', .slice al bl.length cl, .slice as' ws.length cs] 82)
    rwa [World.size_alloc] at this
  have CF : Kp (∀ W, Below W0.heap.size W0 W → Calls Tryz.prog 190 #[kCm op ty (.slice aa args.length ca') pr] W fun e w' => (∃ av cv, e = .returned (.agg #[.int .i64 op, .int .i64 ty, .int .i64 0, .int .i64 pr, .int .i64 0, .int .i64 0, .slice av args.length cv, .slice none 0 0, .slice none 0 0])) ∧ Below W.heap.size W w') := ⟨fun W hB0 => have hB := bel_trans B0 hB0; (faceCm op ty pr (.slice aa args.length ca') args W (ha.keep hB) hn).mono (fun e w' ⟨va', e1, e2, e3⟩ => by
    obtain ⟨av, cv, rfl⟩ := ops_shape e2
    exact ⟨⟨av, cv, e1⟩, e3⟩)⟩
  have CN : Kp (∀ W (av : Option Addr) (cv : Nat), Calls Tryz.prog 189 #[.agg #[.int .i64 op, .int .i64 ty, .int .i64 fl, .int .i64 pr, .int .i64 ca, .int .i64 sz, .slice aa args.length ca', .slice al bl.length cl, .slice as' ws.length cs], .agg #[.int .i64 op, .int .i64 ty, .int .i64 0, .int .i64 pr, .int .i64 0, .int .i64 0, .slice av args.length cv, .slice none 0 0, .slice none 0 0]] W fun e w' => e = .returned (.bool (nmrB fl pr ca sz 0 pr 0 0 bl.length ws.length 0 0)) ∧ Below W.heap.size W w') := ⟨fun W av cv => hasNM op ty fl pr ca sz op ty 0 pr 0 0 aa al as' av none none args.length bl.length ws.length args.length 0 0 ca' cl cs cv 0 0 W (by omega) (by omega) (by omega) (by omega)⟩
  have CW1 : Kp (∀ W, Below W0.heap.size W0 W → Calls Tryz.prog 267 #[.agg #[.int .i64 op, .int .i64 ty, (.slice aa args.length ca'), .int .i64 pr], scV (.slice a1 gs.length c1) (.slice a2 fs.length c2) name link (.slice a3 params.length c3) res (.slice a4 blocks.length c4) (.slice a5 ts.length c5) bk] W fun e w' => e = .returned (.bool (decide (swpN pr ≠ 0))) ∧ Below W.heap.size W w') := ⟨fun W hB0 => have hB := bel_trans B0 hB0; cmOwn op ty pr aa args.length ca' a1 a2 a3 a4 a5 gs.length fs.length params.length blocks.length ts.length c1 c2 c3 c4 c5 name link res bk W⟩
  have CR : Kp (∀ W, Below W0.heap.size W0 W → Calls Tryz.prog 268 #[.agg #[.int .i64 op, .int .i64 ty, (.slice aa args.length ca'), .int .i64 pr], scV (.slice a1 gs.length c1) (.slice a2 fs.length c2) name link (.slice a3 params.length c3) res (.slice a4 blocks.length c4) (.slice a5 ts.length c5) bk] W fun e w' => e = .returned (.bool (decide (ty = 1))) ∧ Below W.heap.size W w') := ⟨fun W hB0 => have hB := bel_trans B0 hB0; cmRes op ty pr aa args.length ca' a1 a2 a3 a4 a5 gs.length fs.length params.length blocks.length ts.length c1 c2 c3 c4 c5 name link res bk W⟩
  have CA : Kp (∀ W, Calls Tryz.prog 256 #[hdV op ty (.slice aa args.length ca')] W fun e w' => e = .returned (.slice aa args.length ca') ∧ Below W.heap.size W w') := ⟨fun W => hdArgs op ty aa args.length ca' W⟩
  have WA : Kp ((decide (swpN pr ≠ 0)) = true → ∀ W, Below W0.heap.size W0 W → Calls Tryz.prog 269 #[.agg #[.int .i64 op, .int .i64 ty, (.slice aa args.length ca'), .int .i64 pr], scV (.slice a1 gs.length c1) (.slice a2 fs.length c2) name link (.slice a3 params.length c3) res (.slice a4 blocks.length c4) (.slice a5 ts.length c5) bk] W fun e w' => (∃ aw cw, e = .returned (.slice aw ([cmF pr args, cmF pr args]).length cw)) ∧ Below W.heap.size W w') := ⟨fun hj W hB0 => have hB := bel_trans B0 hB0; (cmWan op ty pr (.slice aa args.length ca') args a1 a2 a3 a4 a5 gs.length fs.length params.length blocks.length ts.length c1 c2 c3 c4 c5 name link res bk W (ha.keep hB) (hw.below hB)).mono (fun e w' ⟨v, e1, e2, e3⟩ => by
    obtain ⟨aw, cw, rfl⟩ := e2.shape
    exact ⟨⟨aw, cw, e1⟩, e3⟩)⟩
  have SK : Kp (∀ W, Below W0.heap.size W0 W → (fun W' => Below W0.heap.size W0 W' ∧ W'.cell? ⟨w.heap.size, 0, none⟩ = some (.slice a1 gs.length c1) ∧ W'.cell? ⟨w.heap.size, 1, none⟩ = some (.slice a2 fs.length c2) ∧ W'.cell? ⟨w.heap.size, 2, none⟩ = some (.string name) ∧ W'.cell? ⟨w.heap.size, 3, none⟩ = some (.int .i64 link) ∧ W'.cell? ⟨w.heap.size, 4, none⟩ = some (.slice a3 params.length c3) ∧ W'.cell? ⟨w.heap.size, 5, none⟩ = some (.int .i64 res) ∧ W'.cell? ⟨w.heap.size, 6, none⟩ = some (.slice a4 blocks.length c4) ∧ W'.cell? ⟨w.heap.size, 7, none⟩ = some (.slice a5 ts.length c5) ∧ W'.cell? ⟨w.heap.size, 8, none⟩ = some (.int .i64 bk) ∧ W'.cell? ⟨w.heap.size + 1, 0, none⟩ = some (.int .i64 op) ∧ W'.cell? ⟨w.heap.size + 1, 1, none⟩ = some (.int .i64 ty) ∧ W'.cell? ⟨w.heap.size + 1, 2, none⟩ = some (.int .i64 fl) ∧ W'.cell? ⟨w.heap.size + 1, 3, none⟩ = some (.int .i64 pr) ∧ W'.cell? ⟨w.heap.size + 1, 4, none⟩ = some (.int .i64 ca) ∧ W'.cell? ⟨w.heap.size + 1, 5, none⟩ = some (.int .i64 sz) ∧ W'.cell? ⟨w.heap.size + 1, 6, none⟩ = some (.slice aa args.length ca') ∧ W'.cell? ⟨w.heap.size + 1, 7, none⟩ = some (.slice al bl.length cl) ∧ W'.cell? ⟨w.heap.size + 1, 8, none⟩ = some (.slice as' ws.length cs)) W) := ⟨fun W hB => ⟨hB, cells_at (kept_at sC0 hB) rfl, cells_at (kept_at sC0 hB) rfl, cells_at (kept_at sC0 hB) rfl, cells_at (kept_at sC0 hB) rfl, cells_at (kept_at sC0 hB) rfl, cells_at (kept_at sC0 hB) rfl, cells_at (kept_at sC0 hB) rfl, cells_at (kept_at sC0 hB) rfl, cells_at (kept_at sC0 hB) rfl, cells_at (kept_at iC0 hB) rfl, cells_at (kept_at iC0 hB) rfl, cells_at (kept_at iC0 hB) rfl, cells_at (kept_at iC0 hB) rfl, cells_at (kept_at iC0 hB) rfl, cells_at (kept_at iC0 hB) rfl, cells_at (kept_at iC0 hB) rfl, cells_at (kept_at iC0 hB) rfl, cells_at (kept_at iC0 hB) rfl⟩⟩
  replace hW := Kp.mk hW
  obtain ⟨NMv, hNM⟩ : ∃ NMv, NMv = (nmrB fl pr ca sz 0 pr 0 0 bl.length ws.length 0 0) := ⟨_, rfl⟩
  rw [← hNM] at CN ⊢
  obtain ⟨wn, hwn⟩ : ∃ wn, wn = ([cmF pr args, cmF pr args]).length := ⟨_, rfl⟩
  rw [← hwn] at WA ⊢
  obtain ⟨REv, hRE⟩ : ∃ REv, REv = (decide (ty = 1)) := ⟨_, rfl⟩
  rw [← hRE] at CR ⊢
  obtain ⟨OWv, hOW⟩ : ∃ OWv, OWv = (decide (swpN pr ≠ 0)) := ⟨_, rfl⟩
  rw [← hOW] at CW1 WA ⊢
  have hb0 := (Below.refl W0.heap.size W0).drew
  clear hNM hOW hRE hwn sC0 iC0 ha hl hs hm hw
  cases NMv with
  | false =>
    clear CW1 CR CA WA
    go_enter Tryz.func148, Tryz.ntmps148
    go_upto_region 1 with fail
    rw [← hW.out]
    refine wp_region_held_drew (S := (fun W' => Below W0.heap.size W0 W' ∧ W'.cell? ⟨w.heap.size, 0, none⟩ = some (.slice a1 gs.length c1) ∧ W'.cell? ⟨w.heap.size, 1, none⟩ = some (.slice a2 fs.length c2) ∧ W'.cell? ⟨w.heap.size, 2, none⟩ = some (.string name) ∧ W'.cell? ⟨w.heap.size, 3, none⟩ = some (.int .i64 link) ∧ W'.cell? ⟨w.heap.size, 4, none⟩ = some (.slice a3 params.length c3) ∧ W'.cell? ⟨w.heap.size, 5, none⟩ = some (.int .i64 res) ∧ W'.cell? ⟨w.heap.size, 6, none⟩ = some (.slice a4 blocks.length c4) ∧ W'.cell? ⟨w.heap.size, 7, none⟩ = some (.slice a5 ts.length c5) ∧ W'.cell? ⟨w.heap.size, 8, none⟩ = some (.int .i64 bk) ∧ W'.cell? ⟨w.heap.size + 1, 0, none⟩ = some (.int .i64 op) ∧ W'.cell? ⟨w.heap.size + 1, 1, none⟩ = some (.int .i64 ty) ∧ W'.cell? ⟨w.heap.size + 1, 2, none⟩ = some (.int .i64 fl) ∧ W'.cell? ⟨w.heap.size + 1, 3, none⟩ = some (.int .i64 pr) ∧ W'.cell? ⟨w.heap.size + 1, 4, none⟩ = some (.int .i64 ca) ∧ W'.cell? ⟨w.heap.size + 1, 5, none⟩ = some (.int .i64 sz) ∧ W'.cell? ⟨w.heap.size + 1, 6, none⟩ = some (.slice aa args.length ca') ∧ W'.cell? ⟨w.heap.size + 1, 7, none⟩ = some (.slice al bl.length cl) ∧ W'.cell? ⟨w.heap.size + 1, 8, none⟩ = some (.slice as' ws.length cs))) (by kernel_rfl) (SK.out _ hb0) (fun hHeld => ?_)
    refine wpAnyH_take (i := 0) (v := .agg #[.int .i64 op, .int .i64 ty, .int .i64 fl, .int .i64 pr, .int .i64 ca, .int .i64 sz, .slice aa args.length ca', .slice al bl.length cl, .slice as' ws.length cs]) rfl (by kernel_rfl) (by kernel_rfl) (by kernel_rfl) (fun _ _ _ h => h) (Or.inl ⟨by rfl, fun wq hSw => by (try dsimp only at hSw); go_simp⟩) hHeld ?_
    try simp only [Act.put, yA, yB, yC, yD, yE, yF]
    refine wpAnyH_take (i := 1) (v := kCm op ty (.slice aa args.length ca') pr) rfl (by kernel_rfl) (by kernel_rfl) (by kernel_rfl) (fun _ _ _ h => h) (Or.inl ⟨by rfl, fun wq hSw => by (try dsimp only at hSw); go_simp⟩) hHeld ?_
    try simp only [Act.put, yA, yB, yC, yD, yE, yF]
    refine wpAnyH_ready (rs := [2]) (by kernel_rfl) (by simp) ?_
    refine AllReadyH.cons rfl (fun K hK => ?_) AllReadyH.nil
    go_simp
    refine (CF.out _ hb0).mono ?_
    rintro e w1 ⟨⟨av, cv, rfl⟩, hb⟩
    have hb1 := hb0.trans hb
    clear hb
    refine hK.out _ _ (SK.out _ hb1) (fun hHeld => ?_)
    clear hK K
    try simp only [Act.put, yA, yB, yC, yD, yE, yF]
    refine wpAnyH_ready (rs := [3]) (by kernel_rfl) (by simp) ?_
    refine AllReadyH.cons rfl (fun K hK => ?_) AllReadyH.nil
    go_simp
    refine (CN.out _ _ _).mono ?_
    rintro e w2 ⟨rfl, hb⟩
    have hb2 := bel_trans hb1 hb
    clear hb
    refine hK.out _ _ (SK.out _ hb2) (fun hHeld => ?_)
    clear hK K
    try simp only [Act.put, yA, yB, yC, yD, yE, yF]
    refine wpAnyH_take (i := 4) (v := .bool false) rfl (by kernel_rfl) (by kernel_rfl) (by kernel_rfl) (fun _ _ _ h => h) (Or.inl ⟨by rfl, fun wq hSw => by (try dsimp only at hSw); go_simp⟩) hHeld ?_
    try simp only [Act.put, yA, yB, yC, yD, yE, yF]
    refine wpAnyH_take (i := 5) (v := undef) rfl (by kernel_rfl) (by kernel_rfl) (by kernel_rfl) (fun _ _ _ h => h) (Or.inr ⟨by rfl, rfl⟩) hHeld ?_
    try simp only [Act.put, yA, yB, yC, yD, yE, yF]
    refine wpAnyH_take (i := 6) (v := undef) rfl (by kernel_rfl) (by kernel_rfl) (by kernel_rfl) (fun _ _ _ h => h) (Or.inr ⟨by rfl, rfl⟩) hHeld ?_
    try simp only [Act.put, yA, yB, yC, yD, yE, yF]
    refine wpAnyH_take (i := 7) (v := undef) rfl (by kernel_rfl) (by kernel_rfl) (by kernel_rfl) (fun _ _ _ h => h) (Or.inr ⟨by rfl, rfl⟩) hHeld ?_
    try simp only [Act.put, yA, yB, yC, yD, yE, yF]
    refine wpAnyH_take (i := 8) (v := .bool false) rfl (by kernel_rfl) (by kernel_rfl) (by kernel_rfl) (fun _ _ _ h => h) (Or.inl ⟨by rfl, fun wq hSw => by (try dsimp only at hSw); go_simp⟩) hHeld ?_
    try simp only [Act.put, yA, yB, yC, yD, yE, yF]
    refine wpAnyH_take (i := 9) (v := .bool false) rfl (by kernel_rfl) (by kernel_rfl) (by kernel_rfl) (fun _ _ _ h => h) (Or.inl ⟨by rfl, fun wq hSw => by (try dsimp only at hSw); go_simp⟩) hHeld ?_
    try simp only [Act.put, yA, yB, yC, yD, yE, yF]
    refine wpAnyH_take (i := 10) (v := undef) rfl (by kernel_rfl) (by kernel_rfl) (by kernel_rfl) (fun _ _ _ h => h) (Or.inr ⟨by rfl, rfl⟩) hHeld ?_
    try simp only [Act.put, yA, yB, yC, yD, yE, yF]
    refine wpAnyH_take (i := 11) (v := undef) rfl (by kernel_rfl) (by kernel_rfl) (by kernel_rfl) (fun _ _ _ h => h) (Or.inr ⟨by rfl, rfl⟩) hHeld ?_
    try simp only [Act.put, yA, yB, yC, yD, yE, yF]
    refine wpAnyH_take (i := 12) (v := undef) rfl (by kernel_rfl) (by kernel_rfl) (by kernel_rfl) (fun _ _ _ h => h) (Or.inr ⟨by rfl, rfl⟩) hHeld ?_
    try simp only [Act.put, yA, yB, yC, yD, yE, yF]
    refine wpAnyH_take (i := 13) (v := .bool false) rfl (by kernel_rfl) (by kernel_rfl) (by kernel_rfl) (fun _ _ _ h => h) (Or.inl ⟨by rfl, fun wq hSw => by (try dsimp only at hSw); go_simp⟩) hHeld ?_
    try simp only [Act.put, yA, yB, yC, yD, yE, yF]
    refine wpAnyH_take (i := 14) (v := .bool false) rfl (by kernel_rfl) (by kernel_rfl) (by kernel_rfl) (fun _ _ _ h => h) (Or.inl ⟨by rfl, fun wq hSw => by (try dsimp only at hSw); go_simp⟩) hHeld ?_
    try simp only [Act.put, yA, yB, yC, yD, yE, yF]
    refine wpAnyH_take (i := 15) (v := undef) rfl (by kernel_rfl) (by kernel_rfl) (by kernel_rfl) (fun _ _ _ h => h) (Or.inr ⟨by rfl, rfl⟩) hHeld ?_
    try simp only [Act.put, yA, yB, yC, yD, yE, yF]
    refine wpAnyH_take (i := 16) (v := undef) rfl (by kernel_rfl) (by kernel_rfl) (by kernel_rfl) (fun _ _ _ h => h) (Or.inr ⟨by rfl, rfl⟩) hHeld ?_
    try simp only [Act.put, yA, yB, yC, yD, yE, yF]
    refine wpAnyH_take (i := 17) (v := undef) rfl (by kernel_rfl) (by kernel_rfl) (by kernel_rfl) (fun _ _ _ h => h) (Or.inr ⟨by rfl, rfl⟩) hHeld ?_
    try simp only [Act.put, yA, yB, yC, yD, yE, yF]
    refine wpAnyH_take (i := 18) (v := undef) rfl (by kernel_rfl) (by kernel_rfl) (by kernel_rfl) (fun _ _ _ h => h) (Or.inr ⟨by rfl, rfl⟩) hHeld ?_
    try simp only [Act.put, yA, yB, yC, yD, yE, yF]
    refine wpAnyH_take (i := 19) (v := undef) rfl (by kernel_rfl) (by kernel_rfl) (by kernel_rfl) (fun _ _ _ h => h) (Or.inr ⟨by rfl, rfl⟩) hHeld ?_
    try simp only [Act.put, yA, yB, yC, yD, yE, yF]
    refine wpAnyH_take (i := 20) (v := undef) rfl (by kernel_rfl) (by kernel_rfl) (by kernel_rfl) (fun _ _ _ h => h) (Or.inr ⟨by rfl, rfl⟩) hHeld ?_
    try simp only [Act.put, yA, yB, yC, yD, yE, yF]
    refine wpAnyH_take (i := 21) (v := undef) rfl (by kernel_rfl) (by kernel_rfl) (by kernel_rfl) (fun _ _ _ h => h) (Or.inr ⟨by rfl, rfl⟩) hHeld ?_
    try simp only [Act.put, yA, yB, yC, yD, yE, yF]
    refine wpAnyH_take (i := 22) (v := undef) rfl (by kernel_rfl) (by kernel_rfl) (by kernel_rfl) (fun _ _ _ h => h) (Or.inr ⟨by rfl, rfl⟩) hHeld ?_
    try simp only [Act.put, yA, yB, yC, yD, yE, yF]
    refine wpAnyH_take (i := 23) (v := .bool false) rfl (by kernel_rfl) (by kernel_rfl) (by kernel_rfl) (fun _ _ _ h => h) (Or.inl ⟨by rfl, fun wq hSw => by (try dsimp only at hSw); go_simp⟩) hHeld ?_
    try simp only [Act.put, yA, yB, yC, yD, yE, yF]
    refine wpAnyH_take (i := 24) (v := .bool false) rfl (by kernel_rfl) (by kernel_rfl) (by kernel_rfl) (fun _ _ _ h => h) (Or.inl ⟨by rfl, fun wq hSw => by (try dsimp only at hSw); go_simp⟩) hHeld ?_
    try simp only [Act.put, yA, yB, yC, yD, yE, yF]
    refine wpAnyH_done (by kernel_rfl) ?_ _
    go_wp2_with fail
    go_ret
    exact ⟨rfl, bel_trans B0 hb2⟩
  | true =>
    cases OWv with
    | false =>
      clear CR CA WA
      go_enter Tryz.func148, Tryz.ntmps148
      go_upto_region 1 with fail
      rw [← hW.out]
      refine wp_region_held_drew (S := (fun W' => Below W0.heap.size W0 W' ∧ W'.cell? ⟨w.heap.size, 0, none⟩ = some (.slice a1 gs.length c1) ∧ W'.cell? ⟨w.heap.size, 1, none⟩ = some (.slice a2 fs.length c2) ∧ W'.cell? ⟨w.heap.size, 2, none⟩ = some (.string name) ∧ W'.cell? ⟨w.heap.size, 3, none⟩ = some (.int .i64 link) ∧ W'.cell? ⟨w.heap.size, 4, none⟩ = some (.slice a3 params.length c3) ∧ W'.cell? ⟨w.heap.size, 5, none⟩ = some (.int .i64 res) ∧ W'.cell? ⟨w.heap.size, 6, none⟩ = some (.slice a4 blocks.length c4) ∧ W'.cell? ⟨w.heap.size, 7, none⟩ = some (.slice a5 ts.length c5) ∧ W'.cell? ⟨w.heap.size, 8, none⟩ = some (.int .i64 bk) ∧ W'.cell? ⟨w.heap.size + 1, 0, none⟩ = some (.int .i64 op) ∧ W'.cell? ⟨w.heap.size + 1, 1, none⟩ = some (.int .i64 ty) ∧ W'.cell? ⟨w.heap.size + 1, 2, none⟩ = some (.int .i64 fl) ∧ W'.cell? ⟨w.heap.size + 1, 3, none⟩ = some (.int .i64 pr) ∧ W'.cell? ⟨w.heap.size + 1, 4, none⟩ = some (.int .i64 ca) ∧ W'.cell? ⟨w.heap.size + 1, 5, none⟩ = some (.int .i64 sz) ∧ W'.cell? ⟨w.heap.size + 1, 6, none⟩ = some (.slice aa args.length ca') ∧ W'.cell? ⟨w.heap.size + 1, 7, none⟩ = some (.slice al bl.length cl) ∧ W'.cell? ⟨w.heap.size + 1, 8, none⟩ = some (.slice as' ws.length cs))) (by kernel_rfl) (SK.out _ hb0) (fun hHeld => ?_)
      refine wpAnyH_take (i := 0) (v := .agg #[.int .i64 op, .int .i64 ty, .int .i64 fl, .int .i64 pr, .int .i64 ca, .int .i64 sz, .slice aa args.length ca', .slice al bl.length cl, .slice as' ws.length cs]) rfl (by kernel_rfl) (by kernel_rfl) (by kernel_rfl) (fun _ _ _ h => h) (Or.inl ⟨by rfl, fun wq hSw => by (try dsimp only at hSw); go_simp⟩) hHeld ?_
      try simp only [Act.put, yA, yB, yC, yD, yE, yF]
      refine wpAnyH_take (i := 1) (v := kCm op ty (.slice aa args.length ca') pr) rfl (by kernel_rfl) (by kernel_rfl) (by kernel_rfl) (fun _ _ _ h => h) (Or.inl ⟨by rfl, fun wq hSw => by (try dsimp only at hSw); go_simp⟩) hHeld ?_
      try simp only [Act.put, yA, yB, yC, yD, yE, yF]
      refine wpAnyH_ready (rs := [2]) (by kernel_rfl) (by simp) ?_
      refine AllReadyH.cons rfl (fun K hK => ?_) AllReadyH.nil
      go_simp
      refine (CF.out _ hb0).mono ?_
      rintro e w1 ⟨⟨av, cv, rfl⟩, hb⟩
      have hb1 := hb0.trans hb
      clear hb
      refine hK.out _ _ (SK.out _ hb1) (fun hHeld => ?_)
      clear hK K
      try simp only [Act.put, yA, yB, yC, yD, yE, yF]
      refine wpAnyH_ready (rs := [3]) (by kernel_rfl) (by simp) ?_
      refine AllReadyH.cons rfl (fun K hK => ?_) AllReadyH.nil
      go_simp
      refine (CN.out _ _ _).mono ?_
      rintro e w2 ⟨rfl, hb⟩
      have hb2 := bel_trans hb1 hb
      clear hb
      refine hK.out _ _ (SK.out _ hb2) (fun hHeld => ?_)
      clear hK K
      try simp only [Act.put, yA, yB, yC, yD, yE, yF]
      refine wpAnyH_take (i := 4) (v := .bool true) rfl (by kernel_rfl) (by kernel_rfl) (by kernel_rfl) (fun _ _ _ h => h) (Or.inl ⟨by rfl, fun wq hSw => by (try dsimp only at hSw); go_simp⟩) hHeld ?_
      try simp only [Act.put, yA, yB, yC, yD, yE, yF]
      refine wpAnyH_take (i := 5) (v := kCm op ty (.slice aa args.length ca') pr) rfl (by kernel_rfl) (by kernel_rfl) (by kernel_rfl) (fun _ _ _ h => h) (Or.inl ⟨by rfl, fun wq hSw => by (try dsimp only at hSw); go_simp⟩) hHeld ?_
      try simp only [Act.put, yA, yB, yC, yD, yE, yF]
      refine wpAnyH_take (i := 6) (v := scV (.slice a1 gs.length c1) (.slice a2 fs.length c2) name link (.slice a3 params.length c3) res (.slice a4 blocks.length c4) (.slice a5 ts.length c5) bk) rfl (by kernel_rfl) (by kernel_rfl) (by kernel_rfl) (fun _ _ _ h => h) (Or.inl ⟨by rfl, fun wq hSw => by (try dsimp only at hSw); go_simp⟩) hHeld ?_
      try simp only [Act.put, yA, yB, yC, yD, yE, yF]
      refine wpAnyH_ready (rs := [7]) (by kernel_rfl) (by simp) ?_
      refine AllReadyH.cons rfl (fun K hK => ?_) AllReadyH.nil
      go_simp
      refine (CW1.out _ hb2).mono ?_
      rintro e w3 ⟨rfl, hb⟩
      have hb3 := bel_trans hb2 hb
      clear hb
      refine hK.out _ _ (SK.out _ hb3) (fun hHeld => ?_)
      clear hK K
      try simp only [Act.put, yA, yB, yC, yD, yE, yF]
      refine wpAnyH_take (i := 8) (v := .bool false) rfl (by kernel_rfl) (by kernel_rfl) (by kernel_rfl) (fun _ _ _ h => h) (Or.inl ⟨by rfl, fun wq hSw => by (try dsimp only at hSw); go_simp⟩) hHeld ?_
      try simp only [Act.put, yA, yB, yC, yD, yE, yF]
      refine wpAnyH_take (i := 9) (v := .bool false) rfl (by kernel_rfl) (by kernel_rfl) (by kernel_rfl) (fun _ _ _ h => h) (Or.inl ⟨by rfl, fun wq hSw => by (try dsimp only at hSw); go_simp⟩) hHeld ?_
      try simp only [Act.put, yA, yB, yC, yD, yE, yF]
      refine wpAnyH_take (i := 10) (v := undef) rfl (by kernel_rfl) (by kernel_rfl) (by kernel_rfl) (fun _ _ _ h => h) (Or.inr ⟨by rfl, rfl⟩) hHeld ?_
      try simp only [Act.put, yA, yB, yC, yD, yE, yF]
      refine wpAnyH_take (i := 11) (v := undef) rfl (by kernel_rfl) (by kernel_rfl) (by kernel_rfl) (fun _ _ _ h => h) (Or.inr ⟨by rfl, rfl⟩) hHeld ?_
      try simp only [Act.put, yA, yB, yC, yD, yE, yF]
      refine wpAnyH_take (i := 12) (v := undef) rfl (by kernel_rfl) (by kernel_rfl) (by kernel_rfl) (fun _ _ _ h => h) (Or.inr ⟨by rfl, rfl⟩) hHeld ?_
      try simp only [Act.put, yA, yB, yC, yD, yE, yF]
      refine wpAnyH_take (i := 13) (v := .bool false) rfl (by kernel_rfl) (by kernel_rfl) (by kernel_rfl) (fun _ _ _ h => h) (Or.inl ⟨by rfl, fun wq hSw => by (try dsimp only at hSw); go_simp⟩) hHeld ?_
      try simp only [Act.put, yA, yB, yC, yD, yE, yF]
      refine wpAnyH_take (i := 14) (v := .bool false) rfl (by kernel_rfl) (by kernel_rfl) (by kernel_rfl) (fun _ _ _ h => h) (Or.inl ⟨by rfl, fun wq hSw => by (try dsimp only at hSw); go_simp⟩) hHeld ?_
      try simp only [Act.put, yA, yB, yC, yD, yE, yF]
      refine wpAnyH_take (i := 15) (v := undef) rfl (by kernel_rfl) (by kernel_rfl) (by kernel_rfl) (fun _ _ _ h => h) (Or.inr ⟨by rfl, rfl⟩) hHeld ?_
      try simp only [Act.put, yA, yB, yC, yD, yE, yF]
      refine wpAnyH_take (i := 16) (v := undef) rfl (by kernel_rfl) (by kernel_rfl) (by kernel_rfl) (fun _ _ _ h => h) (Or.inr ⟨by rfl, rfl⟩) hHeld ?_
      try simp only [Act.put, yA, yB, yC, yD, yE, yF]
      refine wpAnyH_take (i := 17) (v := undef) rfl (by kernel_rfl) (by kernel_rfl) (by kernel_rfl) (fun _ _ _ h => h) (Or.inr ⟨by rfl, rfl⟩) hHeld ?_
      try simp only [Act.put, yA, yB, yC, yD, yE, yF]
      refine wpAnyH_take (i := 18) (v := undef) rfl (by kernel_rfl) (by kernel_rfl) (by kernel_rfl) (fun _ _ _ h => h) (Or.inr ⟨by rfl, rfl⟩) hHeld ?_
      try simp only [Act.put, yA, yB, yC, yD, yE, yF]
      refine wpAnyH_take (i := 19) (v := undef) rfl (by kernel_rfl) (by kernel_rfl) (by kernel_rfl) (fun _ _ _ h => h) (Or.inr ⟨by rfl, rfl⟩) hHeld ?_
      try simp only [Act.put, yA, yB, yC, yD, yE, yF]
      refine wpAnyH_take (i := 20) (v := undef) rfl (by kernel_rfl) (by kernel_rfl) (by kernel_rfl) (fun _ _ _ h => h) (Or.inr ⟨by rfl, rfl⟩) hHeld ?_
      try simp only [Act.put, yA, yB, yC, yD, yE, yF]
      refine wpAnyH_take (i := 21) (v := undef) rfl (by kernel_rfl) (by kernel_rfl) (by kernel_rfl) (fun _ _ _ h => h) (Or.inr ⟨by rfl, rfl⟩) hHeld ?_
      try simp only [Act.put, yA, yB, yC, yD, yE, yF]
      refine wpAnyH_take (i := 22) (v := undef) rfl (by kernel_rfl) (by kernel_rfl) (by kernel_rfl) (fun _ _ _ h => h) (Or.inr ⟨by rfl, rfl⟩) hHeld ?_
      try simp only [Act.put, yA, yB, yC, yD, yE, yF]
      refine wpAnyH_take (i := 23) (v := .bool false) rfl (by kernel_rfl) (by kernel_rfl) (by kernel_rfl) (fun _ _ _ h => h) (Or.inl ⟨by rfl, fun wq hSw => by (try dsimp only at hSw); go_simp⟩) hHeld ?_
      try simp only [Act.put, yA, yB, yC, yD, yE, yF]
      refine wpAnyH_take (i := 24) (v := .bool false) rfl (by kernel_rfl) (by kernel_rfl) (by kernel_rfl) (fun _ _ _ h => h) (Or.inl ⟨by rfl, fun wq hSw => by (try dsimp only at hSw); go_simp⟩) hHeld ?_
      try simp only [Act.put, yA, yB, yC, yD, yE, yF]
      refine wpAnyH_done (by kernel_rfl) ?_ _
      go_wp2_with fail
      go_ret
      exact ⟨rfl, bel_trans B0 hb3⟩
    | true =>
      have WA' := Kp.mk (WA.out rfl)
      clear WA
      cases REv with
      | false =>
        clear CA WA'
        go_enter Tryz.func148, Tryz.ntmps148
        go_upto_region 1 with fail
        rw [← hW.out]
        refine wp_region_held_drew (S := (fun W' => Below W0.heap.size W0 W' ∧ W'.cell? ⟨w.heap.size, 0, none⟩ = some (.slice a1 gs.length c1) ∧ W'.cell? ⟨w.heap.size, 1, none⟩ = some (.slice a2 fs.length c2) ∧ W'.cell? ⟨w.heap.size, 2, none⟩ = some (.string name) ∧ W'.cell? ⟨w.heap.size, 3, none⟩ = some (.int .i64 link) ∧ W'.cell? ⟨w.heap.size, 4, none⟩ = some (.slice a3 params.length c3) ∧ W'.cell? ⟨w.heap.size, 5, none⟩ = some (.int .i64 res) ∧ W'.cell? ⟨w.heap.size, 6, none⟩ = some (.slice a4 blocks.length c4) ∧ W'.cell? ⟨w.heap.size, 7, none⟩ = some (.slice a5 ts.length c5) ∧ W'.cell? ⟨w.heap.size, 8, none⟩ = some (.int .i64 bk) ∧ W'.cell? ⟨w.heap.size + 1, 0, none⟩ = some (.int .i64 op) ∧ W'.cell? ⟨w.heap.size + 1, 1, none⟩ = some (.int .i64 ty) ∧ W'.cell? ⟨w.heap.size + 1, 2, none⟩ = some (.int .i64 fl) ∧ W'.cell? ⟨w.heap.size + 1, 3, none⟩ = some (.int .i64 pr) ∧ W'.cell? ⟨w.heap.size + 1, 4, none⟩ = some (.int .i64 ca) ∧ W'.cell? ⟨w.heap.size + 1, 5, none⟩ = some (.int .i64 sz) ∧ W'.cell? ⟨w.heap.size + 1, 6, none⟩ = some (.slice aa args.length ca') ∧ W'.cell? ⟨w.heap.size + 1, 7, none⟩ = some (.slice al bl.length cl) ∧ W'.cell? ⟨w.heap.size + 1, 8, none⟩ = some (.slice as' ws.length cs))) (by kernel_rfl) (SK.out _ hb0) (fun hHeld => ?_)
        refine wpAnyH_take (i := 0) (v := .agg #[.int .i64 op, .int .i64 ty, .int .i64 fl, .int .i64 pr, .int .i64 ca, .int .i64 sz, .slice aa args.length ca', .slice al bl.length cl, .slice as' ws.length cs]) rfl (by kernel_rfl) (by kernel_rfl) (by kernel_rfl) (fun _ _ _ h => h) (Or.inl ⟨by rfl, fun wq hSw => by (try dsimp only at hSw); go_simp⟩) hHeld ?_
        try simp only [Act.put, yA, yB, yC, yD, yE, yF]
        refine wpAnyH_take (i := 1) (v := kCm op ty (.slice aa args.length ca') pr) rfl (by kernel_rfl) (by kernel_rfl) (by kernel_rfl) (fun _ _ _ h => h) (Or.inl ⟨by rfl, fun wq hSw => by (try dsimp only at hSw); go_simp⟩) hHeld ?_
        try simp only [Act.put, yA, yB, yC, yD, yE, yF]
        refine wpAnyH_ready (rs := [2]) (by kernel_rfl) (by simp) ?_
        refine AllReadyH.cons rfl (fun K hK => ?_) AllReadyH.nil
        go_simp
        refine (CF.out _ hb0).mono ?_
        rintro e w1 ⟨⟨av, cv, rfl⟩, hb⟩
        have hb1 := hb0.trans hb
        clear hb
        refine hK.out _ _ (SK.out _ hb1) (fun hHeld => ?_)
        clear hK K
        try simp only [Act.put, yA, yB, yC, yD, yE, yF]
        refine wpAnyH_ready (rs := [3]) (by kernel_rfl) (by simp) ?_
        refine AllReadyH.cons rfl (fun K hK => ?_) AllReadyH.nil
        go_simp
        refine (CN.out _ _ _).mono ?_
        rintro e w2 ⟨rfl, hb⟩
        have hb2 := bel_trans hb1 hb
        clear hb
        refine hK.out _ _ (SK.out _ hb2) (fun hHeld => ?_)
        clear hK K
        try simp only [Act.put, yA, yB, yC, yD, yE, yF]
        refine wpAnyH_take (i := 4) (v := .bool true) rfl (by kernel_rfl) (by kernel_rfl) (by kernel_rfl) (fun _ _ _ h => h) (Or.inl ⟨by rfl, fun wq hSw => by (try dsimp only at hSw); go_simp⟩) hHeld ?_
        try simp only [Act.put, yA, yB, yC, yD, yE, yF]
        refine wpAnyH_take (i := 5) (v := kCm op ty (.slice aa args.length ca') pr) rfl (by kernel_rfl) (by kernel_rfl) (by kernel_rfl) (fun _ _ _ h => h) (Or.inl ⟨by rfl, fun wq hSw => by (try dsimp only at hSw); go_simp⟩) hHeld ?_
        try simp only [Act.put, yA, yB, yC, yD, yE, yF]
        refine wpAnyH_take (i := 6) (v := scV (.slice a1 gs.length c1) (.slice a2 fs.length c2) name link (.slice a3 params.length c3) res (.slice a4 blocks.length c4) (.slice a5 ts.length c5) bk) rfl (by kernel_rfl) (by kernel_rfl) (by kernel_rfl) (fun _ _ _ h => h) (Or.inl ⟨by rfl, fun wq hSw => by (try dsimp only at hSw); go_simp⟩) hHeld ?_
        try simp only [Act.put, yA, yB, yC, yD, yE, yF]
        refine wpAnyH_ready (rs := [7]) (by kernel_rfl) (by simp) ?_
        refine AllReadyH.cons rfl (fun K hK => ?_) AllReadyH.nil
        go_simp
        refine (CW1.out _ hb2).mono ?_
        rintro e w3 ⟨rfl, hb⟩
        have hb3 := bel_trans hb2 hb
        clear hb
        refine hK.out _ _ (SK.out _ hb3) (fun hHeld => ?_)
        clear hK K
        try simp only [Act.put, yA, yB, yC, yD, yE, yF]
        refine wpAnyH_take (i := 8) (v := .bool true) rfl (by kernel_rfl) (by kernel_rfl) (by kernel_rfl) (fun _ _ _ h => h) (Or.inl ⟨by rfl, fun wq hSw => by (try dsimp only at hSw); go_simp⟩) hHeld ?_
        try simp only [Act.put, yA, yB, yC, yD, yE, yF]
        refine wpAnyH_take (i := 9) (v := .bool true) rfl (by kernel_rfl) (by kernel_rfl) (by kernel_rfl) (fun _ _ _ h => h) (Or.inl ⟨by rfl, fun wq hSw => by (try dsimp only at hSw); go_simp⟩) hHeld ?_
        try simp only [Act.put, yA, yB, yC, yD, yE, yF]
        refine wpAnyH_take (i := 10) (v := kCm op ty (.slice aa args.length ca') pr) rfl (by kernel_rfl) (by kernel_rfl) (by kernel_rfl) (fun _ _ _ h => h) (Or.inl ⟨by rfl, fun wq hSw => by (try dsimp only at hSw); go_simp⟩) hHeld ?_
        try simp only [Act.put, yA, yB, yC, yD, yE, yF]
        refine wpAnyH_take (i := 11) (v := scV (.slice a1 gs.length c1) (.slice a2 fs.length c2) name link (.slice a3 params.length c3) res (.slice a4 blocks.length c4) (.slice a5 ts.length c5) bk) rfl (by kernel_rfl) (by kernel_rfl) (by kernel_rfl) (fun _ _ _ h => h) (Or.inl ⟨by rfl, fun wq hSw => by (try dsimp only at hSw); go_simp⟩) hHeld ?_
        try simp only [Act.put, yA, yB, yC, yD, yE, yF]
        refine wpAnyH_ready (rs := [12]) (by kernel_rfl) (by simp) ?_
        refine AllReadyH.cons rfl (fun K hK => ?_) AllReadyH.nil
        go_simp
        refine (CR.out _ hb3).mono ?_
        rintro e w4 ⟨rfl, hb⟩
        have hb4 := bel_trans hb3 hb
        clear hb
        refine hK.out _ _ (SK.out _ hb4) (fun hHeld => ?_)
        clear hK K
        try simp only [Act.put, yA, yB, yC, yD, yE, yF]
        refine wpAnyH_take (i := 13) (v := .bool false) rfl (by kernel_rfl) (by kernel_rfl) (by kernel_rfl) (fun _ _ _ h => h) (Or.inl ⟨by rfl, fun wq hSw => by (try dsimp only at hSw); go_simp⟩) hHeld ?_
        try simp only [Act.put, yA, yB, yC, yD, yE, yF]
        refine wpAnyH_take (i := 14) (v := .bool false) rfl (by kernel_rfl) (by kernel_rfl) (by kernel_rfl) (fun _ _ _ h => h) (Or.inl ⟨by rfl, fun wq hSw => by (try dsimp only at hSw); go_simp⟩) hHeld ?_
        try simp only [Act.put, yA, yB, yC, yD, yE, yF]
        refine wpAnyH_take (i := 15) (v := undef) rfl (by kernel_rfl) (by kernel_rfl) (by kernel_rfl) (fun _ _ _ h => h) (Or.inr ⟨by rfl, rfl⟩) hHeld ?_
        try simp only [Act.put, yA, yB, yC, yD, yE, yF]
        refine wpAnyH_take (i := 16) (v := undef) rfl (by kernel_rfl) (by kernel_rfl) (by kernel_rfl) (fun _ _ _ h => h) (Or.inr ⟨by rfl, rfl⟩) hHeld ?_
        try simp only [Act.put, yA, yB, yC, yD, yE, yF]
        refine wpAnyH_take (i := 17) (v := undef) rfl (by kernel_rfl) (by kernel_rfl) (by kernel_rfl) (fun _ _ _ h => h) (Or.inr ⟨by rfl, rfl⟩) hHeld ?_
        try simp only [Act.put, yA, yB, yC, yD, yE, yF]
        refine wpAnyH_take (i := 18) (v := undef) rfl (by kernel_rfl) (by kernel_rfl) (by kernel_rfl) (fun _ _ _ h => h) (Or.inr ⟨by rfl, rfl⟩) hHeld ?_
        try simp only [Act.put, yA, yB, yC, yD, yE, yF]
        refine wpAnyH_take (i := 19) (v := undef) rfl (by kernel_rfl) (by kernel_rfl) (by kernel_rfl) (fun _ _ _ h => h) (Or.inr ⟨by rfl, rfl⟩) hHeld ?_
        try simp only [Act.put, yA, yB, yC, yD, yE, yF]
        refine wpAnyH_take (i := 20) (v := undef) rfl (by kernel_rfl) (by kernel_rfl) (by kernel_rfl) (fun _ _ _ h => h) (Or.inr ⟨by rfl, rfl⟩) hHeld ?_
        try simp only [Act.put, yA, yB, yC, yD, yE, yF]
        refine wpAnyH_take (i := 21) (v := undef) rfl (by kernel_rfl) (by kernel_rfl) (by kernel_rfl) (fun _ _ _ h => h) (Or.inr ⟨by rfl, rfl⟩) hHeld ?_
        try simp only [Act.put, yA, yB, yC, yD, yE, yF]
        refine wpAnyH_take (i := 22) (v := undef) rfl (by kernel_rfl) (by kernel_rfl) (by kernel_rfl) (fun _ _ _ h => h) (Or.inr ⟨by rfl, rfl⟩) hHeld ?_
        try simp only [Act.put, yA, yB, yC, yD, yE, yF]
        refine wpAnyH_take (i := 23) (v := .bool false) rfl (by kernel_rfl) (by kernel_rfl) (by kernel_rfl) (fun _ _ _ h => h) (Or.inl ⟨by rfl, fun wq hSw => by (try dsimp only at hSw); go_simp⟩) hHeld ?_
        try simp only [Act.put, yA, yB, yC, yD, yE, yF]
        refine wpAnyH_take (i := 24) (v := .bool false) rfl (by kernel_rfl) (by kernel_rfl) (by kernel_rfl) (fun _ _ _ h => h) (Or.inl ⟨by rfl, fun wq hSw => by (try dsimp only at hSw); go_simp⟩) hHeld ?_
        try simp only [Act.put, yA, yB, yC, yD, yE, yF]
        refine wpAnyH_done (by kernel_rfl) ?_ _
        go_wp2_with fail
        go_ret
        exact ⟨rfl, bel_trans B0 hb4⟩
      | true =>
        by_cases hlen : wn = args.length
        · have m1 : ((wn : Int) == (args.length : Int)) = true := by simp [hlen]
          rw [show decide (wn = args.length) = true from decide_eq_true hlen]
          replace hlen := Kp.mk hlen
          go_enter Tryz.func148, Tryz.ntmps148
          go_upto_region 1 with fail
          rw [← hW.out]
          refine wp_region_held_drew (S := (fun W' => Below W0.heap.size W0 W' ∧ W'.cell? ⟨w.heap.size, 0, none⟩ = some (.slice a1 gs.length c1) ∧ W'.cell? ⟨w.heap.size, 1, none⟩ = some (.slice a2 fs.length c2) ∧ W'.cell? ⟨w.heap.size, 2, none⟩ = some (.string name) ∧ W'.cell? ⟨w.heap.size, 3, none⟩ = some (.int .i64 link) ∧ W'.cell? ⟨w.heap.size, 4, none⟩ = some (.slice a3 params.length c3) ∧ W'.cell? ⟨w.heap.size, 5, none⟩ = some (.int .i64 res) ∧ W'.cell? ⟨w.heap.size, 6, none⟩ = some (.slice a4 blocks.length c4) ∧ W'.cell? ⟨w.heap.size, 7, none⟩ = some (.slice a5 ts.length c5) ∧ W'.cell? ⟨w.heap.size, 8, none⟩ = some (.int .i64 bk) ∧ W'.cell? ⟨w.heap.size + 1, 0, none⟩ = some (.int .i64 op) ∧ W'.cell? ⟨w.heap.size + 1, 1, none⟩ = some (.int .i64 ty) ∧ W'.cell? ⟨w.heap.size + 1, 2, none⟩ = some (.int .i64 fl) ∧ W'.cell? ⟨w.heap.size + 1, 3, none⟩ = some (.int .i64 pr) ∧ W'.cell? ⟨w.heap.size + 1, 4, none⟩ = some (.int .i64 ca) ∧ W'.cell? ⟨w.heap.size + 1, 5, none⟩ = some (.int .i64 sz) ∧ W'.cell? ⟨w.heap.size + 1, 6, none⟩ = some (.slice aa args.length ca') ∧ W'.cell? ⟨w.heap.size + 1, 7, none⟩ = some (.slice al bl.length cl) ∧ W'.cell? ⟨w.heap.size + 1, 8, none⟩ = some (.slice as' ws.length cs))) (by kernel_rfl) (SK.out _ hb0) (fun hHeld => ?_)
          refine wpAnyH_take (i := 0) (v := .agg #[.int .i64 op, .int .i64 ty, .int .i64 fl, .int .i64 pr, .int .i64 ca, .int .i64 sz, .slice aa args.length ca', .slice al bl.length cl, .slice as' ws.length cs]) rfl (by kernel_rfl) (by kernel_rfl) (by kernel_rfl) (fun _ _ _ h => h) (Or.inl ⟨by rfl, fun wq hSw => by (try dsimp only at hSw); go_simp⟩) hHeld ?_
          try simp only [Act.put, yA, yB, yC, yD, yE, yF]
          refine wpAnyH_take (i := 1) (v := kCm op ty (.slice aa args.length ca') pr) rfl (by kernel_rfl) (by kernel_rfl) (by kernel_rfl) (fun _ _ _ h => h) (Or.inl ⟨by rfl, fun wq hSw => by (try dsimp only at hSw); go_simp⟩) hHeld ?_
          try simp only [Act.put, yA, yB, yC, yD, yE, yF]
          refine wpAnyH_ready (rs := [2]) (by kernel_rfl) (by simp) ?_
          refine AllReadyH.cons rfl (fun K hK => ?_) AllReadyH.nil
          go_simp
          refine (CF.out _ hb0).mono ?_
          rintro e w1 ⟨⟨av, cv, rfl⟩, hb⟩
          have hb1 := hb0.trans hb
          clear hb
          refine hK.out _ _ (SK.out _ hb1) (fun hHeld => ?_)
          clear hK K
          try simp only [Act.put, yA, yB, yC, yD, yE, yF]
          refine wpAnyH_ready (rs := [3]) (by kernel_rfl) (by simp) ?_
          refine AllReadyH.cons rfl (fun K hK => ?_) AllReadyH.nil
          go_simp
          refine (CN.out _ _ _).mono ?_
          rintro e w2 ⟨rfl, hb⟩
          have hb2 := bel_trans hb1 hb
          clear hb
          refine hK.out _ _ (SK.out _ hb2) (fun hHeld => ?_)
          clear hK K
          try simp only [Act.put, yA, yB, yC, yD, yE, yF]
          refine wpAnyH_take (i := 4) (v := .bool true) rfl (by kernel_rfl) (by kernel_rfl) (by kernel_rfl) (fun _ _ _ h => h) (Or.inl ⟨by rfl, fun wq hSw => by (try dsimp only at hSw); go_simp⟩) hHeld ?_
          try simp only [Act.put, yA, yB, yC, yD, yE, yF]
          refine wpAnyH_take (i := 5) (v := kCm op ty (.slice aa args.length ca') pr) rfl (by kernel_rfl) (by kernel_rfl) (by kernel_rfl) (fun _ _ _ h => h) (Or.inl ⟨by rfl, fun wq hSw => by (try dsimp only at hSw); go_simp⟩) hHeld ?_
          try simp only [Act.put, yA, yB, yC, yD, yE, yF]
          refine wpAnyH_take (i := 6) (v := scV (.slice a1 gs.length c1) (.slice a2 fs.length c2) name link (.slice a3 params.length c3) res (.slice a4 blocks.length c4) (.slice a5 ts.length c5) bk) rfl (by kernel_rfl) (by kernel_rfl) (by kernel_rfl) (fun _ _ _ h => h) (Or.inl ⟨by rfl, fun wq hSw => by (try dsimp only at hSw); go_simp⟩) hHeld ?_
          try simp only [Act.put, yA, yB, yC, yD, yE, yF]
          refine wpAnyH_ready (rs := [7]) (by kernel_rfl) (by simp) ?_
          refine AllReadyH.cons rfl (fun K hK => ?_) AllReadyH.nil
          go_simp
          refine (CW1.out _ hb2).mono ?_
          rintro e w3 ⟨rfl, hb⟩
          have hb3 := bel_trans hb2 hb
          clear hb
          refine hK.out _ _ (SK.out _ hb3) (fun hHeld => ?_)
          clear hK K
          try simp only [Act.put, yA, yB, yC, yD, yE, yF]
          refine wpAnyH_take (i := 8) (v := .bool true) rfl (by kernel_rfl) (by kernel_rfl) (by kernel_rfl) (fun _ _ _ h => h) (Or.inl ⟨by rfl, fun wq hSw => by (try dsimp only at hSw); go_simp⟩) hHeld ?_
          try simp only [Act.put, yA, yB, yC, yD, yE, yF]
          refine wpAnyH_take (i := 9) (v := .bool true) rfl (by kernel_rfl) (by kernel_rfl) (by kernel_rfl) (fun _ _ _ h => h) (Or.inl ⟨by rfl, fun wq hSw => by (try dsimp only at hSw); go_simp⟩) hHeld ?_
          try simp only [Act.put, yA, yB, yC, yD, yE, yF]
          refine wpAnyH_take (i := 10) (v := kCm op ty (.slice aa args.length ca') pr) rfl (by kernel_rfl) (by kernel_rfl) (by kernel_rfl) (fun _ _ _ h => h) (Or.inl ⟨by rfl, fun wq hSw => by (try dsimp only at hSw); go_simp⟩) hHeld ?_
          try simp only [Act.put, yA, yB, yC, yD, yE, yF]
          refine wpAnyH_take (i := 11) (v := scV (.slice a1 gs.length c1) (.slice a2 fs.length c2) name link (.slice a3 params.length c3) res (.slice a4 blocks.length c4) (.slice a5 ts.length c5) bk) rfl (by kernel_rfl) (by kernel_rfl) (by kernel_rfl) (fun _ _ _ h => h) (Or.inl ⟨by rfl, fun wq hSw => by (try dsimp only at hSw); go_simp⟩) hHeld ?_
          try simp only [Act.put, yA, yB, yC, yD, yE, yF]
          refine wpAnyH_ready (rs := [12]) (by kernel_rfl) (by simp) ?_
          refine AllReadyH.cons rfl (fun K hK => ?_) AllReadyH.nil
          go_simp
          refine (CR.out _ hb3).mono ?_
          rintro e w4 ⟨rfl, hb⟩
          have hb4 := bel_trans hb3 hb
          clear hb
          refine hK.out _ _ (SK.out _ hb4) (fun hHeld => ?_)
          clear hK K
          try simp only [Act.put, yA, yB, yC, yD, yE, yF]
          refine wpAnyH_take (i := 13) (v := .bool true) rfl (by kernel_rfl) (by kernel_rfl) (by kernel_rfl) (fun _ _ _ h => h) (Or.inl ⟨by rfl, fun wq hSw => by (try dsimp only at hSw); go_simp⟩) hHeld ?_
          try simp only [Act.put, yA, yB, yC, yD, yE, yF]
          refine wpAnyH_take (i := 14) (v := .bool true) rfl (by kernel_rfl) (by kernel_rfl) (by kernel_rfl) (fun _ _ _ h => h) (Or.inl ⟨by rfl, fun wq hSw => by (try dsimp only at hSw); go_simp⟩) hHeld ?_
          try simp only [Act.put, yA, yB, yC, yD, yE, yF]
          refine wpAnyH_take (i := 15) (v := kCm op ty (.slice aa args.length ca') pr) rfl (by kernel_rfl) (by kernel_rfl) (by kernel_rfl) (fun _ _ _ h => h) (Or.inl ⟨by rfl, fun wq hSw => by (try dsimp only at hSw); go_simp⟩) hHeld ?_
          try simp only [Act.put, yA, yB, yC, yD, yE, yF]
          refine wpAnyH_take (i := 16) (v := scV (.slice a1 gs.length c1) (.slice a2 fs.length c2) name link (.slice a3 params.length c3) res (.slice a4 blocks.length c4) (.slice a5 ts.length c5) bk) rfl (by kernel_rfl) (by kernel_rfl) (by kernel_rfl) (fun _ _ _ h => h) (Or.inl ⟨by rfl, fun wq hSw => by (try dsimp only at hSw); go_simp⟩) hHeld ?_
          try simp only [Act.put, yA, yB, yC, yD, yE, yF]
          refine wpAnyH_take (i := 19) (v := kCm op ty (.slice aa args.length ca') pr) rfl (by kernel_rfl) (by kernel_rfl) (by kernel_rfl) (fun _ _ _ h => h) (Or.inl ⟨by rfl, fun wq hSw => by (try dsimp only at hSw); go_simp⟩) hHeld ?_
          try simp only [Act.put, yA, yB, yC, yD, yE, yF]
          refine wpAnyH_ready (rs := [17]) (by kernel_rfl) (by simp) ?_
          refine AllReadyH.cons rfl (fun K hK => ?_) AllReadyH.nil
          go_simp
          refine (WA'.out _ hb4).mono ?_
          rintro e w5 ⟨⟨aw, cw, rfl⟩, hb⟩
          have hb5 := bel_trans hb4 hb
          clear hb
          refine hK.out _ _ (SK.out _ hb5) (fun hHeld => ?_)
          clear hK K
          try simp only [Act.put, yA, yB, yC, yD, yE, yF]
          refine wpAnyH_take (i := 18) (v := .int .i64 wn) rfl (by kernel_rfl) (by kernel_rfl) (by kernel_rfl) (fun _ _ _ h => h) (Or.inl ⟨by rfl, fun wq hSw => by (try dsimp only at hSw); go_simp⟩) hHeld ?_
          try simp only [Act.put, yA, yB, yC, yD, yE, yF]
          refine wpAnyH_ready (rs := [20]) (by kernel_rfl) (by simp) ?_
          refine AllReadyH.cons rfl (fun K hK => ?_) AllReadyH.nil
          go_simp
          refine (CA.out _).mono ?_
          rintro e w6 ⟨rfl, hb⟩
          have hb6 := bel_trans hb5 hb
          clear hb
          refine hK.out _ _ (SK.out _ hb6) (fun hHeld => ?_)
          clear hK K
          try simp only [Act.put, yA, yB, yC, yD, yE, yF]
          refine wpAnyH_take (i := 21) (v := .int .i64 args.length) rfl (by kernel_rfl) (by kernel_rfl) (by kernel_rfl) (fun _ _ _ h => h) (Or.inl ⟨by rfl, fun wq hSw => by (try dsimp only at hSw); go_simp⟩) hHeld ?_
          try simp only [Act.put, yA, yB, yC, yD, yE, yF]
          refine wpAnyH_take (i := 22) (v := .bool true) rfl (by kernel_rfl) (by kernel_rfl) (by kernel_rfl) (fun _ _ _ h => h) (Or.inl ⟨by rfl, fun wq hSw => by (try dsimp only at hSw); go_simp⟩) hHeld ?_
          try simp only [Act.put, yA, yB, yC, yD, yE, yF]
          refine wpAnyH_take (i := 23) (v := .bool true) rfl (by kernel_rfl) (by kernel_rfl) (by kernel_rfl) (fun _ _ _ h => h) (Or.inl ⟨by rfl, fun wq hSw => by (try dsimp only at hSw); go_simp⟩) hHeld ?_
          try simp only [Act.put, yA, yB, yC, yD, yE, yF]
          refine wpAnyH_take (i := 24) (v := .bool true) rfl (by kernel_rfl) (by kernel_rfl) (by kernel_rfl) (fun _ _ _ h => h) (Or.inl ⟨by rfl, fun wq hSw => by (try dsimp only at hSw); go_simp⟩) hHeld ?_
          try simp only [Act.put, yA, yB, yC, yD, yE, yF]
          refine wpAnyH_done (by kernel_rfl) ?_ _
          go_wp2_with fail
          go_ret
          exact ⟨rfl, bel_trans B0 hb6⟩
        · have m1 : ((wn : Int) == (args.length : Int)) = false := nb (by omega)
          rw [show decide (wn = args.length) = false from decide_eq_false hlen]
          clear hlen
          go_enter Tryz.func148, Tryz.ntmps148
          go_upto_region 1 with fail
          rw [← hW.out]
          refine wp_region_held_drew (S := (fun W' => Below W0.heap.size W0 W' ∧ W'.cell? ⟨w.heap.size, 0, none⟩ = some (.slice a1 gs.length c1) ∧ W'.cell? ⟨w.heap.size, 1, none⟩ = some (.slice a2 fs.length c2) ∧ W'.cell? ⟨w.heap.size, 2, none⟩ = some (.string name) ∧ W'.cell? ⟨w.heap.size, 3, none⟩ = some (.int .i64 link) ∧ W'.cell? ⟨w.heap.size, 4, none⟩ = some (.slice a3 params.length c3) ∧ W'.cell? ⟨w.heap.size, 5, none⟩ = some (.int .i64 res) ∧ W'.cell? ⟨w.heap.size, 6, none⟩ = some (.slice a4 blocks.length c4) ∧ W'.cell? ⟨w.heap.size, 7, none⟩ = some (.slice a5 ts.length c5) ∧ W'.cell? ⟨w.heap.size, 8, none⟩ = some (.int .i64 bk) ∧ W'.cell? ⟨w.heap.size + 1, 0, none⟩ = some (.int .i64 op) ∧ W'.cell? ⟨w.heap.size + 1, 1, none⟩ = some (.int .i64 ty) ∧ W'.cell? ⟨w.heap.size + 1, 2, none⟩ = some (.int .i64 fl) ∧ W'.cell? ⟨w.heap.size + 1, 3, none⟩ = some (.int .i64 pr) ∧ W'.cell? ⟨w.heap.size + 1, 4, none⟩ = some (.int .i64 ca) ∧ W'.cell? ⟨w.heap.size + 1, 5, none⟩ = some (.int .i64 sz) ∧ W'.cell? ⟨w.heap.size + 1, 6, none⟩ = some (.slice aa args.length ca') ∧ W'.cell? ⟨w.heap.size + 1, 7, none⟩ = some (.slice al bl.length cl) ∧ W'.cell? ⟨w.heap.size + 1, 8, none⟩ = some (.slice as' ws.length cs))) (by kernel_rfl) (SK.out _ hb0) (fun hHeld => ?_)
          refine wpAnyH_take (i := 0) (v := .agg #[.int .i64 op, .int .i64 ty, .int .i64 fl, .int .i64 pr, .int .i64 ca, .int .i64 sz, .slice aa args.length ca', .slice al bl.length cl, .slice as' ws.length cs]) rfl (by kernel_rfl) (by kernel_rfl) (by kernel_rfl) (fun _ _ _ h => h) (Or.inl ⟨by rfl, fun wq hSw => by (try dsimp only at hSw); go_simp⟩) hHeld ?_
          try simp only [Act.put, yA, yB, yC, yD, yE, yF]
          refine wpAnyH_take (i := 1) (v := kCm op ty (.slice aa args.length ca') pr) rfl (by kernel_rfl) (by kernel_rfl) (by kernel_rfl) (fun _ _ _ h => h) (Or.inl ⟨by rfl, fun wq hSw => by (try dsimp only at hSw); go_simp⟩) hHeld ?_
          try simp only [Act.put, yA, yB, yC, yD, yE, yF]
          refine wpAnyH_ready (rs := [2]) (by kernel_rfl) (by simp) ?_
          refine AllReadyH.cons rfl (fun K hK => ?_) AllReadyH.nil
          go_simp
          refine (CF.out _ hb0).mono ?_
          rintro e w1 ⟨⟨av, cv, rfl⟩, hb⟩
          have hb1 := hb0.trans hb
          clear hb
          refine hK.out _ _ (SK.out _ hb1) (fun hHeld => ?_)
          clear hK K
          try simp only [Act.put, yA, yB, yC, yD, yE, yF]
          refine wpAnyH_ready (rs := [3]) (by kernel_rfl) (by simp) ?_
          refine AllReadyH.cons rfl (fun K hK => ?_) AllReadyH.nil
          go_simp
          refine (CN.out _ _ _).mono ?_
          rintro e w2 ⟨rfl, hb⟩
          have hb2 := bel_trans hb1 hb
          clear hb
          refine hK.out _ _ (SK.out _ hb2) (fun hHeld => ?_)
          clear hK K
          try simp only [Act.put, yA, yB, yC, yD, yE, yF]
          refine wpAnyH_take (i := 4) (v := .bool true) rfl (by kernel_rfl) (by kernel_rfl) (by kernel_rfl) (fun _ _ _ h => h) (Or.inl ⟨by rfl, fun wq hSw => by (try dsimp only at hSw); go_simp⟩) hHeld ?_
          try simp only [Act.put, yA, yB, yC, yD, yE, yF]
          refine wpAnyH_take (i := 5) (v := kCm op ty (.slice aa args.length ca') pr) rfl (by kernel_rfl) (by kernel_rfl) (by kernel_rfl) (fun _ _ _ h => h) (Or.inl ⟨by rfl, fun wq hSw => by (try dsimp only at hSw); go_simp⟩) hHeld ?_
          try simp only [Act.put, yA, yB, yC, yD, yE, yF]
          refine wpAnyH_take (i := 6) (v := scV (.slice a1 gs.length c1) (.slice a2 fs.length c2) name link (.slice a3 params.length c3) res (.slice a4 blocks.length c4) (.slice a5 ts.length c5) bk) rfl (by kernel_rfl) (by kernel_rfl) (by kernel_rfl) (fun _ _ _ h => h) (Or.inl ⟨by rfl, fun wq hSw => by (try dsimp only at hSw); go_simp⟩) hHeld ?_
          try simp only [Act.put, yA, yB, yC, yD, yE, yF]
          refine wpAnyH_ready (rs := [7]) (by kernel_rfl) (by simp) ?_
          refine AllReadyH.cons rfl (fun K hK => ?_) AllReadyH.nil
          go_simp
          refine (CW1.out _ hb2).mono ?_
          rintro e w3 ⟨rfl, hb⟩
          have hb3 := bel_trans hb2 hb
          clear hb
          refine hK.out _ _ (SK.out _ hb3) (fun hHeld => ?_)
          clear hK K
          try simp only [Act.put, yA, yB, yC, yD, yE, yF]
          refine wpAnyH_take (i := 8) (v := .bool true) rfl (by kernel_rfl) (by kernel_rfl) (by kernel_rfl) (fun _ _ _ h => h) (Or.inl ⟨by rfl, fun wq hSw => by (try dsimp only at hSw); go_simp⟩) hHeld ?_
          try simp only [Act.put, yA, yB, yC, yD, yE, yF]
          refine wpAnyH_take (i := 9) (v := .bool true) rfl (by kernel_rfl) (by kernel_rfl) (by kernel_rfl) (fun _ _ _ h => h) (Or.inl ⟨by rfl, fun wq hSw => by (try dsimp only at hSw); go_simp⟩) hHeld ?_
          try simp only [Act.put, yA, yB, yC, yD, yE, yF]
          refine wpAnyH_take (i := 10) (v := kCm op ty (.slice aa args.length ca') pr) rfl (by kernel_rfl) (by kernel_rfl) (by kernel_rfl) (fun _ _ _ h => h) (Or.inl ⟨by rfl, fun wq hSw => by (try dsimp only at hSw); go_simp⟩) hHeld ?_
          try simp only [Act.put, yA, yB, yC, yD, yE, yF]
          refine wpAnyH_take (i := 11) (v := scV (.slice a1 gs.length c1) (.slice a2 fs.length c2) name link (.slice a3 params.length c3) res (.slice a4 blocks.length c4) (.slice a5 ts.length c5) bk) rfl (by kernel_rfl) (by kernel_rfl) (by kernel_rfl) (fun _ _ _ h => h) (Or.inl ⟨by rfl, fun wq hSw => by (try dsimp only at hSw); go_simp⟩) hHeld ?_
          try simp only [Act.put, yA, yB, yC, yD, yE, yF]
          refine wpAnyH_ready (rs := [12]) (by kernel_rfl) (by simp) ?_
          refine AllReadyH.cons rfl (fun K hK => ?_) AllReadyH.nil
          go_simp
          refine (CR.out _ hb3).mono ?_
          rintro e w4 ⟨rfl, hb⟩
          have hb4 := bel_trans hb3 hb
          clear hb
          refine hK.out _ _ (SK.out _ hb4) (fun hHeld => ?_)
          clear hK K
          try simp only [Act.put, yA, yB, yC, yD, yE, yF]
          refine wpAnyH_take (i := 13) (v := .bool true) rfl (by kernel_rfl) (by kernel_rfl) (by kernel_rfl) (fun _ _ _ h => h) (Or.inl ⟨by rfl, fun wq hSw => by (try dsimp only at hSw); go_simp⟩) hHeld ?_
          try simp only [Act.put, yA, yB, yC, yD, yE, yF]
          refine wpAnyH_take (i := 14) (v := .bool true) rfl (by kernel_rfl) (by kernel_rfl) (by kernel_rfl) (fun _ _ _ h => h) (Or.inl ⟨by rfl, fun wq hSw => by (try dsimp only at hSw); go_simp⟩) hHeld ?_
          try simp only [Act.put, yA, yB, yC, yD, yE, yF]
          refine wpAnyH_take (i := 15) (v := kCm op ty (.slice aa args.length ca') pr) rfl (by kernel_rfl) (by kernel_rfl) (by kernel_rfl) (fun _ _ _ h => h) (Or.inl ⟨by rfl, fun wq hSw => by (try dsimp only at hSw); go_simp⟩) hHeld ?_
          try simp only [Act.put, yA, yB, yC, yD, yE, yF]
          refine wpAnyH_take (i := 16) (v := scV (.slice a1 gs.length c1) (.slice a2 fs.length c2) name link (.slice a3 params.length c3) res (.slice a4 blocks.length c4) (.slice a5 ts.length c5) bk) rfl (by kernel_rfl) (by kernel_rfl) (by kernel_rfl) (fun _ _ _ h => h) (Or.inl ⟨by rfl, fun wq hSw => by (try dsimp only at hSw); go_simp⟩) hHeld ?_
          try simp only [Act.put, yA, yB, yC, yD, yE, yF]
          refine wpAnyH_take (i := 19) (v := kCm op ty (.slice aa args.length ca') pr) rfl (by kernel_rfl) (by kernel_rfl) (by kernel_rfl) (fun _ _ _ h => h) (Or.inl ⟨by rfl, fun wq hSw => by (try dsimp only at hSw); go_simp⟩) hHeld ?_
          try simp only [Act.put, yA, yB, yC, yD, yE, yF]
          refine wpAnyH_ready (rs := [17]) (by kernel_rfl) (by simp) ?_
          refine AllReadyH.cons rfl (fun K hK => ?_) AllReadyH.nil
          go_simp
          refine (WA'.out _ hb4).mono ?_
          rintro e w5 ⟨⟨aw, cw, rfl⟩, hb⟩
          have hb5 := bel_trans hb4 hb
          clear hb
          refine hK.out _ _ (SK.out _ hb5) (fun hHeld => ?_)
          clear hK K
          try simp only [Act.put, yA, yB, yC, yD, yE, yF]
          refine wpAnyH_take (i := 18) (v := .int .i64 wn) rfl (by kernel_rfl) (by kernel_rfl) (by kernel_rfl) (fun _ _ _ h => h) (Or.inl ⟨by rfl, fun wq hSw => by (try dsimp only at hSw); go_simp⟩) hHeld ?_
          try simp only [Act.put, yA, yB, yC, yD, yE, yF]
          refine wpAnyH_ready (rs := [20]) (by kernel_rfl) (by simp) ?_
          refine AllReadyH.cons rfl (fun K hK => ?_) AllReadyH.nil
          go_simp
          refine (CA.out _).mono ?_
          rintro e w6 ⟨rfl, hb⟩
          have hb6 := bel_trans hb5 hb
          clear hb
          refine hK.out _ _ (SK.out _ hb6) (fun hHeld => ?_)
          clear hK K
          try simp only [Act.put, yA, yB, yC, yD, yE, yF]
          refine wpAnyH_take (i := 21) (v := .int .i64 args.length) rfl (by kernel_rfl) (by kernel_rfl) (by kernel_rfl) (fun _ _ _ h => h) (Or.inl ⟨by rfl, fun wq hSw => by (try dsimp only at hSw); go_simp⟩) hHeld ?_
          try simp only [Act.put, yA, yB, yC, yD, yE, yF]
          refine wpAnyH_take (i := 22) (v := .bool false) rfl (by kernel_rfl) (by kernel_rfl) (by kernel_rfl) (fun _ _ _ h => h) (Or.inl ⟨by rfl, fun wq hSw => by (try dsimp only at hSw); go_simp⟩) hHeld ?_
          try simp only [Act.put, yA, yB, yC, yD, yE, yF]
          refine wpAnyH_take (i := 23) (v := .bool false) rfl (by kernel_rfl) (by kernel_rfl) (by kernel_rfl) (fun _ _ _ h => h) (Or.inl ⟨by rfl, fun wq hSw => by (try dsimp only at hSw); go_simp⟩) hHeld ?_
          try simp only [Act.put, yA, yB, yC, yD, yE, yF]
          refine wpAnyH_take (i := 24) (v := .bool false) rfl (by kernel_rfl) (by kernel_rfl) (by kernel_rfl) (fun _ _ _ h => h) (Or.inl ⟨by rfl, fun wq hSw => by (try dsimp only at hSw); go_simp⟩) hHeld ?_
          try simp only [Act.put, yA, yB, yC, yD, yE, yF]
          refine wpAnyH_done (by kernel_rfl) ?_ _
          go_wp2_with fail
          go_ret
          exact ⟨rfl, bel_trans B0 hb6⟩

set_option maxRecDepth 100000 in
set_option maxHeartbeats 4000000 in
theorem fldAl (gs : List GlD) (fs : List FnD) (ts : List Int) (a1 a2 a3 a4 a5 : Option Addr) (params : List Int) (blocks : List (List InD)) (c1 c2 c3 c4 c5 : Nat) (name : ByteArray) (link res bk : Int) (op ty fl pr ca sz : Int) (aa al as' : Option Addr) (args : List OpD) (bl ws : List Int) (ca' cl cs : Nat) (w : World) {lo : Nat} (hm : MoAt lo w gs fs (.slice a1 gs.length c1) (.slice a2 fs.length c2)) (ha : Ops lo w (.slice aa args.length ca') args) (hl : Ints lo .i64 w (.slice al bl.length cl) bl) (hs : Ints lo .u64 w (.slice as' ws.length cs) ws) (hw : Wid w) (hn : args.length ≤ 1048576) (hnl : bl.length ≤ 1048576) (hns : ws.length ≤ 1048576) :
    Calls Tryz.prog 148 #[scV (.slice a1 gs.length c1) (.slice a2 fs.length c2) name link (.slice a3 params.length c3) res (.slice a4 blocks.length c4) (.slice a5 ts.length c5) bk, .agg #[.int .i64 op, .int .i64 ty, .int .i64 fl, .int .i64 pr, .int .i64 ca, .int .i64 sz, .slice aa args.length ca', .slice al bl.length cl, .slice as' ws.length cs], kAl op ty (.slice aa args.length ca') sz] w fun e w' => e = .returned (.bool (nmrB fl pr ca sz 0 0 0 sz bl.length ws.length 0 0 && ((decide (bk = 0) && (decide (1 ≤ sz) && decide (sz ≤ 256))) && ((resB op ty) && decide ((wanH op ty args res).length = args.length))))) ∧ Below w.heap.size w w' := by
  have hfl : fs.length ≤ 140737488355328 := by obtain ⟨_, _, q, _⟩ := hm.f.ex; exact q.le
  obtain ⟨W0, hW⟩ : ∃ W0, W0 = (w.alloc (scC (.slice a1 gs.length c1) (.slice a2 fs.length c2) name link (.slice a3 params.length c3) res (.slice a4 blocks.length c4) (.slice a5 ts.length c5) bk)).alloc (Go.Obj.cells #[.int .i64 op, .int .i64 ty, .int .i64 fl, .int .i64 pr, .int .i64 ca, .int .i64 sz, .slice aa args.length ca', .slice al bl.length cl, .slice as' ws.length cs] 82) := ⟨_, rfl⟩
  have B0 : Below w.heap.size w W0 := by rw [hW]; exact bel_trans (bel_alloc _ _) (bel_alloc _ _)
  have sC0 : W0.heap[w.heap.size]? = some (scC (.slice a1 gs.length c1) (.slice a2 fs.length c2) name link (.slice a3 params.length c3) res (.slice a4 blocks.length c4) (.slice a5 ts.length c5) bk) := by rw [hW]; exact kept_at (new_at w _) (bel_alloc _ _)
  have iC0 : W0.heap[w.heap.size + 1]? = some (Go.Obj.cells #[.int .i64 op, .int .i64 ty, .int .i64 fl, .int .i64 pr, .int .i64 ca, .int .i64 sz, .slice aa args.length ca', .slice al bl.length cl, .slice as' ws.length cs] 82) := by
    rw [hW]
    have := new_at (w.alloc (scC (.slice a1 gs.length c1) (.slice a2 fs.length c2) name link (.slice a3 params.length c3) res (.slice a4 blocks.length c4) (.slice a5 ts.length c5) bk)) (Go.Obj.cells #[.int .i64 op, .int .i64 ty, .int .i64 fl, .int .i64 pr, .int .i64 ca, .int .i64 sz, .slice aa args.length ca', .slice al bl.length cl, .slice as' ws.length cs] 82)
    rwa [World.size_alloc] at this
  have CF : Kp (∀ W, Below W0.heap.size W0 W → Calls Tryz.prog 190 #[kAl op ty (.slice aa args.length ca') sz] W fun e w' => (∃ av cv, e = .returned (.agg #[.int .i64 op, .int .i64 ty, .int .i64 0, .int .i64 0, .int .i64 0, .int .i64 sz, .slice av args.length cv, .slice none 0 0, .slice none 0 0])) ∧ Below W.heap.size W w') := ⟨fun W hB0 => have hB := bel_trans B0 hB0; (faceAl op ty sz (.slice aa args.length ca') args W (ha.keep hB) hn).mono (fun e w' ⟨va', e1, e2, e3⟩ => by
    obtain ⟨av, cv, rfl⟩ := ops_shape e2
    exact ⟨⟨av, cv, e1⟩, e3⟩)⟩
  have CN : Kp (∀ W (av : Option Addr) (cv : Nat), Calls Tryz.prog 189 #[.agg #[.int .i64 op, .int .i64 ty, .int .i64 fl, .int .i64 pr, .int .i64 ca, .int .i64 sz, .slice aa args.length ca', .slice al bl.length cl, .slice as' ws.length cs], .agg #[.int .i64 op, .int .i64 ty, .int .i64 0, .int .i64 0, .int .i64 0, .int .i64 sz, .slice av args.length cv, .slice none 0 0, .slice none 0 0]] W fun e w' => e = .returned (.bool (nmrB fl pr ca sz 0 0 0 sz bl.length ws.length 0 0)) ∧ Below W.heap.size W w') := ⟨fun W av cv => hasNM op ty fl pr ca sz op ty 0 0 0 sz aa al as' av none none args.length bl.length ws.length args.length 0 0 ca' cl cs cv 0 0 W (by omega) (by omega) (by omega) (by omega)⟩
  have CW1 : Kp (∀ W, Below W0.heap.size W0 W → Calls Tryz.prog 271 #[.agg #[.int .i64 op, .int .i64 ty, (.slice aa args.length ca'), .int .i64 sz], scV (.slice a1 gs.length c1) (.slice a2 fs.length c2) name link (.slice a3 params.length c3) res (.slice a4 blocks.length c4) (.slice a5 ts.length c5) bk] W fun e w' => e = .returned (.bool (decide (bk = 0) && (decide (1 ≤ sz) && decide (sz ≤ 256)))) ∧ Below W.heap.size W w') := ⟨fun W hB0 => have hB := bel_trans B0 hB0; alOwn op ty sz aa args.length ca' a1 a2 a3 a4 a5 gs.length fs.length params.length blocks.length ts.length c1 c2 c3 c4 c5 name link res bk W⟩
  have CR : Kp (∀ W, Below W0.heap.size W0 W → Calls Tryz.prog 260 #[.agg #[.int .i64 op, .int .i64 ty, (.slice aa args.length ca')], scV (.slice a1 gs.length c1) (.slice a2 fs.length c2) name link (.slice a3 params.length c3) res (.slice a4 blocks.length c4) (.slice a5 ts.length c5) bk] W fun e w' => e = .returned (.bool (resB op ty)) ∧ Below W.heap.size W w') := ⟨fun W hB0 => have hB := bel_trans B0 hB0; hdRes op ty aa args.length ca' a1 a2 a3 a4 a5 gs.length fs.length params.length blocks.length ts.length c1 c2 c3 c4 c5 name link res bk W (hw.below hB)⟩
  have CA : Kp (∀ W, Calls Tryz.prog 256 #[hdV op ty (.slice aa args.length ca')] W fun e w' => e = .returned (.slice aa args.length ca') ∧ Below W.heap.size W w') := ⟨fun W => hdArgs op ty aa args.length ca' W⟩
  have WA : Kp ((decide (bk = 0) && (decide (1 ≤ sz) && decide (sz ≤ 256))) = true → ∀ W, Below W0.heap.size W0 W → Calls Tryz.prog 262 #[.agg #[.int .i64 op, .int .i64 ty, (.slice aa args.length ca')], scV (.slice a1 gs.length c1) (.slice a2 fs.length c2) name link (.slice a3 params.length c3) res (.slice a4 blocks.length c4) (.slice a5 ts.length c5) bk] W fun e w' => (∃ aw cw, e = .returned (.slice aw (wanH op ty args res).length cw)) ∧ Below W.heap.size W w') := ⟨fun hj W hB0 => have hB := bel_trans B0 hB0; (hdWan op ty (.slice aa args.length ca') args a1 a2 a3 a4 a5 gs.length fs.length params.length blocks.length ts.length c1 c2 c3 c4 c5 name link res bk W (ha.keep hB) (hw.below hB)).mono (fun e w' ⟨v, e1, e2, e3⟩ => by
    obtain ⟨aw, cw, rfl⟩ := e2.shape
    exact ⟨⟨aw, cw, e1⟩, e3⟩)⟩
  have SK : Kp (∀ W, Below W0.heap.size W0 W → (fun W' => Below W0.heap.size W0 W' ∧ W'.cell? ⟨w.heap.size, 0, none⟩ = some (.slice a1 gs.length c1) ∧ W'.cell? ⟨w.heap.size, 1, none⟩ = some (.slice a2 fs.length c2) ∧ W'.cell? ⟨w.heap.size, 2, none⟩ = some (.string name) ∧ W'.cell? ⟨w.heap.size, 3, none⟩ = some (.int .i64 link) ∧ W'.cell? ⟨w.heap.size, 4, none⟩ = some (.slice a3 params.length c3) ∧ W'.cell? ⟨w.heap.size, 5, none⟩ = some (.int .i64 res) ∧ W'.cell? ⟨w.heap.size, 6, none⟩ = some (.slice a4 blocks.length c4) ∧ W'.cell? ⟨w.heap.size, 7, none⟩ = some (.slice a5 ts.length c5) ∧ W'.cell? ⟨w.heap.size, 8, none⟩ = some (.int .i64 bk) ∧ W'.cell? ⟨w.heap.size + 1, 0, none⟩ = some (.int .i64 op) ∧ W'.cell? ⟨w.heap.size + 1, 1, none⟩ = some (.int .i64 ty) ∧ W'.cell? ⟨w.heap.size + 1, 2, none⟩ = some (.int .i64 fl) ∧ W'.cell? ⟨w.heap.size + 1, 3, none⟩ = some (.int .i64 pr) ∧ W'.cell? ⟨w.heap.size + 1, 4, none⟩ = some (.int .i64 ca) ∧ W'.cell? ⟨w.heap.size + 1, 5, none⟩ = some (.int .i64 sz) ∧ W'.cell? ⟨w.heap.size + 1, 6, none⟩ = some (.slice aa args.length ca') ∧ W'.cell? ⟨w.heap.size + 1, 7, none⟩ = some (.slice al bl.length cl) ∧ W'.cell? ⟨w.heap.size + 1, 8, none⟩ = some (.slice as' ws.length cs)) W) := ⟨fun W hB => ⟨hB, cells_at (kept_at sC0 hB) rfl, cells_at (kept_at sC0 hB) rfl, cells_at (kept_at sC0 hB) rfl, cells_at (kept_at sC0 hB) rfl, cells_at (kept_at sC0 hB) rfl, cells_at (kept_at sC0 hB) rfl, cells_at (kept_at sC0 hB) rfl, cells_at (kept_at sC0 hB) rfl, cells_at (kept_at sC0 hB) rfl, cells_at (kept_at iC0 hB) rfl, cells_at (kept_at iC0 hB) rfl, cells_at (kept_at iC0 hB) rfl, cells_at (kept_at iC0 hB) rfl, cells_at (kept_at iC0 hB) rfl, cells_at (kept_at iC0 hB) rfl, cells_at (kept_at iC0 hB) rfl, cells_at (kept_at iC0 hB) rfl, cells_at (kept_at iC0 hB) rfl⟩⟩
  replace hW := Kp.mk hW
  obtain ⟨NMv, hNM⟩ : ∃ NMv, NMv = (nmrB fl pr ca sz 0 0 0 sz bl.length ws.length 0 0) := ⟨_, rfl⟩
  rw [← hNM] at CN ⊢
  obtain ⟨wn, hwn⟩ : ∃ wn, wn = (wanH op ty args res).length := ⟨_, rfl⟩
  rw [← hwn] at WA ⊢
  obtain ⟨REv, hRE⟩ : ∃ REv, REv = (resB op ty) := ⟨_, rfl⟩
  rw [← hRE] at CR ⊢
  obtain ⟨OWv, hOW⟩ : ∃ OWv, OWv = (decide (bk = 0) && (decide (1 ≤ sz) && decide (sz ≤ 256))) := ⟨_, rfl⟩
  rw [← hOW] at CW1 WA ⊢
  have hb0 := (Below.refl W0.heap.size W0).drew
  clear hNM hOW hRE hwn sC0 iC0 ha hl hs hm hw
  cases NMv with
  | false =>
    clear CW1 CR CA WA
    go_enter Tryz.func148, Tryz.ntmps148
    go_upto_region 1 with fail
    rw [← hW.out]
    refine wp_region_held_drew (S := (fun W' => Below W0.heap.size W0 W' ∧ W'.cell? ⟨w.heap.size, 0, none⟩ = some (.slice a1 gs.length c1) ∧ W'.cell? ⟨w.heap.size, 1, none⟩ = some (.slice a2 fs.length c2) ∧ W'.cell? ⟨w.heap.size, 2, none⟩ = some (.string name) ∧ W'.cell? ⟨w.heap.size, 3, none⟩ = some (.int .i64 link) ∧ W'.cell? ⟨w.heap.size, 4, none⟩ = some (.slice a3 params.length c3) ∧ W'.cell? ⟨w.heap.size, 5, none⟩ = some (.int .i64 res) ∧ W'.cell? ⟨w.heap.size, 6, none⟩ = some (.slice a4 blocks.length c4) ∧ W'.cell? ⟨w.heap.size, 7, none⟩ = some (.slice a5 ts.length c5) ∧ W'.cell? ⟨w.heap.size, 8, none⟩ = some (.int .i64 bk) ∧ W'.cell? ⟨w.heap.size + 1, 0, none⟩ = some (.int .i64 op) ∧ W'.cell? ⟨w.heap.size + 1, 1, none⟩ = some (.int .i64 ty) ∧ W'.cell? ⟨w.heap.size + 1, 2, none⟩ = some (.int .i64 fl) ∧ W'.cell? ⟨w.heap.size + 1, 3, none⟩ = some (.int .i64 pr) ∧ W'.cell? ⟨w.heap.size + 1, 4, none⟩ = some (.int .i64 ca) ∧ W'.cell? ⟨w.heap.size + 1, 5, none⟩ = some (.int .i64 sz) ∧ W'.cell? ⟨w.heap.size + 1, 6, none⟩ = some (.slice aa args.length ca') ∧ W'.cell? ⟨w.heap.size + 1, 7, none⟩ = some (.slice al bl.length cl) ∧ W'.cell? ⟨w.heap.size + 1, 8, none⟩ = some (.slice as' ws.length cs))) (by kernel_rfl) (SK.out _ hb0) (fun hHeld => ?_)
    refine wpAnyH_take (i := 0) (v := .agg #[.int .i64 op, .int .i64 ty, .int .i64 fl, .int .i64 pr, .int .i64 ca, .int .i64 sz, .slice aa args.length ca', .slice al bl.length cl, .slice as' ws.length cs]) rfl (by kernel_rfl) (by kernel_rfl) (by kernel_rfl) (fun _ _ _ h => h) (Or.inl ⟨by rfl, fun wq hSw => by (try dsimp only at hSw); go_simp⟩) hHeld ?_
    try simp only [Act.put, yA, yB, yC, yD, yE, yF]
    refine wpAnyH_take (i := 1) (v := kAl op ty (.slice aa args.length ca') sz) rfl (by kernel_rfl) (by kernel_rfl) (by kernel_rfl) (fun _ _ _ h => h) (Or.inl ⟨by rfl, fun wq hSw => by (try dsimp only at hSw); go_simp⟩) hHeld ?_
    try simp only [Act.put, yA, yB, yC, yD, yE, yF]
    refine wpAnyH_ready (rs := [2]) (by kernel_rfl) (by simp) ?_
    refine AllReadyH.cons rfl (fun K hK => ?_) AllReadyH.nil
    go_simp
    refine (CF.out _ hb0).mono ?_
    rintro e w1 ⟨⟨av, cv, rfl⟩, hb⟩
    have hb1 := hb0.trans hb
    clear hb
    refine hK.out _ _ (SK.out _ hb1) (fun hHeld => ?_)
    clear hK K
    try simp only [Act.put, yA, yB, yC, yD, yE, yF]
    refine wpAnyH_ready (rs := [3]) (by kernel_rfl) (by simp) ?_
    refine AllReadyH.cons rfl (fun K hK => ?_) AllReadyH.nil
    go_simp
    refine (CN.out _ _ _).mono ?_
    rintro e w2 ⟨rfl, hb⟩
    have hb2 := bel_trans hb1 hb
    clear hb
    refine hK.out _ _ (SK.out _ hb2) (fun hHeld => ?_)
    clear hK K
    try simp only [Act.put, yA, yB, yC, yD, yE, yF]
    refine wpAnyH_take (i := 4) (v := .bool false) rfl (by kernel_rfl) (by kernel_rfl) (by kernel_rfl) (fun _ _ _ h => h) (Or.inl ⟨by rfl, fun wq hSw => by (try dsimp only at hSw); go_simp⟩) hHeld ?_
    try simp only [Act.put, yA, yB, yC, yD, yE, yF]
    refine wpAnyH_take (i := 5) (v := undef) rfl (by kernel_rfl) (by kernel_rfl) (by kernel_rfl) (fun _ _ _ h => h) (Or.inr ⟨by rfl, rfl⟩) hHeld ?_
    try simp only [Act.put, yA, yB, yC, yD, yE, yF]
    refine wpAnyH_take (i := 6) (v := undef) rfl (by kernel_rfl) (by kernel_rfl) (by kernel_rfl) (fun _ _ _ h => h) (Or.inr ⟨by rfl, rfl⟩) hHeld ?_
    try simp only [Act.put, yA, yB, yC, yD, yE, yF]
    refine wpAnyH_take (i := 7) (v := undef) rfl (by kernel_rfl) (by kernel_rfl) (by kernel_rfl) (fun _ _ _ h => h) (Or.inr ⟨by rfl, rfl⟩) hHeld ?_
    try simp only [Act.put, yA, yB, yC, yD, yE, yF]
    refine wpAnyH_take (i := 8) (v := .bool false) rfl (by kernel_rfl) (by kernel_rfl) (by kernel_rfl) (fun _ _ _ h => h) (Or.inl ⟨by rfl, fun wq hSw => by (try dsimp only at hSw); go_simp⟩) hHeld ?_
    try simp only [Act.put, yA, yB, yC, yD, yE, yF]
    refine wpAnyH_take (i := 9) (v := .bool false) rfl (by kernel_rfl) (by kernel_rfl) (by kernel_rfl) (fun _ _ _ h => h) (Or.inl ⟨by rfl, fun wq hSw => by (try dsimp only at hSw); go_simp⟩) hHeld ?_
    try simp only [Act.put, yA, yB, yC, yD, yE, yF]
    refine wpAnyH_take (i := 10) (v := undef) rfl (by kernel_rfl) (by kernel_rfl) (by kernel_rfl) (fun _ _ _ h => h) (Or.inr ⟨by rfl, rfl⟩) hHeld ?_
    try simp only [Act.put, yA, yB, yC, yD, yE, yF]
    refine wpAnyH_take (i := 11) (v := undef) rfl (by kernel_rfl) (by kernel_rfl) (by kernel_rfl) (fun _ _ _ h => h) (Or.inr ⟨by rfl, rfl⟩) hHeld ?_
    try simp only [Act.put, yA, yB, yC, yD, yE, yF]
    refine wpAnyH_take (i := 12) (v := undef) rfl (by kernel_rfl) (by kernel_rfl) (by kernel_rfl) (fun _ _ _ h => h) (Or.inr ⟨by rfl, rfl⟩) hHeld ?_
    try simp only [Act.put, yA, yB, yC, yD, yE, yF]
    refine wpAnyH_take (i := 13) (v := .bool false) rfl (by kernel_rfl) (by kernel_rfl) (by kernel_rfl) (fun _ _ _ h => h) (Or.inl ⟨by rfl, fun wq hSw => by (try dsimp only at hSw); go_simp⟩) hHeld ?_
    try simp only [Act.put, yA, yB, yC, yD, yE, yF]
    refine wpAnyH_take (i := 14) (v := .bool false) rfl (by kernel_rfl) (by kernel_rfl) (by kernel_rfl) (fun _ _ _ h => h) (Or.inl ⟨by rfl, fun wq hSw => by (try dsimp only at hSw); go_simp⟩) hHeld ?_
    try simp only [Act.put, yA, yB, yC, yD, yE, yF]
    refine wpAnyH_take (i := 15) (v := undef) rfl (by kernel_rfl) (by kernel_rfl) (by kernel_rfl) (fun _ _ _ h => h) (Or.inr ⟨by rfl, rfl⟩) hHeld ?_
    try simp only [Act.put, yA, yB, yC, yD, yE, yF]
    refine wpAnyH_take (i := 16) (v := undef) rfl (by kernel_rfl) (by kernel_rfl) (by kernel_rfl) (fun _ _ _ h => h) (Or.inr ⟨by rfl, rfl⟩) hHeld ?_
    try simp only [Act.put, yA, yB, yC, yD, yE, yF]
    refine wpAnyH_take (i := 17) (v := undef) rfl (by kernel_rfl) (by kernel_rfl) (by kernel_rfl) (fun _ _ _ h => h) (Or.inr ⟨by rfl, rfl⟩) hHeld ?_
    try simp only [Act.put, yA, yB, yC, yD, yE, yF]
    refine wpAnyH_take (i := 18) (v := undef) rfl (by kernel_rfl) (by kernel_rfl) (by kernel_rfl) (fun _ _ _ h => h) (Or.inr ⟨by rfl, rfl⟩) hHeld ?_
    try simp only [Act.put, yA, yB, yC, yD, yE, yF]
    refine wpAnyH_take (i := 19) (v := undef) rfl (by kernel_rfl) (by kernel_rfl) (by kernel_rfl) (fun _ _ _ h => h) (Or.inr ⟨by rfl, rfl⟩) hHeld ?_
    try simp only [Act.put, yA, yB, yC, yD, yE, yF]
    refine wpAnyH_take (i := 20) (v := undef) rfl (by kernel_rfl) (by kernel_rfl) (by kernel_rfl) (fun _ _ _ h => h) (Or.inr ⟨by rfl, rfl⟩) hHeld ?_
    try simp only [Act.put, yA, yB, yC, yD, yE, yF]
    refine wpAnyH_take (i := 21) (v := undef) rfl (by kernel_rfl) (by kernel_rfl) (by kernel_rfl) (fun _ _ _ h => h) (Or.inr ⟨by rfl, rfl⟩) hHeld ?_
    try simp only [Act.put, yA, yB, yC, yD, yE, yF]
    refine wpAnyH_take (i := 22) (v := undef) rfl (by kernel_rfl) (by kernel_rfl) (by kernel_rfl) (fun _ _ _ h => h) (Or.inr ⟨by rfl, rfl⟩) hHeld ?_
    try simp only [Act.put, yA, yB, yC, yD, yE, yF]
    refine wpAnyH_take (i := 23) (v := .bool false) rfl (by kernel_rfl) (by kernel_rfl) (by kernel_rfl) (fun _ _ _ h => h) (Or.inl ⟨by rfl, fun wq hSw => by (try dsimp only at hSw); go_simp⟩) hHeld ?_
    try simp only [Act.put, yA, yB, yC, yD, yE, yF]
    refine wpAnyH_take (i := 24) (v := .bool false) rfl (by kernel_rfl) (by kernel_rfl) (by kernel_rfl) (fun _ _ _ h => h) (Or.inl ⟨by rfl, fun wq hSw => by (try dsimp only at hSw); go_simp⟩) hHeld ?_
    try simp only [Act.put, yA, yB, yC, yD, yE, yF]
    refine wpAnyH_done (by kernel_rfl) ?_ _
    go_wp2_with fail
    go_ret
    exact ⟨rfl, bel_trans B0 hb2⟩
  | true =>
    cases OWv with
    | false =>
      clear CR CA WA
      go_enter Tryz.func148, Tryz.ntmps148
      go_upto_region 1 with fail
      rw [← hW.out]
      refine wp_region_held_drew (S := (fun W' => Below W0.heap.size W0 W' ∧ W'.cell? ⟨w.heap.size, 0, none⟩ = some (.slice a1 gs.length c1) ∧ W'.cell? ⟨w.heap.size, 1, none⟩ = some (.slice a2 fs.length c2) ∧ W'.cell? ⟨w.heap.size, 2, none⟩ = some (.string name) ∧ W'.cell? ⟨w.heap.size, 3, none⟩ = some (.int .i64 link) ∧ W'.cell? ⟨w.heap.size, 4, none⟩ = some (.slice a3 params.length c3) ∧ W'.cell? ⟨w.heap.size, 5, none⟩ = some (.int .i64 res) ∧ W'.cell? ⟨w.heap.size, 6, none⟩ = some (.slice a4 blocks.length c4) ∧ W'.cell? ⟨w.heap.size, 7, none⟩ = some (.slice a5 ts.length c5) ∧ W'.cell? ⟨w.heap.size, 8, none⟩ = some (.int .i64 bk) ∧ W'.cell? ⟨w.heap.size + 1, 0, none⟩ = some (.int .i64 op) ∧ W'.cell? ⟨w.heap.size + 1, 1, none⟩ = some (.int .i64 ty) ∧ W'.cell? ⟨w.heap.size + 1, 2, none⟩ = some (.int .i64 fl) ∧ W'.cell? ⟨w.heap.size + 1, 3, none⟩ = some (.int .i64 pr) ∧ W'.cell? ⟨w.heap.size + 1, 4, none⟩ = some (.int .i64 ca) ∧ W'.cell? ⟨w.heap.size + 1, 5, none⟩ = some (.int .i64 sz) ∧ W'.cell? ⟨w.heap.size + 1, 6, none⟩ = some (.slice aa args.length ca') ∧ W'.cell? ⟨w.heap.size + 1, 7, none⟩ = some (.slice al bl.length cl) ∧ W'.cell? ⟨w.heap.size + 1, 8, none⟩ = some (.slice as' ws.length cs))) (by kernel_rfl) (SK.out _ hb0) (fun hHeld => ?_)
      refine wpAnyH_take (i := 0) (v := .agg #[.int .i64 op, .int .i64 ty, .int .i64 fl, .int .i64 pr, .int .i64 ca, .int .i64 sz, .slice aa args.length ca', .slice al bl.length cl, .slice as' ws.length cs]) rfl (by kernel_rfl) (by kernel_rfl) (by kernel_rfl) (fun _ _ _ h => h) (Or.inl ⟨by rfl, fun wq hSw => by (try dsimp only at hSw); go_simp⟩) hHeld ?_
      try simp only [Act.put, yA, yB, yC, yD, yE, yF]
      refine wpAnyH_take (i := 1) (v := kAl op ty (.slice aa args.length ca') sz) rfl (by kernel_rfl) (by kernel_rfl) (by kernel_rfl) (fun _ _ _ h => h) (Or.inl ⟨by rfl, fun wq hSw => by (try dsimp only at hSw); go_simp⟩) hHeld ?_
      try simp only [Act.put, yA, yB, yC, yD, yE, yF]
      refine wpAnyH_ready (rs := [2]) (by kernel_rfl) (by simp) ?_
      refine AllReadyH.cons rfl (fun K hK => ?_) AllReadyH.nil
      go_simp
      refine (CF.out _ hb0).mono ?_
      rintro e w1 ⟨⟨av, cv, rfl⟩, hb⟩
      have hb1 := hb0.trans hb
      clear hb
      refine hK.out _ _ (SK.out _ hb1) (fun hHeld => ?_)
      clear hK K
      try simp only [Act.put, yA, yB, yC, yD, yE, yF]
      refine wpAnyH_ready (rs := [3]) (by kernel_rfl) (by simp) ?_
      refine AllReadyH.cons rfl (fun K hK => ?_) AllReadyH.nil
      go_simp
      refine (CN.out _ _ _).mono ?_
      rintro e w2 ⟨rfl, hb⟩
      have hb2 := bel_trans hb1 hb
      clear hb
      refine hK.out _ _ (SK.out _ hb2) (fun hHeld => ?_)
      clear hK K
      try simp only [Act.put, yA, yB, yC, yD, yE, yF]
      refine wpAnyH_take (i := 4) (v := .bool true) rfl (by kernel_rfl) (by kernel_rfl) (by kernel_rfl) (fun _ _ _ h => h) (Or.inl ⟨by rfl, fun wq hSw => by (try dsimp only at hSw); go_simp⟩) hHeld ?_
      try simp only [Act.put, yA, yB, yC, yD, yE, yF]
      refine wpAnyH_take (i := 5) (v := kAl op ty (.slice aa args.length ca') sz) rfl (by kernel_rfl) (by kernel_rfl) (by kernel_rfl) (fun _ _ _ h => h) (Or.inl ⟨by rfl, fun wq hSw => by (try dsimp only at hSw); go_simp⟩) hHeld ?_
      try simp only [Act.put, yA, yB, yC, yD, yE, yF]
      refine wpAnyH_take (i := 6) (v := scV (.slice a1 gs.length c1) (.slice a2 fs.length c2) name link (.slice a3 params.length c3) res (.slice a4 blocks.length c4) (.slice a5 ts.length c5) bk) rfl (by kernel_rfl) (by kernel_rfl) (by kernel_rfl) (fun _ _ _ h => h) (Or.inl ⟨by rfl, fun wq hSw => by (try dsimp only at hSw); go_simp⟩) hHeld ?_
      try simp only [Act.put, yA, yB, yC, yD, yE, yF]
      refine wpAnyH_ready (rs := [7]) (by kernel_rfl) (by simp) ?_
      refine AllReadyH.cons rfl (fun K hK => ?_) AllReadyH.nil
      go_simp
      refine (CW1.out _ hb2).mono ?_
      rintro e w3 ⟨rfl, hb⟩
      have hb3 := bel_trans hb2 hb
      clear hb
      refine hK.out _ _ (SK.out _ hb3) (fun hHeld => ?_)
      clear hK K
      try simp only [Act.put, yA, yB, yC, yD, yE, yF]
      refine wpAnyH_take (i := 8) (v := .bool false) rfl (by kernel_rfl) (by kernel_rfl) (by kernel_rfl) (fun _ _ _ h => h) (Or.inl ⟨by rfl, fun wq hSw => by (try dsimp only at hSw); go_simp⟩) hHeld ?_
      try simp only [Act.put, yA, yB, yC, yD, yE, yF]
      refine wpAnyH_take (i := 9) (v := .bool false) rfl (by kernel_rfl) (by kernel_rfl) (by kernel_rfl) (fun _ _ _ h => h) (Or.inl ⟨by rfl, fun wq hSw => by (try dsimp only at hSw); go_simp⟩) hHeld ?_
      try simp only [Act.put, yA, yB, yC, yD, yE, yF]
      refine wpAnyH_take (i := 10) (v := undef) rfl (by kernel_rfl) (by kernel_rfl) (by kernel_rfl) (fun _ _ _ h => h) (Or.inr ⟨by rfl, rfl⟩) hHeld ?_
      try simp only [Act.put, yA, yB, yC, yD, yE, yF]
      refine wpAnyH_take (i := 11) (v := undef) rfl (by kernel_rfl) (by kernel_rfl) (by kernel_rfl) (fun _ _ _ h => h) (Or.inr ⟨by rfl, rfl⟩) hHeld ?_
      try simp only [Act.put, yA, yB, yC, yD, yE, yF]
      refine wpAnyH_take (i := 12) (v := undef) rfl (by kernel_rfl) (by kernel_rfl) (by kernel_rfl) (fun _ _ _ h => h) (Or.inr ⟨by rfl, rfl⟩) hHeld ?_
      try simp only [Act.put, yA, yB, yC, yD, yE, yF]
      refine wpAnyH_take (i := 13) (v := .bool false) rfl (by kernel_rfl) (by kernel_rfl) (by kernel_rfl) (fun _ _ _ h => h) (Or.inl ⟨by rfl, fun wq hSw => by (try dsimp only at hSw); go_simp⟩) hHeld ?_
      try simp only [Act.put, yA, yB, yC, yD, yE, yF]
      refine wpAnyH_take (i := 14) (v := .bool false) rfl (by kernel_rfl) (by kernel_rfl) (by kernel_rfl) (fun _ _ _ h => h) (Or.inl ⟨by rfl, fun wq hSw => by (try dsimp only at hSw); go_simp⟩) hHeld ?_
      try simp only [Act.put, yA, yB, yC, yD, yE, yF]
      refine wpAnyH_take (i := 15) (v := undef) rfl (by kernel_rfl) (by kernel_rfl) (by kernel_rfl) (fun _ _ _ h => h) (Or.inr ⟨by rfl, rfl⟩) hHeld ?_
      try simp only [Act.put, yA, yB, yC, yD, yE, yF]
      refine wpAnyH_take (i := 16) (v := undef) rfl (by kernel_rfl) (by kernel_rfl) (by kernel_rfl) (fun _ _ _ h => h) (Or.inr ⟨by rfl, rfl⟩) hHeld ?_
      try simp only [Act.put, yA, yB, yC, yD, yE, yF]
      refine wpAnyH_take (i := 17) (v := undef) rfl (by kernel_rfl) (by kernel_rfl) (by kernel_rfl) (fun _ _ _ h => h) (Or.inr ⟨by rfl, rfl⟩) hHeld ?_
      try simp only [Act.put, yA, yB, yC, yD, yE, yF]
      refine wpAnyH_take (i := 18) (v := undef) rfl (by kernel_rfl) (by kernel_rfl) (by kernel_rfl) (fun _ _ _ h => h) (Or.inr ⟨by rfl, rfl⟩) hHeld ?_
      try simp only [Act.put, yA, yB, yC, yD, yE, yF]
      refine wpAnyH_take (i := 19) (v := undef) rfl (by kernel_rfl) (by kernel_rfl) (by kernel_rfl) (fun _ _ _ h => h) (Or.inr ⟨by rfl, rfl⟩) hHeld ?_
      try simp only [Act.put, yA, yB, yC, yD, yE, yF]
      refine wpAnyH_take (i := 20) (v := undef) rfl (by kernel_rfl) (by kernel_rfl) (by kernel_rfl) (fun _ _ _ h => h) (Or.inr ⟨by rfl, rfl⟩) hHeld ?_
      try simp only [Act.put, yA, yB, yC, yD, yE, yF]
      refine wpAnyH_take (i := 21) (v := undef) rfl (by kernel_rfl) (by kernel_rfl) (by kernel_rfl) (fun _ _ _ h => h) (Or.inr ⟨by rfl, rfl⟩) hHeld ?_
      try simp only [Act.put, yA, yB, yC, yD, yE, yF]
      refine wpAnyH_take (i := 22) (v := undef) rfl (by kernel_rfl) (by kernel_rfl) (by kernel_rfl) (fun _ _ _ h => h) (Or.inr ⟨by rfl, rfl⟩) hHeld ?_
      try simp only [Act.put, yA, yB, yC, yD, yE, yF]
      refine wpAnyH_take (i := 23) (v := .bool false) rfl (by kernel_rfl) (by kernel_rfl) (by kernel_rfl) (fun _ _ _ h => h) (Or.inl ⟨by rfl, fun wq hSw => by (try dsimp only at hSw); go_simp⟩) hHeld ?_
      try simp only [Act.put, yA, yB, yC, yD, yE, yF]
      refine wpAnyH_take (i := 24) (v := .bool false) rfl (by kernel_rfl) (by kernel_rfl) (by kernel_rfl) (fun _ _ _ h => h) (Or.inl ⟨by rfl, fun wq hSw => by (try dsimp only at hSw); go_simp⟩) hHeld ?_
      try simp only [Act.put, yA, yB, yC, yD, yE, yF]
      refine wpAnyH_done (by kernel_rfl) ?_ _
      go_wp2_with fail
      go_ret
      exact ⟨rfl, bel_trans B0 hb3⟩
    | true =>
      have WA' := Kp.mk (WA.out rfl)
      clear WA
      cases REv with
      | false =>
        clear CA WA'
        go_enter Tryz.func148, Tryz.ntmps148
        go_upto_region 1 with fail
        rw [← hW.out]
        refine wp_region_held_drew (S := (fun W' => Below W0.heap.size W0 W' ∧ W'.cell? ⟨w.heap.size, 0, none⟩ = some (.slice a1 gs.length c1) ∧ W'.cell? ⟨w.heap.size, 1, none⟩ = some (.slice a2 fs.length c2) ∧ W'.cell? ⟨w.heap.size, 2, none⟩ = some (.string name) ∧ W'.cell? ⟨w.heap.size, 3, none⟩ = some (.int .i64 link) ∧ W'.cell? ⟨w.heap.size, 4, none⟩ = some (.slice a3 params.length c3) ∧ W'.cell? ⟨w.heap.size, 5, none⟩ = some (.int .i64 res) ∧ W'.cell? ⟨w.heap.size, 6, none⟩ = some (.slice a4 blocks.length c4) ∧ W'.cell? ⟨w.heap.size, 7, none⟩ = some (.slice a5 ts.length c5) ∧ W'.cell? ⟨w.heap.size, 8, none⟩ = some (.int .i64 bk) ∧ W'.cell? ⟨w.heap.size + 1, 0, none⟩ = some (.int .i64 op) ∧ W'.cell? ⟨w.heap.size + 1, 1, none⟩ = some (.int .i64 ty) ∧ W'.cell? ⟨w.heap.size + 1, 2, none⟩ = some (.int .i64 fl) ∧ W'.cell? ⟨w.heap.size + 1, 3, none⟩ = some (.int .i64 pr) ∧ W'.cell? ⟨w.heap.size + 1, 4, none⟩ = some (.int .i64 ca) ∧ W'.cell? ⟨w.heap.size + 1, 5, none⟩ = some (.int .i64 sz) ∧ W'.cell? ⟨w.heap.size + 1, 6, none⟩ = some (.slice aa args.length ca') ∧ W'.cell? ⟨w.heap.size + 1, 7, none⟩ = some (.slice al bl.length cl) ∧ W'.cell? ⟨w.heap.size + 1, 8, none⟩ = some (.slice as' ws.length cs))) (by kernel_rfl) (SK.out _ hb0) (fun hHeld => ?_)
        refine wpAnyH_take (i := 0) (v := .agg #[.int .i64 op, .int .i64 ty, .int .i64 fl, .int .i64 pr, .int .i64 ca, .int .i64 sz, .slice aa args.length ca', .slice al bl.length cl, .slice as' ws.length cs]) rfl (by kernel_rfl) (by kernel_rfl) (by kernel_rfl) (fun _ _ _ h => h) (Or.inl ⟨by rfl, fun wq hSw => by (try dsimp only at hSw); go_simp⟩) hHeld ?_
        try simp only [Act.put, yA, yB, yC, yD, yE, yF]
        refine wpAnyH_take (i := 1) (v := kAl op ty (.slice aa args.length ca') sz) rfl (by kernel_rfl) (by kernel_rfl) (by kernel_rfl) (fun _ _ _ h => h) (Or.inl ⟨by rfl, fun wq hSw => by (try dsimp only at hSw); go_simp⟩) hHeld ?_
        try simp only [Act.put, yA, yB, yC, yD, yE, yF]
        refine wpAnyH_ready (rs := [2]) (by kernel_rfl) (by simp) ?_
        refine AllReadyH.cons rfl (fun K hK => ?_) AllReadyH.nil
        go_simp
        refine (CF.out _ hb0).mono ?_
        rintro e w1 ⟨⟨av, cv, rfl⟩, hb⟩
        have hb1 := hb0.trans hb
        clear hb
        refine hK.out _ _ (SK.out _ hb1) (fun hHeld => ?_)
        clear hK K
        try simp only [Act.put, yA, yB, yC, yD, yE, yF]
        refine wpAnyH_ready (rs := [3]) (by kernel_rfl) (by simp) ?_
        refine AllReadyH.cons rfl (fun K hK => ?_) AllReadyH.nil
        go_simp
        refine (CN.out _ _ _).mono ?_
        rintro e w2 ⟨rfl, hb⟩
        have hb2 := bel_trans hb1 hb
        clear hb
        refine hK.out _ _ (SK.out _ hb2) (fun hHeld => ?_)
        clear hK K
        try simp only [Act.put, yA, yB, yC, yD, yE, yF]
        refine wpAnyH_take (i := 4) (v := .bool true) rfl (by kernel_rfl) (by kernel_rfl) (by kernel_rfl) (fun _ _ _ h => h) (Or.inl ⟨by rfl, fun wq hSw => by (try dsimp only at hSw); go_simp⟩) hHeld ?_
        try simp only [Act.put, yA, yB, yC, yD, yE, yF]
        refine wpAnyH_take (i := 5) (v := kAl op ty (.slice aa args.length ca') sz) rfl (by kernel_rfl) (by kernel_rfl) (by kernel_rfl) (fun _ _ _ h => h) (Or.inl ⟨by rfl, fun wq hSw => by (try dsimp only at hSw); go_simp⟩) hHeld ?_
        try simp only [Act.put, yA, yB, yC, yD, yE, yF]
        refine wpAnyH_take (i := 6) (v := scV (.slice a1 gs.length c1) (.slice a2 fs.length c2) name link (.slice a3 params.length c3) res (.slice a4 blocks.length c4) (.slice a5 ts.length c5) bk) rfl (by kernel_rfl) (by kernel_rfl) (by kernel_rfl) (fun _ _ _ h => h) (Or.inl ⟨by rfl, fun wq hSw => by (try dsimp only at hSw); go_simp⟩) hHeld ?_
        try simp only [Act.put, yA, yB, yC, yD, yE, yF]
        refine wpAnyH_ready (rs := [7]) (by kernel_rfl) (by simp) ?_
        refine AllReadyH.cons rfl (fun K hK => ?_) AllReadyH.nil
        go_simp
        refine (CW1.out _ hb2).mono ?_
        rintro e w3 ⟨rfl, hb⟩
        have hb3 := bel_trans hb2 hb
        clear hb
        refine hK.out _ _ (SK.out _ hb3) (fun hHeld => ?_)
        clear hK K
        try simp only [Act.put, yA, yB, yC, yD, yE, yF]
        refine wpAnyH_take (i := 8) (v := .bool true) rfl (by kernel_rfl) (by kernel_rfl) (by kernel_rfl) (fun _ _ _ h => h) (Or.inl ⟨by rfl, fun wq hSw => by (try dsimp only at hSw); go_simp⟩) hHeld ?_
        try simp only [Act.put, yA, yB, yC, yD, yE, yF]
        refine wpAnyH_take (i := 9) (v := .bool true) rfl (by kernel_rfl) (by kernel_rfl) (by kernel_rfl) (fun _ _ _ h => h) (Or.inl ⟨by rfl, fun wq hSw => by (try dsimp only at hSw); go_simp⟩) hHeld ?_
        try simp only [Act.put, yA, yB, yC, yD, yE, yF]
        refine wpAnyH_take (i := 10) (v := kAl op ty (.slice aa args.length ca') sz) rfl (by kernel_rfl) (by kernel_rfl) (by kernel_rfl) (fun _ _ _ h => h) (Or.inl ⟨by rfl, fun wq hSw => by (try dsimp only at hSw); go_simp⟩) hHeld ?_
        try simp only [Act.put, yA, yB, yC, yD, yE, yF]
        refine wpAnyH_take (i := 11) (v := scV (.slice a1 gs.length c1) (.slice a2 fs.length c2) name link (.slice a3 params.length c3) res (.slice a4 blocks.length c4) (.slice a5 ts.length c5) bk) rfl (by kernel_rfl) (by kernel_rfl) (by kernel_rfl) (fun _ _ _ h => h) (Or.inl ⟨by rfl, fun wq hSw => by (try dsimp only at hSw); go_simp⟩) hHeld ?_
        try simp only [Act.put, yA, yB, yC, yD, yE, yF]
        refine wpAnyH_ready (rs := [12]) (by kernel_rfl) (by simp) ?_
        refine AllReadyH.cons rfl (fun K hK => ?_) AllReadyH.nil
        go_simp
        refine (CR.out _ hb3).mono ?_
        rintro e w4 ⟨rfl, hb⟩
        have hb4 := bel_trans hb3 hb
        clear hb
        refine hK.out _ _ (SK.out _ hb4) (fun hHeld => ?_)
        clear hK K
        try simp only [Act.put, yA, yB, yC, yD, yE, yF]
        refine wpAnyH_take (i := 13) (v := .bool false) rfl (by kernel_rfl) (by kernel_rfl) (by kernel_rfl) (fun _ _ _ h => h) (Or.inl ⟨by rfl, fun wq hSw => by (try dsimp only at hSw); go_simp⟩) hHeld ?_
        try simp only [Act.put, yA, yB, yC, yD, yE, yF]
        refine wpAnyH_take (i := 14) (v := .bool false) rfl (by kernel_rfl) (by kernel_rfl) (by kernel_rfl) (fun _ _ _ h => h) (Or.inl ⟨by rfl, fun wq hSw => by (try dsimp only at hSw); go_simp⟩) hHeld ?_
        try simp only [Act.put, yA, yB, yC, yD, yE, yF]
        refine wpAnyH_take (i := 15) (v := undef) rfl (by kernel_rfl) (by kernel_rfl) (by kernel_rfl) (fun _ _ _ h => h) (Or.inr ⟨by rfl, rfl⟩) hHeld ?_
        try simp only [Act.put, yA, yB, yC, yD, yE, yF]
        refine wpAnyH_take (i := 16) (v := undef) rfl (by kernel_rfl) (by kernel_rfl) (by kernel_rfl) (fun _ _ _ h => h) (Or.inr ⟨by rfl, rfl⟩) hHeld ?_
        try simp only [Act.put, yA, yB, yC, yD, yE, yF]
        refine wpAnyH_take (i := 17) (v := undef) rfl (by kernel_rfl) (by kernel_rfl) (by kernel_rfl) (fun _ _ _ h => h) (Or.inr ⟨by rfl, rfl⟩) hHeld ?_
        try simp only [Act.put, yA, yB, yC, yD, yE, yF]
        refine wpAnyH_take (i := 18) (v := undef) rfl (by kernel_rfl) (by kernel_rfl) (by kernel_rfl) (fun _ _ _ h => h) (Or.inr ⟨by rfl, rfl⟩) hHeld ?_
        try simp only [Act.put, yA, yB, yC, yD, yE, yF]
        refine wpAnyH_take (i := 19) (v := undef) rfl (by kernel_rfl) (by kernel_rfl) (by kernel_rfl) (fun _ _ _ h => h) (Or.inr ⟨by rfl, rfl⟩) hHeld ?_
        try simp only [Act.put, yA, yB, yC, yD, yE, yF]
        refine wpAnyH_take (i := 20) (v := undef) rfl (by kernel_rfl) (by kernel_rfl) (by kernel_rfl) (fun _ _ _ h => h) (Or.inr ⟨by rfl, rfl⟩) hHeld ?_
        try simp only [Act.put, yA, yB, yC, yD, yE, yF]
        refine wpAnyH_take (i := 21) (v := undef) rfl (by kernel_rfl) (by kernel_rfl) (by kernel_rfl) (fun _ _ _ h => h) (Or.inr ⟨by rfl, rfl⟩) hHeld ?_
        try simp only [Act.put, yA, yB, yC, yD, yE, yF]
        refine wpAnyH_take (i := 22) (v := undef) rfl (by kernel_rfl) (by kernel_rfl) (by kernel_rfl) (fun _ _ _ h => h) (Or.inr ⟨by rfl, rfl⟩) hHeld ?_
        try simp only [Act.put, yA, yB, yC, yD, yE, yF]
        refine wpAnyH_take (i := 23) (v := .bool false) rfl (by kernel_rfl) (by kernel_rfl) (by kernel_rfl) (fun _ _ _ h => h) (Or.inl ⟨by rfl, fun wq hSw => by (try dsimp only at hSw); go_simp⟩) hHeld ?_
        try simp only [Act.put, yA, yB, yC, yD, yE, yF]
        refine wpAnyH_take (i := 24) (v := .bool false) rfl (by kernel_rfl) (by kernel_rfl) (by kernel_rfl) (fun _ _ _ h => h) (Or.inl ⟨by rfl, fun wq hSw => by (try dsimp only at hSw); go_simp⟩) hHeld ?_
        try simp only [Act.put, yA, yB, yC, yD, yE, yF]
        refine wpAnyH_done (by kernel_rfl) ?_ _
        go_wp2_with fail
        go_ret
        exact ⟨rfl, bel_trans B0 hb4⟩
      | true =>
        by_cases hlen : wn = args.length
        · have m1 : ((wn : Int) == (args.length : Int)) = true := by simp [hlen]
          rw [show decide (wn = args.length) = true from decide_eq_true hlen]
          replace hlen := Kp.mk hlen
          go_enter Tryz.func148, Tryz.ntmps148
          go_upto_region 1 with fail
          rw [← hW.out]
          refine wp_region_held_drew (S := (fun W' => Below W0.heap.size W0 W' ∧ W'.cell? ⟨w.heap.size, 0, none⟩ = some (.slice a1 gs.length c1) ∧ W'.cell? ⟨w.heap.size, 1, none⟩ = some (.slice a2 fs.length c2) ∧ W'.cell? ⟨w.heap.size, 2, none⟩ = some (.string name) ∧ W'.cell? ⟨w.heap.size, 3, none⟩ = some (.int .i64 link) ∧ W'.cell? ⟨w.heap.size, 4, none⟩ = some (.slice a3 params.length c3) ∧ W'.cell? ⟨w.heap.size, 5, none⟩ = some (.int .i64 res) ∧ W'.cell? ⟨w.heap.size, 6, none⟩ = some (.slice a4 blocks.length c4) ∧ W'.cell? ⟨w.heap.size, 7, none⟩ = some (.slice a5 ts.length c5) ∧ W'.cell? ⟨w.heap.size, 8, none⟩ = some (.int .i64 bk) ∧ W'.cell? ⟨w.heap.size + 1, 0, none⟩ = some (.int .i64 op) ∧ W'.cell? ⟨w.heap.size + 1, 1, none⟩ = some (.int .i64 ty) ∧ W'.cell? ⟨w.heap.size + 1, 2, none⟩ = some (.int .i64 fl) ∧ W'.cell? ⟨w.heap.size + 1, 3, none⟩ = some (.int .i64 pr) ∧ W'.cell? ⟨w.heap.size + 1, 4, none⟩ = some (.int .i64 ca) ∧ W'.cell? ⟨w.heap.size + 1, 5, none⟩ = some (.int .i64 sz) ∧ W'.cell? ⟨w.heap.size + 1, 6, none⟩ = some (.slice aa args.length ca') ∧ W'.cell? ⟨w.heap.size + 1, 7, none⟩ = some (.slice al bl.length cl) ∧ W'.cell? ⟨w.heap.size + 1, 8, none⟩ = some (.slice as' ws.length cs))) (by kernel_rfl) (SK.out _ hb0) (fun hHeld => ?_)
          refine wpAnyH_take (i := 0) (v := .agg #[.int .i64 op, .int .i64 ty, .int .i64 fl, .int .i64 pr, .int .i64 ca, .int .i64 sz, .slice aa args.length ca', .slice al bl.length cl, .slice as' ws.length cs]) rfl (by kernel_rfl) (by kernel_rfl) (by kernel_rfl) (fun _ _ _ h => h) (Or.inl ⟨by rfl, fun wq hSw => by (try dsimp only at hSw); go_simp⟩) hHeld ?_
          try simp only [Act.put, yA, yB, yC, yD, yE, yF]
          refine wpAnyH_take (i := 1) (v := kAl op ty (.slice aa args.length ca') sz) rfl (by kernel_rfl) (by kernel_rfl) (by kernel_rfl) (fun _ _ _ h => h) (Or.inl ⟨by rfl, fun wq hSw => by (try dsimp only at hSw); go_simp⟩) hHeld ?_
          try simp only [Act.put, yA, yB, yC, yD, yE, yF]
          refine wpAnyH_ready (rs := [2]) (by kernel_rfl) (by simp) ?_
          refine AllReadyH.cons rfl (fun K hK => ?_) AllReadyH.nil
          go_simp
          refine (CF.out _ hb0).mono ?_
          rintro e w1 ⟨⟨av, cv, rfl⟩, hb⟩
          have hb1 := hb0.trans hb
          clear hb
          refine hK.out _ _ (SK.out _ hb1) (fun hHeld => ?_)
          clear hK K
          try simp only [Act.put, yA, yB, yC, yD, yE, yF]
          refine wpAnyH_ready (rs := [3]) (by kernel_rfl) (by simp) ?_
          refine AllReadyH.cons rfl (fun K hK => ?_) AllReadyH.nil
          go_simp
          refine (CN.out _ _ _).mono ?_
          rintro e w2 ⟨rfl, hb⟩
          have hb2 := bel_trans hb1 hb
          clear hb
          refine hK.out _ _ (SK.out _ hb2) (fun hHeld => ?_)
          clear hK K
          try simp only [Act.put, yA, yB, yC, yD, yE, yF]
          refine wpAnyH_take (i := 4) (v := .bool true) rfl (by kernel_rfl) (by kernel_rfl) (by kernel_rfl) (fun _ _ _ h => h) (Or.inl ⟨by rfl, fun wq hSw => by (try dsimp only at hSw); go_simp⟩) hHeld ?_
          try simp only [Act.put, yA, yB, yC, yD, yE, yF]
          refine wpAnyH_take (i := 5) (v := kAl op ty (.slice aa args.length ca') sz) rfl (by kernel_rfl) (by kernel_rfl) (by kernel_rfl) (fun _ _ _ h => h) (Or.inl ⟨by rfl, fun wq hSw => by (try dsimp only at hSw); go_simp⟩) hHeld ?_
          try simp only [Act.put, yA, yB, yC, yD, yE, yF]
          refine wpAnyH_take (i := 6) (v := scV (.slice a1 gs.length c1) (.slice a2 fs.length c2) name link (.slice a3 params.length c3) res (.slice a4 blocks.length c4) (.slice a5 ts.length c5) bk) rfl (by kernel_rfl) (by kernel_rfl) (by kernel_rfl) (fun _ _ _ h => h) (Or.inl ⟨by rfl, fun wq hSw => by (try dsimp only at hSw); go_simp⟩) hHeld ?_
          try simp only [Act.put, yA, yB, yC, yD, yE, yF]
          refine wpAnyH_ready (rs := [7]) (by kernel_rfl) (by simp) ?_
          refine AllReadyH.cons rfl (fun K hK => ?_) AllReadyH.nil
          go_simp
          refine (CW1.out _ hb2).mono ?_
          rintro e w3 ⟨rfl, hb⟩
          have hb3 := bel_trans hb2 hb
          clear hb
          refine hK.out _ _ (SK.out _ hb3) (fun hHeld => ?_)
          clear hK K
          try simp only [Act.put, yA, yB, yC, yD, yE, yF]
          refine wpAnyH_take (i := 8) (v := .bool true) rfl (by kernel_rfl) (by kernel_rfl) (by kernel_rfl) (fun _ _ _ h => h) (Or.inl ⟨by rfl, fun wq hSw => by (try dsimp only at hSw); go_simp⟩) hHeld ?_
          try simp only [Act.put, yA, yB, yC, yD, yE, yF]
          refine wpAnyH_take (i := 9) (v := .bool true) rfl (by kernel_rfl) (by kernel_rfl) (by kernel_rfl) (fun _ _ _ h => h) (Or.inl ⟨by rfl, fun wq hSw => by (try dsimp only at hSw); go_simp⟩) hHeld ?_
          try simp only [Act.put, yA, yB, yC, yD, yE, yF]
          refine wpAnyH_take (i := 10) (v := kAl op ty (.slice aa args.length ca') sz) rfl (by kernel_rfl) (by kernel_rfl) (by kernel_rfl) (fun _ _ _ h => h) (Or.inl ⟨by rfl, fun wq hSw => by (try dsimp only at hSw); go_simp⟩) hHeld ?_
          try simp only [Act.put, yA, yB, yC, yD, yE, yF]
          refine wpAnyH_take (i := 11) (v := scV (.slice a1 gs.length c1) (.slice a2 fs.length c2) name link (.slice a3 params.length c3) res (.slice a4 blocks.length c4) (.slice a5 ts.length c5) bk) rfl (by kernel_rfl) (by kernel_rfl) (by kernel_rfl) (fun _ _ _ h => h) (Or.inl ⟨by rfl, fun wq hSw => by (try dsimp only at hSw); go_simp⟩) hHeld ?_
          try simp only [Act.put, yA, yB, yC, yD, yE, yF]
          refine wpAnyH_ready (rs := [12]) (by kernel_rfl) (by simp) ?_
          refine AllReadyH.cons rfl (fun K hK => ?_) AllReadyH.nil
          go_simp
          refine (CR.out _ hb3).mono ?_
          rintro e w4 ⟨rfl, hb⟩
          have hb4 := bel_trans hb3 hb
          clear hb
          refine hK.out _ _ (SK.out _ hb4) (fun hHeld => ?_)
          clear hK K
          try simp only [Act.put, yA, yB, yC, yD, yE, yF]
          refine wpAnyH_take (i := 13) (v := .bool true) rfl (by kernel_rfl) (by kernel_rfl) (by kernel_rfl) (fun _ _ _ h => h) (Or.inl ⟨by rfl, fun wq hSw => by (try dsimp only at hSw); go_simp⟩) hHeld ?_
          try simp only [Act.put, yA, yB, yC, yD, yE, yF]
          refine wpAnyH_take (i := 14) (v := .bool true) rfl (by kernel_rfl) (by kernel_rfl) (by kernel_rfl) (fun _ _ _ h => h) (Or.inl ⟨by rfl, fun wq hSw => by (try dsimp only at hSw); go_simp⟩) hHeld ?_
          try simp only [Act.put, yA, yB, yC, yD, yE, yF]
          refine wpAnyH_take (i := 15) (v := kAl op ty (.slice aa args.length ca') sz) rfl (by kernel_rfl) (by kernel_rfl) (by kernel_rfl) (fun _ _ _ h => h) (Or.inl ⟨by rfl, fun wq hSw => by (try dsimp only at hSw); go_simp⟩) hHeld ?_
          try simp only [Act.put, yA, yB, yC, yD, yE, yF]
          refine wpAnyH_take (i := 16) (v := scV (.slice a1 gs.length c1) (.slice a2 fs.length c2) name link (.slice a3 params.length c3) res (.slice a4 blocks.length c4) (.slice a5 ts.length c5) bk) rfl (by kernel_rfl) (by kernel_rfl) (by kernel_rfl) (fun _ _ _ h => h) (Or.inl ⟨by rfl, fun wq hSw => by (try dsimp only at hSw); go_simp⟩) hHeld ?_
          try simp only [Act.put, yA, yB, yC, yD, yE, yF]
          refine wpAnyH_take (i := 19) (v := kAl op ty (.slice aa args.length ca') sz) rfl (by kernel_rfl) (by kernel_rfl) (by kernel_rfl) (fun _ _ _ h => h) (Or.inl ⟨by rfl, fun wq hSw => by (try dsimp only at hSw); go_simp⟩) hHeld ?_
          try simp only [Act.put, yA, yB, yC, yD, yE, yF]
          refine wpAnyH_ready (rs := [17]) (by kernel_rfl) (by simp) ?_
          refine AllReadyH.cons rfl (fun K hK => ?_) AllReadyH.nil
          go_simp
          refine (WA'.out _ hb4).mono ?_
          rintro e w5 ⟨⟨aw, cw, rfl⟩, hb⟩
          have hb5 := bel_trans hb4 hb
          clear hb
          refine hK.out _ _ (SK.out _ hb5) (fun hHeld => ?_)
          clear hK K
          try simp only [Act.put, yA, yB, yC, yD, yE, yF]
          refine wpAnyH_take (i := 18) (v := .int .i64 wn) rfl (by kernel_rfl) (by kernel_rfl) (by kernel_rfl) (fun _ _ _ h => h) (Or.inl ⟨by rfl, fun wq hSw => by (try dsimp only at hSw); go_simp⟩) hHeld ?_
          try simp only [Act.put, yA, yB, yC, yD, yE, yF]
          refine wpAnyH_ready (rs := [20]) (by kernel_rfl) (by simp) ?_
          refine AllReadyH.cons rfl (fun K hK => ?_) AllReadyH.nil
          go_simp
          refine (CA.out _).mono ?_
          rintro e w6 ⟨rfl, hb⟩
          have hb6 := bel_trans hb5 hb
          clear hb
          refine hK.out _ _ (SK.out _ hb6) (fun hHeld => ?_)
          clear hK K
          try simp only [Act.put, yA, yB, yC, yD, yE, yF]
          refine wpAnyH_take (i := 21) (v := .int .i64 args.length) rfl (by kernel_rfl) (by kernel_rfl) (by kernel_rfl) (fun _ _ _ h => h) (Or.inl ⟨by rfl, fun wq hSw => by (try dsimp only at hSw); go_simp⟩) hHeld ?_
          try simp only [Act.put, yA, yB, yC, yD, yE, yF]
          refine wpAnyH_take (i := 22) (v := .bool true) rfl (by kernel_rfl) (by kernel_rfl) (by kernel_rfl) (fun _ _ _ h => h) (Or.inl ⟨by rfl, fun wq hSw => by (try dsimp only at hSw); go_simp⟩) hHeld ?_
          try simp only [Act.put, yA, yB, yC, yD, yE, yF]
          refine wpAnyH_take (i := 23) (v := .bool true) rfl (by kernel_rfl) (by kernel_rfl) (by kernel_rfl) (fun _ _ _ h => h) (Or.inl ⟨by rfl, fun wq hSw => by (try dsimp only at hSw); go_simp⟩) hHeld ?_
          try simp only [Act.put, yA, yB, yC, yD, yE, yF]
          refine wpAnyH_take (i := 24) (v := .bool true) rfl (by kernel_rfl) (by kernel_rfl) (by kernel_rfl) (fun _ _ _ h => h) (Or.inl ⟨by rfl, fun wq hSw => by (try dsimp only at hSw); go_simp⟩) hHeld ?_
          try simp only [Act.put, yA, yB, yC, yD, yE, yF]
          refine wpAnyH_done (by kernel_rfl) ?_ _
          go_wp2_with fail
          go_ret
          exact ⟨rfl, bel_trans B0 hb6⟩
        · have m1 : ((wn : Int) == (args.length : Int)) = false := nb (by omega)
          rw [show decide (wn = args.length) = false from decide_eq_false hlen]
          clear hlen
          go_enter Tryz.func148, Tryz.ntmps148
          go_upto_region 1 with fail
          rw [← hW.out]
          refine wp_region_held_drew (S := (fun W' => Below W0.heap.size W0 W' ∧ W'.cell? ⟨w.heap.size, 0, none⟩ = some (.slice a1 gs.length c1) ∧ W'.cell? ⟨w.heap.size, 1, none⟩ = some (.slice a2 fs.length c2) ∧ W'.cell? ⟨w.heap.size, 2, none⟩ = some (.string name) ∧ W'.cell? ⟨w.heap.size, 3, none⟩ = some (.int .i64 link) ∧ W'.cell? ⟨w.heap.size, 4, none⟩ = some (.slice a3 params.length c3) ∧ W'.cell? ⟨w.heap.size, 5, none⟩ = some (.int .i64 res) ∧ W'.cell? ⟨w.heap.size, 6, none⟩ = some (.slice a4 blocks.length c4) ∧ W'.cell? ⟨w.heap.size, 7, none⟩ = some (.slice a5 ts.length c5) ∧ W'.cell? ⟨w.heap.size, 8, none⟩ = some (.int .i64 bk) ∧ W'.cell? ⟨w.heap.size + 1, 0, none⟩ = some (.int .i64 op) ∧ W'.cell? ⟨w.heap.size + 1, 1, none⟩ = some (.int .i64 ty) ∧ W'.cell? ⟨w.heap.size + 1, 2, none⟩ = some (.int .i64 fl) ∧ W'.cell? ⟨w.heap.size + 1, 3, none⟩ = some (.int .i64 pr) ∧ W'.cell? ⟨w.heap.size + 1, 4, none⟩ = some (.int .i64 ca) ∧ W'.cell? ⟨w.heap.size + 1, 5, none⟩ = some (.int .i64 sz) ∧ W'.cell? ⟨w.heap.size + 1, 6, none⟩ = some (.slice aa args.length ca') ∧ W'.cell? ⟨w.heap.size + 1, 7, none⟩ = some (.slice al bl.length cl) ∧ W'.cell? ⟨w.heap.size + 1, 8, none⟩ = some (.slice as' ws.length cs))) (by kernel_rfl) (SK.out _ hb0) (fun hHeld => ?_)
          refine wpAnyH_take (i := 0) (v := .agg #[.int .i64 op, .int .i64 ty, .int .i64 fl, .int .i64 pr, .int .i64 ca, .int .i64 sz, .slice aa args.length ca', .slice al bl.length cl, .slice as' ws.length cs]) rfl (by kernel_rfl) (by kernel_rfl) (by kernel_rfl) (fun _ _ _ h => h) (Or.inl ⟨by rfl, fun wq hSw => by (try dsimp only at hSw); go_simp⟩) hHeld ?_
          try simp only [Act.put, yA, yB, yC, yD, yE, yF]
          refine wpAnyH_take (i := 1) (v := kAl op ty (.slice aa args.length ca') sz) rfl (by kernel_rfl) (by kernel_rfl) (by kernel_rfl) (fun _ _ _ h => h) (Or.inl ⟨by rfl, fun wq hSw => by (try dsimp only at hSw); go_simp⟩) hHeld ?_
          try simp only [Act.put, yA, yB, yC, yD, yE, yF]
          refine wpAnyH_ready (rs := [2]) (by kernel_rfl) (by simp) ?_
          refine AllReadyH.cons rfl (fun K hK => ?_) AllReadyH.nil
          go_simp
          refine (CF.out _ hb0).mono ?_
          rintro e w1 ⟨⟨av, cv, rfl⟩, hb⟩
          have hb1 := hb0.trans hb
          clear hb
          refine hK.out _ _ (SK.out _ hb1) (fun hHeld => ?_)
          clear hK K
          try simp only [Act.put, yA, yB, yC, yD, yE, yF]
          refine wpAnyH_ready (rs := [3]) (by kernel_rfl) (by simp) ?_
          refine AllReadyH.cons rfl (fun K hK => ?_) AllReadyH.nil
          go_simp
          refine (CN.out _ _ _).mono ?_
          rintro e w2 ⟨rfl, hb⟩
          have hb2 := bel_trans hb1 hb
          clear hb
          refine hK.out _ _ (SK.out _ hb2) (fun hHeld => ?_)
          clear hK K
          try simp only [Act.put, yA, yB, yC, yD, yE, yF]
          refine wpAnyH_take (i := 4) (v := .bool true) rfl (by kernel_rfl) (by kernel_rfl) (by kernel_rfl) (fun _ _ _ h => h) (Or.inl ⟨by rfl, fun wq hSw => by (try dsimp only at hSw); go_simp⟩) hHeld ?_
          try simp only [Act.put, yA, yB, yC, yD, yE, yF]
          refine wpAnyH_take (i := 5) (v := kAl op ty (.slice aa args.length ca') sz) rfl (by kernel_rfl) (by kernel_rfl) (by kernel_rfl) (fun _ _ _ h => h) (Or.inl ⟨by rfl, fun wq hSw => by (try dsimp only at hSw); go_simp⟩) hHeld ?_
          try simp only [Act.put, yA, yB, yC, yD, yE, yF]
          refine wpAnyH_take (i := 6) (v := scV (.slice a1 gs.length c1) (.slice a2 fs.length c2) name link (.slice a3 params.length c3) res (.slice a4 blocks.length c4) (.slice a5 ts.length c5) bk) rfl (by kernel_rfl) (by kernel_rfl) (by kernel_rfl) (fun _ _ _ h => h) (Or.inl ⟨by rfl, fun wq hSw => by (try dsimp only at hSw); go_simp⟩) hHeld ?_
          try simp only [Act.put, yA, yB, yC, yD, yE, yF]
          refine wpAnyH_ready (rs := [7]) (by kernel_rfl) (by simp) ?_
          refine AllReadyH.cons rfl (fun K hK => ?_) AllReadyH.nil
          go_simp
          refine (CW1.out _ hb2).mono ?_
          rintro e w3 ⟨rfl, hb⟩
          have hb3 := bel_trans hb2 hb
          clear hb
          refine hK.out _ _ (SK.out _ hb3) (fun hHeld => ?_)
          clear hK K
          try simp only [Act.put, yA, yB, yC, yD, yE, yF]
          refine wpAnyH_take (i := 8) (v := .bool true) rfl (by kernel_rfl) (by kernel_rfl) (by kernel_rfl) (fun _ _ _ h => h) (Or.inl ⟨by rfl, fun wq hSw => by (try dsimp only at hSw); go_simp⟩) hHeld ?_
          try simp only [Act.put, yA, yB, yC, yD, yE, yF]
          refine wpAnyH_take (i := 9) (v := .bool true) rfl (by kernel_rfl) (by kernel_rfl) (by kernel_rfl) (fun _ _ _ h => h) (Or.inl ⟨by rfl, fun wq hSw => by (try dsimp only at hSw); go_simp⟩) hHeld ?_
          try simp only [Act.put, yA, yB, yC, yD, yE, yF]
          refine wpAnyH_take (i := 10) (v := kAl op ty (.slice aa args.length ca') sz) rfl (by kernel_rfl) (by kernel_rfl) (by kernel_rfl) (fun _ _ _ h => h) (Or.inl ⟨by rfl, fun wq hSw => by (try dsimp only at hSw); go_simp⟩) hHeld ?_
          try simp only [Act.put, yA, yB, yC, yD, yE, yF]
          refine wpAnyH_take (i := 11) (v := scV (.slice a1 gs.length c1) (.slice a2 fs.length c2) name link (.slice a3 params.length c3) res (.slice a4 blocks.length c4) (.slice a5 ts.length c5) bk) rfl (by kernel_rfl) (by kernel_rfl) (by kernel_rfl) (fun _ _ _ h => h) (Or.inl ⟨by rfl, fun wq hSw => by (try dsimp only at hSw); go_simp⟩) hHeld ?_
          try simp only [Act.put, yA, yB, yC, yD, yE, yF]
          refine wpAnyH_ready (rs := [12]) (by kernel_rfl) (by simp) ?_
          refine AllReadyH.cons rfl (fun K hK => ?_) AllReadyH.nil
          go_simp
          refine (CR.out _ hb3).mono ?_
          rintro e w4 ⟨rfl, hb⟩
          have hb4 := bel_trans hb3 hb
          clear hb
          refine hK.out _ _ (SK.out _ hb4) (fun hHeld => ?_)
          clear hK K
          try simp only [Act.put, yA, yB, yC, yD, yE, yF]
          refine wpAnyH_take (i := 13) (v := .bool true) rfl (by kernel_rfl) (by kernel_rfl) (by kernel_rfl) (fun _ _ _ h => h) (Or.inl ⟨by rfl, fun wq hSw => by (try dsimp only at hSw); go_simp⟩) hHeld ?_
          try simp only [Act.put, yA, yB, yC, yD, yE, yF]
          refine wpAnyH_take (i := 14) (v := .bool true) rfl (by kernel_rfl) (by kernel_rfl) (by kernel_rfl) (fun _ _ _ h => h) (Or.inl ⟨by rfl, fun wq hSw => by (try dsimp only at hSw); go_simp⟩) hHeld ?_
          try simp only [Act.put, yA, yB, yC, yD, yE, yF]
          refine wpAnyH_take (i := 15) (v := kAl op ty (.slice aa args.length ca') sz) rfl (by kernel_rfl) (by kernel_rfl) (by kernel_rfl) (fun _ _ _ h => h) (Or.inl ⟨by rfl, fun wq hSw => by (try dsimp only at hSw); go_simp⟩) hHeld ?_
          try simp only [Act.put, yA, yB, yC, yD, yE, yF]
          refine wpAnyH_take (i := 16) (v := scV (.slice a1 gs.length c1) (.slice a2 fs.length c2) name link (.slice a3 params.length c3) res (.slice a4 blocks.length c4) (.slice a5 ts.length c5) bk) rfl (by kernel_rfl) (by kernel_rfl) (by kernel_rfl) (fun _ _ _ h => h) (Or.inl ⟨by rfl, fun wq hSw => by (try dsimp only at hSw); go_simp⟩) hHeld ?_
          try simp only [Act.put, yA, yB, yC, yD, yE, yF]
          refine wpAnyH_take (i := 19) (v := kAl op ty (.slice aa args.length ca') sz) rfl (by kernel_rfl) (by kernel_rfl) (by kernel_rfl) (fun _ _ _ h => h) (Or.inl ⟨by rfl, fun wq hSw => by (try dsimp only at hSw); go_simp⟩) hHeld ?_
          try simp only [Act.put, yA, yB, yC, yD, yE, yF]
          refine wpAnyH_ready (rs := [17]) (by kernel_rfl) (by simp) ?_
          refine AllReadyH.cons rfl (fun K hK => ?_) AllReadyH.nil
          go_simp
          refine (WA'.out _ hb4).mono ?_
          rintro e w5 ⟨⟨aw, cw, rfl⟩, hb⟩
          have hb5 := bel_trans hb4 hb
          clear hb
          refine hK.out _ _ (SK.out _ hb5) (fun hHeld => ?_)
          clear hK K
          try simp only [Act.put, yA, yB, yC, yD, yE, yF]
          refine wpAnyH_take (i := 18) (v := .int .i64 wn) rfl (by kernel_rfl) (by kernel_rfl) (by kernel_rfl) (fun _ _ _ h => h) (Or.inl ⟨by rfl, fun wq hSw => by (try dsimp only at hSw); go_simp⟩) hHeld ?_
          try simp only [Act.put, yA, yB, yC, yD, yE, yF]
          refine wpAnyH_ready (rs := [20]) (by kernel_rfl) (by simp) ?_
          refine AllReadyH.cons rfl (fun K hK => ?_) AllReadyH.nil
          go_simp
          refine (CA.out _).mono ?_
          rintro e w6 ⟨rfl, hb⟩
          have hb6 := bel_trans hb5 hb
          clear hb
          refine hK.out _ _ (SK.out _ hb6) (fun hHeld => ?_)
          clear hK K
          try simp only [Act.put, yA, yB, yC, yD, yE, yF]
          refine wpAnyH_take (i := 21) (v := .int .i64 args.length) rfl (by kernel_rfl) (by kernel_rfl) (by kernel_rfl) (fun _ _ _ h => h) (Or.inl ⟨by rfl, fun wq hSw => by (try dsimp only at hSw); go_simp⟩) hHeld ?_
          try simp only [Act.put, yA, yB, yC, yD, yE, yF]
          refine wpAnyH_take (i := 22) (v := .bool false) rfl (by kernel_rfl) (by kernel_rfl) (by kernel_rfl) (fun _ _ _ h => h) (Or.inl ⟨by rfl, fun wq hSw => by (try dsimp only at hSw); go_simp⟩) hHeld ?_
          try simp only [Act.put, yA, yB, yC, yD, yE, yF]
          refine wpAnyH_take (i := 23) (v := .bool false) rfl (by kernel_rfl) (by kernel_rfl) (by kernel_rfl) (fun _ _ _ h => h) (Or.inl ⟨by rfl, fun wq hSw => by (try dsimp only at hSw); go_simp⟩) hHeld ?_
          try simp only [Act.put, yA, yB, yC, yD, yE, yF]
          refine wpAnyH_take (i := 24) (v := .bool false) rfl (by kernel_rfl) (by kernel_rfl) (by kernel_rfl) (fun _ _ _ h => h) (Or.inl ⟨by rfl, fun wq hSw => by (try dsimp only at hSw); go_simp⟩) hHeld ?_
          try simp only [Act.put, yA, yB, yC, yD, yE, yF]
          refine wpAnyH_done (by kernel_rfl) ?_ _
          go_wp2_with fail
          go_ret
          exact ⟨rfl, bel_trans B0 hb6⟩
end
end Go.Proofs.YtbnkbbcncloedaaGreatDoor
