/- Texts of one claim. -/
import Derived.Test.YtgdcgjlmkmdklaaGreatDoorPk0
import Derived.Test.YtgdcgjlmkmdklaaGreatDoorPk49
import Derived.Test.YtgdcgjlmkmdklaaGreatDoorPk38
import Derived.Test.YtgdcgjlmkmdklaaGreatDoorPk29
import Derived.Test.YtgdcgjlmkmdklaaGreatDoorPk39
namespace Go.Proofs.YtgdcgjlmkmdklaaGreatDoor
open Go.ChangeShapes Go.WideShapes Go.ChangeAt Go.RowKit
open Go.Lib
set_option linter.unusedVariables false
set_option linter.unusedSimpArgs false
set_option maxRecDepth 100000 in
set_option maxHeartbeats 4000000 in
theorem fmtInI (gs : List GlD) (fs : List FnD) (vg vf : Value) (F B I : Int) (w : World) {lo : Nat} (hM : MoAt lo w gs fs vg vf) (hm : moN gs fs ≤ 1048576) (hbd : MoB gs fs) (hw : Wid w) (hF : FlO w) (hL : Lt w) :
  Calls Tryz.prog 13 #[.agg #[vg, vf], .int .i64 F, .int .i64 B, .int .i64 I] w fun e w' => e = .returned (.string (fiTx gs fs F B I)) ∧ Below w.heap.size w w' := by
 obtain ⟨aG, cG, rfl⟩ := hM.g.shape
 obtain ⟨bF, oF, ⟨⟨aF, cF, rfl, t1, t2⟩, t3⟩, -, hq⟩ := hM.f.ex
 obtain ⟨W0, hW⟩ : ∃ W0, W0 = w.alloc (Go.Obj.cells #[.slice aG gs.length cG, .slice aF fs.length cF] 33) := ⟨_, rfl⟩
 have B0 : Below w.heap.size w W0 := by rw [hW]; exact bel_alloc _ _
 have hc0 : W0.heap[w.heap.size]? = some (Go.Obj.cells #[.slice aG gs.length cG, .slice aF fs.length cF] 33) := by rw [hW]; exact (MapKept.heap_alloc w _).1
 have CS : Kp (∀ W, Below W0.heap.size W0 W → Calls Tryz.prog 9 #[.agg #[.slice aG gs.length cG, .slice aF fs.length cF]] W fun e w' => e = .returned (ftV (shF gs fs)) ∧ Below W.heap.size W w') := ⟨fun W hB => shapeI gs fs _ _ W ((hM.keep B0).keep hB) hm hbd ((hw.below B0).below hB)⟩
 have SK : Kp (∀ W, Below W0.heap.size W0 W → At W w.heap.size 0 (.slice aG gs.length cG) ∧ At W w.heap.size 1 (.slice aF fs.length cF)) := ⟨fun W hB => ⟨at_keep (at_cells hc0 rfl) hB, at_keep (at_cells hc0 rfl) hB⟩⟩
 have hbad : Kp (¬ ((shF gs fs).1 = 0 ∧ 0 ≤ F ∧ F < fs.length ∧ 0 ≤ B ∧ B < (calD fs F).blocks.length ∧ 0 ≤ I ∧ I < ((calD fs F).blocks.getD B.toNat []).length) → fiTx gs fs F B I = ⟨#[]⟩) := ⟨fun h => by unfold fiTx; rw [if_neg h]⟩
 have hgd : Kp ((shF gs fs).1 = 0 → ∀ (c b i : Nat), F = c → B = b → I = i → ∀ (hc : c < fs.length) (hb : b < fs[c].blocks.length) (hi : i < fs[c].blocks[b].length), fiTx gs fs F B I = lnTx gs fs fs[c].blocks[b][i] (rOf b i fs[c].params.length (blPl 0 fs[c].blocks)) ∧ InG fs fs[c].blocks[b][i]) := ⟨fun h c b i e1 e2 e3 hc hb hi => by
  subst e1; subst e2; subst e3
  exact ⟨fiTx_at h c b i hc hb hi, (good_of h hm hbd c hc b i hb hi).1⟩⟩
 obtain ⟨L, hL0⟩ : ∃ L, fiTx gs fs F B I = L := ⟨_, rfl⟩
 rw [hL0] at hbad hgd ⊢
 obtain ⟨T, hT⟩ : ∃ T, shF gs fs = T := ⟨_, rfl⟩
 rw [hT] at CS hbad hgd
 obtain ⟨f1, f2, f3, f4⟩ := T
 dsimp only [ftV] at CS hbad hgd
 clear hL0 hT hc0
 replace hW := Kp.mk hW
 obtain ⟨m0, m1⟩ := SK.out W0 (Below.refl _ _)
 have hfd := fun w => fldFt f1 f2 f3 f4 w
 have CI : Kp (∀ (n : Int) (m : Nat) w, m ≤ 140737488355328 → Calls Tryz.prog 31 #[.int .i64 n, .int .i64 m] w fun e w' => e = .returned (.bool (isIx n m)) ∧ w' = w) := ⟨fun n m w h => isIx_e n m w h⟩
 by_cases h1 : f1 = 0
 ·subst h1
  by_cases h2 : isIx F fs.length = true
  ·have CF := Kp.mk (fun w => CI.out F fs.length w t3)
   rw [h2] at CF
   obtain ⟨c, rfl⟩ : ∃ c : Nat, F = c := ⟨F.toNat, by simp [isIx] at h2; omega⟩
   have hc : c < fs.length := by simp [isIx] at h2; omega
   have hlt : ((c : Int)) < (fs.length : Int) := by omega
   obtain rfl := t2 (by omega)
   obtain ⟨vp, vb, hFc⟩ := hq c hc
   have hfn : fnN fs[c] ≤ 1048576 := by
    exact tl127
   obtain ⟨aP, cP, rfl⟩ := hFc.f.p.shape
   obtain ⟨bB, oB, ⟨⟨aB, cB, rfl, s1, s2⟩, s3⟩, -, hqB⟩ := hFc.f.b.ex
   have FK : Kp (∀ W, Below W0.heap.size W0 W → FcAt lo W bF (oF + c * 5) fs[c] (.slice aP fs[c].params.length cP) (.slice aB fs[c].blocks.length cB)) := ⟨fun W hB => (hFc.keep B0).keep hB⟩
   have ec : calD fs (c : Int) = fs[c] := by simp [calD, hc]
   rw [ec] at hbad
   by_cases h3 : isIx B fs[c].blocks.length = true
   ·have CB := Kp.mk (fun w => CI.out B fs[c].blocks.length w s3)
    rw [h3] at CB
    obtain ⟨b, rfl⟩ : ∃ b : Nat, B = b := ⟨B.toNat, by simp [isIx] at h3; omega⟩
    have hb : b < fs[c].blocks.length := by simp [isIx] at h3; omega
    have hltb : ((b : Int)) < (fs[c].blocks.length : Int) := by omega
    obtain rfl := s2 (by omega)
    obtain ⟨vi, hvi, hI⟩ := hqB b hb
    obtain ⟨bI, oI, ⟨⟨aI, cI, rfl, u1, u2⟩, u3⟩, -, hqI⟩ := hI.ex
    have VK : Kp (∀ W, Below W0.heap.size W0 W → At W bB (oB + b) (.slice aI fs[c].blocks[b].length cI)) := ⟨fun W hB => at_keep (at_keep hvi B0) hB⟩
    by_cases h4 : isIx I fs[c].blocks[b].length = true
    ·have CJ := Kp.mk (fun w => CI.out I fs[c].blocks[b].length w u3)
     rw [h4] at CJ
     obtain ⟨i, rfl⟩ : ∃ i : Nat, I = i := ⟨I.toNat, by simp [isIx] at h4; omega⟩
     have hi : i < fs[c].blocks[b].length := by simp [isIx] at h4; omega
     have hlti : ((i : Int)) < (fs[c].blocks[b].length : Int) := by omega
     obtain rfl := u2 (by omega)
     obtain ⟨va, vb', vw, hA⟩ := hqI i hi
     obtain ⟨e, G⟩ := hgd.out rfl c b i rfl rfl rfl hc hb hi
     have hr := rOf_small hm c hc b i
     have CR : Kp (∀ W, Below W0.heap.size W0 W → Calls Tryz.prog 34 #[fnV fs[c] (.slice aP fs[c].params.length cP) (.slice (some ⟨bB, oB, none⟩) fs[c].blocks.length cB), .int .i64 b, .int .i64 i] W fun e w' => e = .returned (.int .i64 (rOf b i fs[c].params.length (blPl 0 fs[c].blocks))) ∧ Below W.heap.size W w') := ⟨fun W hB => resOfI fs[c] _ _ b i W ((hFc.keep B0).keep hB).f hfn⟩
     obtain ⟨r, hre⟩ : ∃ r, rOf b i fs[c].params.length (blPl 0 fs[c].blocks) = r := ⟨_, rfl⟩
     rw [hre] at e hr CR
     have AK : Kp (∀ W, Below W0.heap.size W0 W → InAt _ W bI (oI + i * 9) fs[c].blocks[b][i] va vb' vw) := ⟨fun W hB => (hA.keep B0).keep hB⟩
     have CL : Kp (∀ W vs, Below W0.heap.size W0 W → Voc W vs → Calls Tryz.prog 33 #[wrVal vs (.slice aG gs.length cG) (.slice (some ⟨bF, oF, none⟩) fs.length cF), inVal fs[c].blocks[b][i] va vb' vw, .int .i64 r] W fun e w' => e = .returned (.string L) ∧ Below W.heap.size W w') := ⟨fun W vs hB hV => by
      rw [e]
      have q := (hA.keep B0).keep hB
      exact instrI gs fs _ _ vs _ va vb' vw r W ((hM.keep B0).keep hB) hV ((hF.below B0).below hB) q.l.a q.l.b q.l.c ((hL.below B0).below hB) G hm (by omega) (by omega)⟩
     obtain ⟨x, hx⟩ : ∃ x, fs[c].blocks[b][i] = x := ⟨_, rfl⟩
     rw [hx] at AK CL
     clear hbad hgd hM hq hm hbd hF hL hw t1 t2 h2 h3 h4 hfn B0 hre hr G e ec hA hqB hqI hvi hI s1 s2 u1 u2 hx CI
     replace B0 := Kp.mk (show Below w.heap.size w W0 by rw [hW.out]; exact bel_alloc _ _)
     obtain ⟨ni, hni⟩ : ∃ ni, fs[c].blocks[b].length = ni := ⟨_, rfl⟩
     rw [hni] at VK CJ hlti u3
     clear hni hi
     obtain ⟨f, hf⟩ : ∃ f, fs[c] = f := ⟨_, rfl⟩
     rw [hf] at FK CR CB hltb hb s3
     clear hf hc hFc
     obtain ⟨fn, lk, ps, rs, bls⟩ := f
     obtain ⟨op, ty, fl, pr, ca, sz, args, bl, ws⟩ := x
     dsimp only [fnV] at *
     generalize fs.length = nf at *
     generalize bls.length = nb at *
     generalize ps.length = np at *
     obtain ⟨d0, d1, d2, d3, d4, -⟩ := FK.out _ (Below.refl _ _)
     have v0 := VK.out _ (Below.refl _ _)
     go_enter Tryz.func13, Tryz.ntmps13
     go_upto_region 1 with fail
     rw [← hW.out]
     go_wp2_with fail
     refine (CS.out _ (Below.refl _ _)).mono ?_
     rintro e w1 ⟨rfl, hb1⟩
     clear m0 m1 d0 d1 d2 d3 d4 v0
     obtain ⟨m0, m1⟩ := SK.out _ hb1
     obtain ⟨d0, d1, d2, d3, d4, -⟩ := FK.out _ hb1
     have v0 := VK.out _ hb1
     go_wp2_with fail
     refine (CF.out _).mono ?_
     rintro e w2 ⟨rfl, hw2⟩
     rw [hw2]
     clear hw2 w2
     go_upto_region 4 with fail
     obtain ⟨W1, hW1⟩ : ∃ W1, W1 = w1.alloc (Go.Obj.cells #[.string fn, .int .i64 lk, .slice aP np cP, .int .i64 rs, .slice (some ⟨bB, oB, none⟩) nb cB] 53) := ⟨_, rfl⟩
     rw [← hW1]
     have hb12 : Below w1.heap.size w1 W1 := by rw [hW1]; exact bel_alloc _ _
     have hq1 : W1.heap[w1.heap.size]? = some (Go.Obj.cells #[.string fn, .int .i64 lk, .slice aP np cP, .int .i64 rs, .slice (some ⟨bB, oB, none⟩) nb cB] 53) := by rw [hW1]; exact (MapKept.heap_alloc w1 _).1
     have hB1 := bel_trans hb1 hb12
     have EK : Kp (∀ W, Below W1.heap.size W1 W → At W w1.heap.size 0 (.string fn) ∧ At W w1.heap.size 1 (.int .i64 lk) ∧ At W w1.heap.size 2 (.slice aP np cP) ∧ At W w1.heap.size 3 (.int .i64 rs) ∧ At W w1.heap.size 4 (.slice (some ⟨bB, oB, none⟩) nb cB)) := ⟨fun W hB => ⟨at_keep (at_cells hq1 rfl) hB, at_keep (at_cells hq1 rfl) hB, at_keep (at_cells hq1 rfl) hB, at_keep (at_cells hq1 rfl) hB, at_keep (at_cells hq1 rfl) hB⟩⟩
     replace hW1 := Kp.mk hW1
     clear m0 m1 d0 d1 d2 d3 d4 v0 hq1
     obtain ⟨m0, m1⟩ := SK.out _ hB1
     have v0 := VK.out _ hB1
     obtain ⟨x0, x1, x2, x3, x4⟩ := EK.out _ (Below.refl _ _)
     go_wp2_with fail
     refine (CB.out _).mono ?_
     rintro e w3 ⟨rfl, hw3⟩
     rw [hw3]
     clear hw3 w3
     go_wp2_with fail
     refine (CJ.out _).mono ?_
     rintro e w4 ⟨rfl, hw4⟩
     rw [hw4]
     clear hw4 w4
     go_upto_region 6 with fail
     have TK : Kp (∀ W, Below W1.heap.size W1 W → (fun W' => Below W1.heap.size W1 W' ∧ W'.cell? ⟨w.heap.size, 0, none⟩ = some (.slice aG gs.length cG) ∧ W'.cell? ⟨w.heap.size, 1, none⟩ = some (.slice (some ⟨bF, oF, none⟩) nf cF)) W) := ⟨fun W hB => ⟨hB, at_keep m0 hB, at_keep m1 hB⟩⟩
     clear m0 m1 v0 x0 x1 x2 x3 x4
     go_cut [10] from 46 to 48 (fun s wx => ∃ (g : Nat) (a1 b1 a2 b2 a3 b3 a4 b4 a5 b5 : Nat), s = .pointer (some ⟨g, 0, none⟩) ∧ (At wx g 0 (.map (some a1)) ∧ At wx g 1 (.map (some b1)) ∧ At wx g 2 (.map (some a2)) ∧ At wx g 3 (.map (some b2)) ∧ At wx g 4 (.map (some a3)) ∧ At wx g 5 (.map (some b3)) ∧ At wx g 6 (.map (some a4)) ∧ At wx g 7 (.map (some b4)) ∧ At wx g 8 (.map (some a5)) ∧ At wx g 9 (.map (some b5)) ∧ At wx g 10 (.slice aG gs.length cG) ∧ At wx g 11 (.slice (some ⟨bF, oF, none⟩) nf cF)) ∧ Voc wx [.map (some a1), .map (some b1), .map (some a2), .map (some b2), .map (some a3), .map (some b3), .map (some a4), .map (some b4), .map (some a5), .map (some b5)] ∧ Below W1.heap.size W1 wx)
     case first =>
      have hBD := (Below.refl W1.heap.size W1).drew
      refine wp_region_held_drew (P := Tryz.prog) (w := W1) (S := (fun W' => Below W1.heap.size W1 W' ∧ W'.cell? ⟨w.heap.size, 0, none⟩ = some (.slice aG gs.length cG) ∧ W'.cell? ⟨w.heap.size, 1, none⟩ = some (.slice (some ⟨bF, oF, none⟩) nf cF))) (by kernel_rfl) (TK.out _ hBD) (fun hHeld => ?_)
      refine tks 1 [1] hHeld ?_
      try simp only [tkP]
      refine wpAnyH_ready (rs := [0, 3]) (by kernel_rfl) (by simp) (AllReadyH.cons rfl (fun K hK => ?_) (AllReadyH.cons rfl (fun K hK => ?_) AllReadyH.nil))
      ·go_simp
       refine (vocI _).mono ?_
       rintro e wv ⟨vs, rfl, hV, hbv⟩
       have hbw := hBD.trans hbv
       obtain ⟨a1, b1, a2, b2, a3, b3, a4, b4, a5, b5, rfl, -⟩ := id hV.ex
       refine hK.out _ _ (TK.out _ hbw) (fun hHeld => ?_)
       clear hK K
       try simp only [tkP]
       refine tks 1 [2] hHeld ?_
       try simp only [tkP]
       refine rdy 3 fun K hK => ?_
       go_simp
       have hbx := bel_trans hbw (bel_alloc wv (Go.Obj.cells #[Value.map none, Value.map none, Value.map none, Value.map none, Value.map none, Value.map none, Value.map none, Value.map none, Value.map none, Value.map none, Value.slice none 0 0, Value.slice none 0 0] 68))
       refine hK.out _ _ (TK.out _ hbx) (fun hHeld => ?_)
       clear hK K hbx
       try simp only [tkP]
       refine rdy 4 fun K hK => ?_
       go_simp
       have hbx := bel_trans hbw (bel_alloc wv (Go.Obj.cells #[.map (some a1), .map (some b1), .map (some a2), .map (some b2), .map (some a3), .map (some b3), .map (some a4), .map (some b4), .map (some a5), .map (some b5), .slice aG gs.length cG, .slice (some ⟨bF, oF, none⟩) nf cF] 68))
       refine hK.out _ _ (TK.out _ hbx) (fun hHeld => ?_)
       clear hK K
       try simp only [tkP]
       refine wpAnyH_done (by kernel_rfl) ?_ _
       have hcl : (wv.alloc (Go.Obj.cells #[.map (some a1), .map (some b1), .map (some a2), .map (some b2), .map (some a3), .map (some b3), .map (some a4), .map (some b4), .map (some a5), .map (some b5), .slice aG gs.length cG, .slice (some ⟨bF, oF, none⟩) nf cF] 68)).heap[wv.heap.size]? = some (Go.Obj.cells #[.map (some a1), .map (some b1), .map (some a2), .map (some b2), .map (some a3), .map (some b3), .map (some a4), .map (some b4), .map (some a5), .map (some b5), .slice aG gs.length cG, .slice (some ⟨bF, oF, none⟩) nf cF] 68) := (MapKept.heap_alloc wv _).1
       have hV2 := hV.keep (bel_alloc wv (Go.Obj.cells #[.map (some a1), .map (some b1), .map (some a2), .map (some b2), .map (some a3), .map (some b3), .map (some a4), .map (some b4), .map (some a5), .map (some b5), .slice aG gs.length cG, .slice (some ⟨bF, oF, none⟩) nf cF] 68))
       clear hV
       generalize wv.alloc (Go.Obj.cells #[.map (some a1), .map (some b1), .map (some a2), .map (some b2), .map (some a3), .map (some b3), .map (some a4), .map (some b4), .map (some a5), .map (some b5), .slice aG gs.length cG, .slice (some ⟨bF, oF, none⟩) nf cF] 68) = V at *
       go_wp2_with fail
       go_meet
       exact ⟨wv.heap.size, a1, b1, a2, b2, a3, b3, a4, b4, a5, b5, rfl, ⟨at_cells hcl rfl, at_cells hcl rfl, at_cells hcl rfl, at_cells hcl rfl, at_cells hcl rfl, at_cells hcl rfl, at_cells hcl rfl, at_cells hcl rfl, at_cells hcl rfl, at_cells hcl rfl, at_cells hcl rfl, at_cells hcl rfl⟩, hV2, hbx⟩
      ·go_simp
       obtain ⟨Wz, hWz⟩ : ∃ Wz, Wz = (W1.alloc (Go.Obj.cells #[Value.map none, Value.map none, Value.map none, Value.map none, Value.map none, Value.map none, Value.map none, Value.map none, Value.map none, Value.map none, Value.slice none 0 0, Value.slice none 0 0] 68)).drew := ⟨_, rfl⟩
       rw [← hWz]
       have hbz : Below W1.heap.size W1 Wz := by rw [hWz]; exact (bel_alloc W1 _).drew
       have hcz : Wz.heap[W1.heap.size]? = some (Go.Obj.cells #[Value.map none, Value.map none, Value.map none, Value.map none, Value.map none, Value.map none, Value.map none, Value.map none, Value.map none, Value.map none, Value.slice none 0 0, Value.slice none 0 0] 68) := by rw [hWz]; exact (MapKept.heap_alloc W1 _).1
       clear hWz
       refine hK.out _ _ (TK.out _ hbz) (fun hHeld => ?_)
       clear hK K
       try simp only [tkP]
       refine rdy 0 fun K hK => ?_
       go_simp
       refine (vocI _).mono ?_
       rintro e wv ⟨vs, rfl, hV, hbv⟩
       have hbw := bel_trans hbz hbv
       obtain ⟨a1, b1, a2, b2, a3, b3, a4, b4, a5, b5, rfl, N1, N2, N3, N4, N5⟩ := id hV.ex
       refine hK.out _ _ (TK.out _ hbw) (fun hHeld => ?_)
       clear hK K
       try simp only [tkP]
       refine tks 1 [2] hHeld ?_
       try simp only [tkP]
       refine rdy 4 fun K hK => ?_
       have hr : wv.heap[W1.heap.size]? = some (Go.Obj.cells #[Value.map none, Value.map none, Value.map none, Value.map none, Value.map none, Value.map none, Value.map none, Value.map none, Value.map none, Value.map none, Value.slice none 0 0, Value.slice none 0 0] 68) := (hbv.block _ (Array.getElem?_eq_some_iff.1 hcz).1).trans hcz
       have R : Rw wv W1.heap.size 12 := rw_lst hr
       have hne : ∀ b L, Nmg wv L b → b ≠ W1.heap.size := fun b L h e => by
        exact tl128
       obtain ⟨l, hl⟩ : ∃ l : List Value, l = [.map (some a1), .map (some b1), .map (some a2), .map (some b2), .map (some a3), .map (some b3), .map (some a4), .map (some b4), .map (some a5), .map (some b5), .slice aG gs.length cG, .slice (some ⟨bF, oF, none⟩) nf cF] := ⟨_, rfl⟩
       have V : Kp (Voc (sets wv W1.heap.size 0 l) [.map (some a1), .map (some b1), .map (some a2), .map (some b2), .map (some a3), .map (some b3), .map (some a4), .map (some b4), .map (some a5), .map (some b5)]) := ⟨⟨a1, b1, a2, b2, a3, b3, a4, b4, a5, b5, rfl, N1.sets (hne _ _ N1) _ _ _, N2.sets (hne _ _ N2) _ _ _, N3.sets (hne _ _ N3) _ _ _, N4.sets (hne _ _ N4) _ _ _, N5.sets (hne _ _ N5) _ _ _⟩⟩
       have BL := Kp.mk (sets_bel (Nat.le_refl _) l wv 0 hbw)
       have AT := sets_at l wv 0 R (by rw [hl]; simp)
       have fz := rw_cells hr
       subst hl
       have Q : Kp (At (sets wv W1.heap.size 0 [.map (some a1), .map (some b1), .map (some a2), .map (some b2), .map (some a3), .map (some b3), .map (some a4), .map (some b4), .map (some a5), .map (some b5), .slice aG gs.length cG, .slice (some ⟨bF, oF, none⟩) nf cF]) W1.heap.size 0 (.map (some a1)) ∧ At (sets wv W1.heap.size 0 [.map (some a1), .map (some b1), .map (some a2), .map (some b2), .map (some a3), .map (some b3), .map (some a4), .map (some b4), .map (some a5), .map (some b5), .slice aG gs.length cG, .slice (some ⟨bF, oF, none⟩) nf cF]) W1.heap.size 1 (.map (some b1)) ∧ At (sets wv W1.heap.size 0 [.map (some a1), .map (some b1), .map (some a2), .map (some b2), .map (some a3), .map (some b3), .map (some a4), .map (some b4), .map (some a5), .map (some b5), .slice aG gs.length cG, .slice (some ⟨bF, oF, none⟩) nf cF]) W1.heap.size 2 (.map (some a2)) ∧ At (sets wv W1.heap.size 0 [.map (some a1), .map (some b1), .map (some a2), .map (some b2), .map (some a3), .map (some b3), .map (some a4), .map (some b4), .map (some a5), .map (some b5), .slice aG gs.length cG, .slice (some ⟨bF, oF, none⟩) nf cF]) W1.heap.size 3 (.map (some b2)) ∧ At (sets wv W1.heap.size 0 [.map (some a1), .map (some b1), .map (some a2), .map (some b2), .map (some a3), .map (some b3), .map (some a4), .map (some b4), .map (some a5), .map (some b5), .slice aG gs.length cG, .slice (some ⟨bF, oF, none⟩) nf cF]) W1.heap.size 4 (.map (some a3)) ∧ At (sets wv W1.heap.size 0 [.map (some a1), .map (some b1), .map (some a2), .map (some b2), .map (some a3), .map (some b3), .map (some a4), .map (some b4), .map (some a5), .map (some b5), .slice aG gs.length cG, .slice (some ⟨bF, oF, none⟩) nf cF]) W1.heap.size 5 (.map (some b3)) ∧ At (sets wv W1.heap.size 0 [.map (some a1), .map (some b1), .map (some a2), .map (some b2), .map (some a3), .map (some b3), .map (some a4), .map (some b4), .map (some a5), .map (some b5), .slice aG gs.length cG, .slice (some ⟨bF, oF, none⟩) nf cF]) W1.heap.size 6 (.map (some a4)) ∧ At (sets wv W1.heap.size 0 [.map (some a1), .map (some b1), .map (some a2), .map (some b2), .map (some a3), .map (some b3), .map (some a4), .map (some b4), .map (some a5), .map (some b5), .slice aG gs.length cG, .slice (some ⟨bF, oF, none⟩) nf cF]) W1.heap.size 7 (.map (some b4)) ∧ At (sets wv W1.heap.size 0 [.map (some a1), .map (some b1), .map (some a2), .map (some b2), .map (some a3), .map (some b3), .map (some a4), .map (some b4), .map (some a5), .map (some b5), .slice aG gs.length cG, .slice (some ⟨bF, oF, none⟩) nf cF]) W1.heap.size 8 (.map (some a5)) ∧ At (sets wv W1.heap.size 0 [.map (some a1), .map (some b1), .map (some a2), .map (some b2), .map (some a3), .map (some b3), .map (some a4), .map (some b4), .map (some a5), .map (some b5), .slice aG gs.length cG, .slice (some ⟨bF, oF, none⟩) nf cF]) W1.heap.size 9 (.map (some b5)) ∧ At (sets wv W1.heap.size 0 [.map (some a1), .map (some b1), .map (some a2), .map (some b2), .map (some a3), .map (some b3), .map (some a4), .map (some b4), .map (some a5), .map (some b5), .slice aG gs.length cG, .slice (some ⟨bF, oF, none⟩) nf cF]) W1.heap.size 10 (.slice aG gs.length cG) ∧ At (sets wv W1.heap.size 0 [.map (some a1), .map (some b1), .map (some a2), .map (some b2), .map (some a3), .map (some b3), .map (some a4), .map (some b4), .map (some a5), .map (some b5), .slice aG gs.length cG, .slice (some ⟨bF, oF, none⟩) nf cF]) W1.heap.size 11 (.slice (some ⟨bF, oF, none⟩) nf cF)) := ⟨⟨(by simpa using AT 0 (by simp)), (by simpa using AT 1 (by simp)), (by simpa using AT 2 (by simp)), (by simpa using AT 3 (by simp)), (by simpa using AT 4 (by simp)), (by simpa using AT 5 (by simp)), (by simpa using AT 6 (by simp)), (by simpa using AT 7 (by simp)), (by simpa using AT 8 (by simp)), (by simpa using AT 9 (by simp)), (by simpa using AT 10 (by simp)), (by simpa using AT 11 (by simp))⟩⟩
       have z0 : At wv W1.heap.size 0 (Value.map none) := at_cells hr rfl
       have z1 : At wv W1.heap.size 1 (Value.map none) := at_cells hr rfl
       have z2 : At wv W1.heap.size 2 (Value.map none) := at_cells hr rfl
       have z3 : At wv W1.heap.size 3 (Value.map none) := at_cells hr rfl
       have z4 : At wv W1.heap.size 4 (Value.map none) := at_cells hr rfl
       have z5 : At wv W1.heap.size 5 (Value.map none) := at_cells hr rfl
       have z6 : At wv W1.heap.size 6 (Value.map none) := at_cells hr rfl
       have z7 : At wv W1.heap.size 7 (Value.map none) := at_cells hr rfl
       have z8 : At wv W1.heap.size 8 (Value.map none) := at_cells hr rfl
       have z9 : At wv W1.heap.size 9 (Value.map none) := at_cells hr rfl
       have z10 : At wv W1.heap.size 10 (Value.slice none 0 0) := at_cells hr rfl
       have z11 : At wv W1.heap.size 11 (Value.slice none 0 0) := at_cells hr rfl
       clear N1 N2 N3 N4 N5 hne AT R hr hcz hV hbv hbw hbz
       simp only [sets, Nat.zero_add] at V BL Q
       go_simp
       generalize (((((((((((wv.setCell ⟨W1.heap.size, 0, none⟩ (.map (some a1))).setCell ⟨W1.heap.size, 1, none⟩ (.map (some b1))).setCell ⟨W1.heap.size, 2, none⟩ (.map (some a2))).setCell ⟨W1.heap.size, 3, none⟩ (.map (some b2))).setCell ⟨W1.heap.size, 4, none⟩ (.map (some a3))).setCell ⟨W1.heap.size, 5, none⟩ (.map (some b3))).setCell ⟨W1.heap.size, 6, none⟩ (.map (some a4))).setCell ⟨W1.heap.size, 7, none⟩ (.map (some b4))).setCell ⟨W1.heap.size, 8, none⟩ (.map (some a5))).setCell ⟨W1.heap.size, 9, none⟩ (.map (some b5))).setCell ⟨W1.heap.size, 10, none⟩ (.slice aG gs.length cG)).setCell ⟨W1.heap.size, 11, none⟩ (.slice (some ⟨bF, oF, none⟩) nf cF) = Y at *
       refine hK.out _ _ (TK.out _ BL.out) (fun hHeld => ?_)
       clear hK K
       try simp only [tkP]
       refine wpAnyH_done (by kernel_rfl) ?_ _
       have BLo := BL.out
       have Vo := V.out
       have Qo := Q
       go_wp2_with fail
       go_meet
       exact ⟨W1.heap.size, a1, b1, a2, b2, a3, b3, a4, b4, a5, b5, rfl, Q.out, V.out, BL.out⟩
     case rest =>
      obtain ⟨g, a1, b1, a2, b2, a3, b3, a4, b4, a5, b5, rfl, ⟨y0, y1, y2, y3, y4, y5, y6, y7, y8, y9, y10, y11⟩, hV, hbV⟩ := hcut
      obtain ⟨x0, x1, x2, x3, x4⟩ := EK.out _ hbV
      have hBW := bel_trans hB1 hbV
      have v0 := VK.out _ hBW
      obtain ⟨q0, q1, q2, q3, q4, q5, q6, q7, q8, -⟩ := AK.out _ hBW
      have QR : Kp (∀ d os, Calls Tryz.prog 34 _ (Go.Sort.grow (redrawn wc d) os) _) := ⟨fun d os => Calls.regrown_of (CR.out (Go.Sort.grow (redrawn wc d) os) (bel_trans hBW (below_regrown wc d os)))⟩
      have QL : Kp (∀ d os, Calls Tryz.prog 33 #[.agg #[.map (some a1), .map (some b1), .map (some a2), .map (some b2), .map (some a3), .map (some b3), .map (some a4), .map (some b4), .map (some a5), .map (some b5), .slice aG gs.length cG, .slice (some ⟨bF, oF, none⟩) nf cF], .agg #[.int .i64 op, .int .i64 ty, .int .i64 fl, .int .i64 pr, .int .i64 ca, .int .i64 sz, va, vb', vw], .int .i64 r] (Go.Sort.grow (redrawn wc d) os) _) := ⟨fun d os => Calls.regrown_of (CL.out (Go.Sort.grow (redrawn wc d) os) [.map (some a1), .map (some b1), .map (some a2), .map (some b2), .map (some a3), .map (some b3), .map (some a4), .map (some b4), .map (some a5), .map (some b5)] (bel_trans hBW (below_regrown wc d os)) (hV.keep (below_regrown wc d os)))⟩
      clear hV TK CL CR AK VK EK FK CS CF CB CJ hfd
      go_upto_region 7 with fail
      have ry0 := cell_regrown y0
      have ry1 := cell_regrown y1
      have ry2 := cell_regrown y2
      have ry3 := cell_regrown y3
      have ry4 := cell_regrown y4
      have ry5 := cell_regrown y5
      have ry6 := cell_regrown y6
      have ry7 := cell_regrown y7
      have ry8 := cell_regrown y8
      have ry9 := cell_regrown y9
      have ry10 := cell_regrown y10
      have ry11 := cell_regrown y11
      have rx0 := cell_regrown x0
      have rx1 := cell_regrown x1
      have rx2 := cell_regrown x2
      have rx3 := cell_regrown x3
      have rx4 := cell_regrown x4
      have rv0 := cell_regrown v0
      have rq0 := cell_regrown q0
      have rq1 := cell_regrown q1
      have rq2 := cell_regrown q2
      have rq3 := cell_regrown q3
      have rq4 := cell_regrown q4
      have rq5 := cell_regrown q5
      have rq6 := cell_regrown q6
      have rq7 := cell_regrown q7
      have rq8 := cell_regrown q8
      refine wp_region_quiet_below (by kernel_rfl) (by kernel_rfl) ?_
      repeat (go_big_quiet_step (fail))
      go_big_quiet_step (exact QR.out _ _)
      repeat (go_big_quiet_step (fail))
      go_big_quiet_step (exact QL.out _ _)
      repeat (go_big_quiet_step (fail))
      refine wpQuiet_nil ?_
      intro _ hw'
      obtain ⟨⟨dq, osq⟩, hw''⟩ := hw'
      subst hw''
      have hb4 := below_regrown wc dq osq
      generalize Go.Sort.grow (redrawn wc dq) osq = V at *
      go_wp2_with fail
      go_ret
      exact ⟨rfl, bel_trans B0.out (bel_trans hBW hb4)⟩
    ·replace h4 : isIx I fs[c].blocks[b].length = false := by simpa using h4
     have CJ := Kp.mk (fun w => CI.out I fs[c].blocks[b].length w u3)
     rw [h4] at CJ
     obtain rfl := hbad.out (fun h => by
      have h6 := h.2.2.2.2.2.2
      rw [Int.toNat_natCast, show fs[c].blocks.getD b [] = fs[c].blocks[b] by simp [List.getD_eq_getElem?_getD, hb]] at h6
      simp [isIx, h.2.2.2.2.2.1, h6] at h4)
     clear hbad hgd hM hq hm hbd hF hL hw t1 t2 h2 h3 h4 hfn B0 ec hqB hqI hvi hI s1 s2 u1 u2 CI
     replace B0 := Kp.mk (show Below w.heap.size w W0 by rw [hW.out]; exact bel_alloc _ _)
     obtain ⟨ni, hni⟩ : ∃ ni, fs[c].blocks[b].length = ni := ⟨_, rfl⟩
     rw [hni] at VK CJ u3
     clear hni
     obtain ⟨f, hf⟩ : ∃ f, fs[c] = f := ⟨_, rfl⟩
     rw [hf] at FK CB hltb hb s3
     clear hf hc hFc
     obtain ⟨fn, lk, ps, rs, bls⟩ := f
     dsimp only [fnV] at *
     generalize fs.length = nf at *
     generalize bls.length = nb at *
     generalize ps.length = np at *
     obtain ⟨d0, d1, d2, d3, d4, -⟩ := FK.out _ (Below.refl _ _)
     have v0 := VK.out _ (Below.refl _ _)
     go_enter Tryz.func13, Tryz.ntmps13
     go_upto_region 1 with fail
     rw [← hW.out]
     go_wp2_with fail
     refine (CS.out _ (Below.refl _ _)).mono ?_
     rintro e w1 ⟨rfl, hb1⟩
     clear m0 m1 d0 d1 d2 d3 d4 v0
     obtain ⟨m0, m1⟩ := SK.out _ hb1
     obtain ⟨d0, d1, d2, d3, d4, -⟩ := FK.out _ hb1
     go_wp2_with fail
     refine (CF.out _).mono ?_
     rintro e w2 ⟨rfl, hw2⟩
     rw [hw2]
     clear hw2 w2
     go_upto_region 4 with fail
     obtain ⟨W1, hW1⟩ : ∃ W1, W1 = w1.alloc (Go.Obj.cells #[.string fn, .int .i64 lk, .slice aP np cP, .int .i64 rs, .slice (some ⟨bB, oB, none⟩) nb cB] 53) := ⟨_, rfl⟩
     rw [← hW1]
     have hb12 : Below w1.heap.size w1 W1 := by rw [hW1]; exact bel_alloc _ _
     have hq1 : W1.heap[w1.heap.size]? = some (Go.Obj.cells #[.string fn, .int .i64 lk, .slice aP np cP, .int .i64 rs, .slice (some ⟨bB, oB, none⟩) nb cB] 53) := by rw [hW1]; exact (MapKept.heap_alloc w1 _).1
     have hB1 := bel_trans hb1 hb12
     have x4 : At W1 w1.heap.size 4 (.slice (some ⟨bB, oB, none⟩) nb cB) := at_cells hq1 rfl
     replace hW1 := Kp.mk hW1
     clear m0 m1 d0 d1 d2 d3 d4 hq1
     have v0 := VK.out _ hB1
     go_wp2_with fail
     refine (CB.out _).mono ?_
     rintro e w3 ⟨rfl, hw3⟩
     rw [hw3]
     clear hw3 w3
     go_wp2_with fail
     refine (CJ.out _).mono ?_
     rintro e w4 ⟨rfl, hw4⟩
     rw [hw4]
     clear hw4 w4
     go_wp2_with fail
     go_ret
     exact ⟨rfl, bel_trans B0.out hB1⟩
   ·replace h3 : isIx B fs[c].blocks.length = false := by simpa using h3
    have CB := Kp.mk (fun w => CI.out B fs[c].blocks.length w s3)
    rw [h3] at CB
    obtain rfl := hbad.out (fun h => by simp [isIx, h.2.2.2.1, h.2.2.2.2.1] at h3)
    clear hbad hgd hM hq hm hbd hF hL hw t1 t2 h2 h3 hfn B0 ec hqB s1 s2 CI
    replace B0 := Kp.mk (show Below w.heap.size w W0 by rw [hW.out]; exact bel_alloc _ _)
    obtain ⟨f, hf⟩ : ∃ f, fs[c] = f := ⟨_, rfl⟩
    rw [hf] at FK CB s3
    clear hf hc hFc
    obtain ⟨fn, lk, ps, rs, bls⟩ := f
    dsimp only [fnV] at *
    generalize fs.length = nf at *
    generalize bls.length = nb at *
    generalize ps.length = np at *
    obtain ⟨d0, d1, d2, d3, d4, -⟩ := FK.out _ (Below.refl _ _)
    go_enter Tryz.func13, Tryz.ntmps13
    go_upto_region 1 with fail
    rw [← hW.out]
    go_wp2_with fail
    refine (CS.out _ (Below.refl _ _)).mono ?_
    rintro e w1 ⟨rfl, hb1⟩
    clear m0 m1 d0 d1 d2 d3 d4
    obtain ⟨m0, m1⟩ := SK.out _ hb1
    obtain ⟨d0, d1, d2, d3, d4, -⟩ := FK.out _ hb1
    go_wp2_with fail
    refine (CF.out _).mono ?_
    rintro e w2 ⟨rfl, hw2⟩
    rw [hw2]
    clear hw2 w2
    go_upto_region 4 with fail
    obtain ⟨W1, hW1⟩ : ∃ W1, W1 = w1.alloc (Go.Obj.cells #[.string fn, .int .i64 lk, .slice aP np cP, .int .i64 rs, .slice aB nb cB] 53) := ⟨_, rfl⟩
    rw [← hW1]
    have hb12 : Below w1.heap.size w1 W1 := by rw [hW1]; exact bel_alloc _ _
    have hq1 : W1.heap[w1.heap.size]? = some (Go.Obj.cells #[.string fn, .int .i64 lk, .slice aP np cP, .int .i64 rs, .slice aB nb cB] 53) := by rw [hW1]; exact (MapKept.heap_alloc w1 _).1
    have hB1 := bel_trans hb1 hb12
    have x4 : At W1 w1.heap.size 4 (.slice aB nb cB) := at_cells hq1 rfl
    replace hW1 := Kp.mk hW1
    clear m0 m1 d0 d1 d2 d3 d4 hq1
    go_wp2_with fail
    refine (CB.out _).mono ?_
    rintro e w3 ⟨rfl, hw3⟩
    rw [hw3]
    clear hw3 w3
    go_wp2_with fail
    go_ret
    exact ⟨rfl, bel_trans B0.out hB1⟩
  ·replace h2 : isIx F fs.length = false := by simpa using h2
   have CF := Kp.mk (fun w => CI.out F fs.length w t3)
   rw [h2] at CF
   obtain rfl := hbad.out (fun h => by simp [isIx, h.2.1, h.2.2.1] at h2)
   clear hbad hgd hM hq hm hbd hF hL hw t1 t2 h2 CI
   go_enter Tryz.func13, Tryz.ntmps13
   go_upto_region 1 with fail
   rw [← hW.out]
   go_wp2_with fail
   refine (CS.out _ (Below.refl _ _)).mono ?_
   rintro e w1 ⟨rfl, hb1⟩
   clear m0 m1
   obtain ⟨m0, m1⟩ := SK.out _ hb1
   go_wp2_with fail
   refine (CF.out _).mono ?_
   rintro e w2 ⟨rfl, hw2⟩
   rw [hw2]
   clear hw2 w2
   go_wp2_with fail
   go_ret
   exact ⟨rfl, bel_trans B0 hb1⟩
 ·obtain rfl := hbad.out (fun h => h1 h.1)
  have hb : (f1 == 0) = false := beq_false_of_ne h1
  clear hbad hgd hM hq hm hbd hF hL hw t1 t2 CI
  go_enter Tryz.func13, Tryz.ntmps13
  exact tl60
end Go.Proofs.YtgdcgjlmkmdklaaGreatDoor

namespace Go.Proofs.YtgdcgjlmkmdklaaGreatDoor
open Go.ChangeShapes Go.WideShapes Go.ChangeAt Go.RowKit
open Go.Lib
set_option linter.unusedVariables false
set_option linter.unusedSimpArgs false
structure LtF (w : World) : Prop where
 l : Lt w
 f : FlO w
theorem LtF.below {w w' : World} (h : LtF w) (hb : Below w.heap.size w w') : LtF w' := ⟨h.l.below hb, h.f.below hb⟩
theorem ltf_of_laid {W : World} {x0 x1 : String × DataW Unit} {rest : List (String × DataW Unit)} (h : laidMet Tryz.prog (x0 :: x1 :: ("internal/strconv.uint64pow10", Lib.tabData .u64 Lib.pow10Tab) :: ("loop.example/g00010/impl.widths", Lib.tabData .i64 [1, 8, 16, 32, 64]) :: ("loop.example/g00010/impl.flagOrder", Lib.tabData .i64 [2, 1, 4]) :: rest) W) : LtF W :=
 ⟨lt_of_laid h, flo_of_laid h.tail.tail.tail.tail⟩
theorem wf_bd {c : Int} (h : (Lit.int .i64 c).wf = true) : -9223372036854775808 ≤ c ∧ c ≤ 9223372036854775807 := by
 simp only [Lit.wf, Bool.and_eq_true, decide_eq_true_eq] at h
 exact h
set_option maxRecDepth 100000 in
set_option maxHeartbeats 8000000 in
theorem fmtI_law (gs : List GlD) (fs : List FnD) (vg vf : Value) (F B I : Int) (wF : (Lit.int .i64 F).wf = true) (wB : (Lit.int .i64 B).wf = true) (wI : (Lit.int .i64 I).wf = true) (W : World) (hL : LtF W) (h : MoAt 0 W gs fs vg vf) (hB : MoB gs fs) :
  Calls Tryz.prog 4 #[moV vg vf, .int .i64 F, .int .i64 B, .int .i64 I] W fun e w' => e = .returned (.bool true) ∧ Below W.heap.size W w' := by
 have C1 : Kp (∀ w, MoAt 0 w gs fs vg vf → Calls Tryz.prog 6 _ w _) := ⟨fun w h => szMo gs fs vg vf 1048576 w h (by decide) (by decide)⟩
 have hnm := @moN_small gs fs
 have H := Kp.mk h
 have HL := Kp.mk hL
 by_cases hq : less 1048576 (moN gs fs) < 0
 ·obtain ⟨⟨a1, c1, rfl⟩, ⟨a2, c2, rfl⟩⟩ := h.shapes
  clear h hnm hL hB
  generalize less 1048576 (moN gs fs) = r at *
  go_enter Tryz.func4, Tryz.ntmps4
  go_wp2_with fail
  refine (C1.out _ (H.out.keep (bel_alloc _ _))).mono ?_
  exact tl47
 have hn := hnm (by omega)
 have bF := wf_bd wF
 have C2 : Kp (∀ w, MoAt 0 w gs fs vg vf → Calls Tryz.prog 8 _ w _) := ⟨fun w h => toMo gs fs vg vf w h hn⟩
 have C3 : Kp (∀ w l p r, MoAt l w gs fs p r → Calls Tryz.prog 12 #[.agg #[p, r], .int .i64 F, .int .i64 B, .int .i64 I] w fun e w' => e = .returned (.string (fiTx gs fs F B I)) ∧ Below w.heap.size w w') := ⟨fun w l p r h => fmtInS gs fs p r F B I w h hn hB bF⟩
 have C4 : Kp (∀ w l p r, MoAt l w gs fs p r → LtF w → Calls Tryz.prog 13 #[.agg #[p, r], .int .i64 F, .int .i64 B, .int .i64 I] w fun e w' => e = .returned (.string (fiTx gs fs F B I)) ∧ Below w.heap.size w w') := ⟨fun w l p r h hL => fmtInI gs fs p r F B I w h hn hB hL.l.wid hL.f hL.l⟩
 have C5 : Kp (∀ w l l2 p r p2 r2, MoAt l w gs fs p r → MoAt l2 w gs fs p2 r2 → Calls Tryz.prog 11 _ w _) := ⟨fun w l l2 p r p2 r2 h k => eqMo gs fs p r p2 r2 w h k hn⟩
 generalize fiTx gs fs F B I = T at *
 obtain ⟨⟨a1, c1, rfl⟩, ⟨a2, c2, rfl⟩⟩ := h.shapes
 clear h hnm hn hL hB bF wF wB wI
 dsimp only [moV] at *
 generalize less 1048576 (moN gs fs) = r at *
 go_enter Tryz.func4, Tryz.ntmps4
 go_wp2_with fail
 have BA := bel_alloc W (Go.Obj.cells #[.slice a1 gs.length c1, .slice a2 fs.length c2] 25)
 refine (C1.out _ (H.out.keep BA)).mono ?_
 rintro e w1 ⟨rfl, hb1⟩
 have B1 := bel_trans BA hb1
 have H1 := H.out.keep B1
 have m1 := kept_at (new_at W (Go.Obj.cells #[.slice a1 gs.length c1, .slice a2 fs.length c2] 25)) hb1
 have M1 : Kp (∀ w', Below w1.heap.size w1 w' → MoAt 0 w' gs fs (.slice a1 gs.length c1) (.slice a2 fs.length c2)) := ⟨fun w' h => H1.keep h⟩
 have MC : Kp (∀ w', Below w1.heap.size w1 w' → MoC w' W.heap.size (.slice a1 gs.length c1) (.slice a2 fs.length c2)) := ⟨fun w' h => moC_of (kept_at m1 h)⟩
 obtain ⟨a0, a1'⟩ := MC.out w1 (Below.refl _ _)
 clear hb1 BA m1
 go_wp2_with fail
 refine (C2.out _ (M1.out _ (Below.refl _ _))).mono ?_
 rintro e w2 ⟨vg2, vf2, rfl, H2, hb2, -⟩
 obtain ⟨⟨e2, k2, rfl⟩, ⟨g2, j2, rfl⟩⟩ := H2.shapes
 replace H2 := Kp.mk H2
 go_wp2_with fail
 refine (C3.out _ _ _ _ H2.out).mono ?_
 rintro e w3 ⟨rfl, hb3⟩
 have b13 := bel_trans hb2 hb3
 clear a0 a1'
 obtain ⟨a0, a1'⟩ := MC.out w3 b13
 go_wp2_with fail
 refine (C2.out _ (M1.out _ b13)).mono ?_
 rintro e w5 ⟨vg5, vf5, rfl, H5, hb5, -⟩
 obtain ⟨⟨e5, k5, rfl⟩, ⟨g5, j5, rfl⟩⟩ := H5.shapes
 clear a0 a1'
 go_upto_region 7 with fail
 obtain ⟨w6, hw6⟩ : ∃ w6, w6 = w5.alloc (Go.Obj.cells #[.slice e5 gs.length k5, .slice g5 fs.length j5] 33) := ⟨_, rfl⟩
 rw [← hw6]
 have b56 : Below w5.heap.size w5 w6 := by rw [hw6]; exact bel_alloc _ _
 have q6 : w6.heap[w5.heap.size]? = some (Go.Obj.cells #[.slice e5 gs.length k5, .slice g5 fs.length j5] 33) := by rw [hw6]; exact new_at w5 _
 replace hw6 := Kp.mk hw6
 have b36 := bel_trans hb5 b56
 have b16 := bel_trans b13 b36
 have H6 := H5.keep b56
 have H6K : Kp (∀ w', Below w6.heap.size w6 w' → MoAt _ w' gs fs (.slice e5 gs.length k5) (.slice g5 fs.length j5)) := ⟨fun w' h => H6.keep h⟩
 have x0 : At w6 w5.heap.size 0 _ := cells_at q6 rfl
 have x1 : At w6 w5.heap.size 1 _ := cells_at q6 rfl
 clear H5 H6 H2
 go_wp2_with fail
 refine (C4.out _ _ _ _ (H6K.out _ (Below.refl _ _)) (HL.out.below (bel_trans B1 b16))).mono ?_
 rintro e w9 ⟨rfl, b69⟩
 have b19 := bel_trans b16 b69
 have B9 := bel_trans B1 b19
 have q69 := kept_at q6 b69
 have H9 : Kp (∀ w', Below w9.heap.size w9 w' → MoAt _ w' gs fs (.slice e5 gs.length k5) (.slice g5 fs.length j5)) := ⟨fun w' h => H6K.out _ (bel_trans b69 h)⟩
 have M9 : Kp (∀ w', Below w9.heap.size w9 w' → MoAt 0 w' gs fs (.slice a1 gs.length c1) (.slice a2 fs.length c2)) := ⟨fun w' h => M1.out _ (bel_trans b19 h)⟩
 have ZK : Kp (∀ w', Below w9.heap.size w9 w' → w'.heap[w5.heap.size]? = _) := ⟨fun w' h => kept_at q69 h⟩
 clear x0 x1
 obtain ⟨a0, a1'⟩ := MC.out w9 b19
 have x0 : At w9 w5.heap.size 0 _ := cells_at q69 rfl
 have x1 : At w9 w5.heap.size 1 _ := cells_at q69 rfl
 clear q69 q6
 go_upto_region 10 with fail
 exact tl52
end Go.Proofs.YtgdcgjlmkmdklaaGreatDoor
