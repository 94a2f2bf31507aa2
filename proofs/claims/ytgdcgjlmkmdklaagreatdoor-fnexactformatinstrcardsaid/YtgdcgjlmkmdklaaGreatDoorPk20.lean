/- Texts of one claim. -/
import Derived.Test.YtgdcgjlmkmdklaaGreatDoorPk0
import Derived.Test.YtgdcgjlmkmdklaaGreatDoorPk15
import Derived.Test.YtgdcgjlmkmdklaaGreatDoorPk19
namespace Go.Proofs.YtgdcgjlmkmdklaaGreatDoor
open Go.ChangeShapes Go.WideShapes Go.ChangeAt Go.RowKit
set_option linter.unusedVariables false
set_option linter.unusedSimpArgs false
theorem any_all (α : Type) (xs : List α) (p : α → Prop) [DecidablePred p] : (xs.any fun q => decide (p q)) = !(xs.all fun q => decide (¬ p q)) := by
 rw [List.not_all_eq_any_not]
 simp
set_option maxRecDepth 100000 in
set_option maxHeartbeats 4000000 in
theorem gloI (gs : List GlD) (fs : List FnD) (vg vf : Value) (k : Nat) (w : World) {lo : Nat} (h : MoAt lo w gs fs vg vf) (hk : k < gs.length) :
  Calls Tryz.prog 23 #[.agg #[vg, vf], .int .i64 k] w fun e w' => e = .returned (.bool (gloB gs k)) ∧ Below w.heap.size w w' := by
 obtain ⟨af, kf, rfl⟩ := h.f.shape
 obtain ⟨b, o, ⟨⟨ag, kg, rfl, s1, s2⟩, s3⟩, -, hc⟩ := h.g.ex
 have g1 : (gs.length : Int) ≤ 140737488355328 := by omega
 obtain rfl := s2 (by omega)
 obtain ⟨vb, hg⟩ := hc k hk
 obtain ⟨W0, hW⟩ : ∃ W0, W0 = w.alloc (Go.Obj.cells #[.slice (some ⟨b, o, none⟩) gs.length kg, .slice af fs.length kf] 33) := ⟨_, rfl⟩
 have BB : Below w.heap.size w W0 := by rw [hW]; exact bel_alloc w _
 have hx : W0.heap[w.heap.size]? = some (Go.Obj.cells #[.slice (some ⟨b, o, none⟩) gs.length kg, .slice af fs.length kf] 33) := by rw [hW]; exact new_at w _
 have hz0 : Kp (W0.heap.size = w.heap.size + 1) := ⟨by rw [hW]; simp⟩
 obtain ⟨hnm, d0, d1, d2, d3, d4, hy⟩ := hg.keep BB
 obtain ⟨_, _, ⟨⟨ay, ky, rfl, -, -⟩, hyl⟩, -, -⟩ := hy.ex
 have hGL : Kp (gloB gs k = (nmB gs[k].name && (((gs.take k).all fun h => decide (h.name ≠ gs[k].name)) && (decide (0 ≤ gs[k].link) && (decide (gs[k].link ≤ 3) && (decide (1 ≤ gs[k].size) && (decide (gs[k].size ≤ 256) && (decide ((gs[k].bytes.length : Int) ≤ gs[k].size) && (decide (gs[k].link ≠ 0) || decide (gs[k].bytes.length = 0)))))))))) := ⟨by
  unfold gloB
  rw [glD_get hk]⟩
 have HG : Kp (∀ W, Below w.heap.size w W → Calls Tryz.prog 54 #[.slice (some ⟨b, o, none⟩) k kg, .string gs[k].name] W fun e w' => e = .returned (.bool (!((gs.take k).all fun h => decide (h.name ≠ gs[k].name)))) ∧ Below W.heap.size W w') := ⟨fun W hB => by
  have q := hasGlobalI (some ⟨b, o, none⟩) k kg gs b o gs[k].name W (by omega) (by omega) (by omega) (fun _ => rfl) (fun i hi => by
   obtain ⟨vb, r⟩ := hc i hi
   exact ⟨vb, r.keep hB⟩)
  rw [any_all] at q
  exact q⟩
 have VN : Kp (∀ W, Calls Tryz.prog 53 #[.string gs[k].name] W fun e w' => e = .returned (.bool (nmB gs[k].name)) ∧ Below W.heap.size W w') := ⟨fun W => (vnI gs[k].name W (by unfold maxLen; omega)).mono (fun e w' h => ⟨h.1, by rw [h.2]; exact Below.refl _ _⟩)⟩
 have LK : Kp (∀ W, Calls Tryz.prog 55 #[.int .i64 gs[k].link] W fun e w' => e = .returned (.bool (decide (0 ≤ gs[k].link) && decide (gs[k].link ≤ 3))) ∧ Below W.heap.size W w') := ⟨fun W => (isLinkI gs[k].link W).mono (fun e w' h => ⟨h.1, by rw [h.2]; exact Below.refl _ _⟩)⟩
 obtain ⟨R, hR⟩ : ∃ R, R = gloB gs k := ⟨_, rfl⟩
 rw [← hR]
 rw [← hR] at hGL
 generalize ((gs.take k).all fun h => decide (h.name ≠ gs[k].name)) = AL at *
 generalize nmB gs[k].name = NV at *
 generalize gs[k].name = name at *
 generalize gs[k].link = LNK at *
 generalize gs[k].size = SZ at *
 generalize gs[k].fx = FX at *
 generalize gs[k].bytes.length = BL at *
 have hyl' : (BL : Int) ≤ 140737488355328 := by omega
 have hk' : (k : Int) < gs.length := by omega
 have hkc : (k : Int) ≤ kg := by omega
 obtain ⟨W1, hW1⟩ : ∃ W1, W1 = W0.alloc (Go.Obj.cells #[.string name, .int .i64 LNK, .bool FX, .int .i64 SZ, .slice ay BL ky] 77) := ⟨_, rfl⟩
 have B1 : Below W0.heap.size W0 W1 := by rw [hW1]; exact bel_alloc _ _
 have X1 : W1.heap[W0.heap.size]? = some (Go.Obj.cells #[.string name, .int .i64 LNK, .bool FX, .int .i64 SZ, .slice ay BL ky] 77) := by
  have q := new_at W0 (Go.Obj.cells #[.string name, .int .i64 LNK, .bool FX, .int .i64 SZ, .slice ay BL ky] 77)
  rwa [← hW1] at q
 have BB1 := bel_trans BB B1
 have x0 : At W0 w.heap.size 0 _ := cells_at hx rfl
 have m0 := at_keep x0 B1
 have n0 : At W1 W0.heap.size 0 _ := cells_at X1 rfl
 have n1 : At W1 W0.heap.size 1 _ := cells_at X1 rfl
 have GC : Kp (∀ W, Below W1.heap.size W1 W → At W W0.heap.size 1 (.int .i64 LNK) ∧ At W W0.heap.size 3 (.int .i64 SZ) ∧ At W W0.heap.size 4 (.slice ay BL ky)) := ⟨fun W hB => ⟨cells_at (kept_at X1 hB) rfl, cells_at (kept_at X1 hB) rfl, cells_at (kept_at X1 hB) rfl⟩⟩
 have km0 := cell_regrown m0
 have kn0 := cell_regrown n0
 have kn1 := cell_regrown n1
 replace hW := Kp.mk hW
 replace hW1 := Kp.mk hW1
 clear hR hk h hc hg hy hx X1 s2 m0 n0 n1
 cases NV with
 | false =>
  have hf : Kp (R = false) := ⟨by rw [hGL.out]; simp⟩
  have V2 : Kp (∀ d os, Calls Tryz.prog 53 _ (Go.Sort.grow (redrawn W1 d) os) _) := ⟨fun d os => Calls.regrown_of (VN.out _)⟩
  clear hGL HG LK
  go_enter Tryz.func23, Tryz.ntmps23
  exact tl150
 | true =>
  have V2 : Kp (∀ d os, Calls Tryz.prog 53 _ (Go.Sort.grow (redrawn W1 d) os) _) := ⟨fun d os => Calls.regrown_of (VN.out _)⟩
  have H2 : Kp (∀ d os, Calls Tryz.prog 54 _ (Go.Sort.grow (redrawn W1 d) os) _) := ⟨fun d os => Calls.regrown_of (HG.out _ (bel_trans BB1 (below_regrown W1 d os)))⟩
  cases AL with
  | false =>
   simp only [Bool.not_false] at H2
   have hf : Kp (R = false) := ⟨by rw [hGL.out]; simp⟩
   clear hGL HG LK
   go_enter Tryz.func23, Tryz.ntmps23
   exact tl145
  | true =>
   simp only [Bool.not_true] at H2
   have hq0 : Kp ((decide (0 ≤ LNK) && decide (LNK ≤ 3)) = true ∨ (decide (0 ≤ LNK) && decide (LNK ≤ 3)) = false) := ⟨by cases (decide (0 ≤ LNK) && decide (LNK ≤ 3)) <;> simp⟩
   rcases hq0.out with hl | hl
   ·rw [hl] at LK
    have L2 : Kp (∀ d os, Calls Tryz.prog 55 _ (Go.Sort.grow (redrawn W1 d) os) _) := ⟨fun d os => Calls.regrown_of (LK.out _)⟩
    have hG2 : Kp (R = (decide (1 ≤ SZ) && (decide (SZ ≤ 256) && (decide ((BL : Int) ≤ SZ) && (decide (LNK ≠ 0) || decide ((BL : Int) = 0)))))) := ⟨by
     rw [hGL.out]
     simp only [Bool.and_eq_true] at hl
     rw [hl.1, hl.2]
     simp⟩
    clear hGL HG LK hl hq0
    go_enter Tryz.func23, Tryz.ntmps23
    go_upto_region 1 with fail
    rw [← hW.out]
    go_upto_region 2 with fail
    rw [← hW1.out]
    refine wp_region_quiet_below (by kernel_rfl) (by kernel_rfl) ?_
    repeat (go_big_quiet_step (fail))
    go_big_quiet_step (exact V2.out _ _)
    repeat (go_big_quiet_step (fail))
    go_big_quiet_step (exact H2.out _ _)
    repeat (go_big_quiet_step (fail))
    go_big_quiet_step (exact L2.out _ _)
    repeat (go_big_quiet_step (fail))
    refine wpQuiet_nil ?_
    intro _ hw'
    obtain ⟨⟨dq, osq⟩, hw''⟩ := hw'
    subst hw''
    have hq := below_regrown W1 dq osq
    obtain ⟨y1, y3, y4⟩ := GC.out _ hq
    go_wp2_with fail
    all_goals
     go_ret
     refine ⟨ret_bool ?_, bel_trans BB1 hq⟩
     rw [hG2.out, Bool.eq_iff_iff]
     simp
     omega
   ·rw [hl] at LK
    have L2 : Kp (∀ d os, Calls Tryz.prog 55 _ (Go.Sort.grow (redrawn W1 d) os) _) := ⟨fun d os => Calls.regrown_of (LK.out _)⟩
    have hf : Kp (R = false) := ⟨by
     rw [hGL.out]
     exact (show ∀ a b c : Bool, (a && b) = false → (true && (true && (a && (b && c)))) = false by decide) _ _ _ hl⟩
    clear hGL HG LK hl hq0
    go_enter Tryz.func23, Tryz.ntmps23
    go_upto_region 1 with fail
    rw [← hW.out]
    go_upto_region 2 with fail
    rw [← hW1.out]
    refine wp_region_quiet_below (by kernel_rfl) (by kernel_rfl) ?_
    repeat (go_big_quiet_step (fail))
    go_big_quiet_step (exact V2.out _ _)
    repeat (go_big_quiet_step (fail))
    go_big_quiet_step (exact H2.out _ _)
    repeat (go_big_quiet_step (fail))
    go_big_quiet_step (exact L2.out _ _)
    exact tl19
set_option maxRecDepth 100000 in
set_option maxHeartbeats 4000000 in
theorem heaI (gs : List GlD) (fs : List FnD) (vg vf : Value) (k : Nat) (w : World) {lo : Nat} (h : MoAt lo w gs fs vg vf) (hk : k < fs.length) (hn : moN gs fs ≤ 1048576) (hw : Wid w) :
  Calls Tryz.prog 24 #[.agg #[vg, vf], .int .i64 k] w fun e w' => e = .returned (.bool (heaB gs fs k)) ∧ Below w.heap.size w w' := by
 obtain ⟨b, o, ⟨⟨af, kf, rfl, s1, s2⟩, s3⟩, -, hc⟩ := h.f.ex
 obtain ⟨bg, og, ⟨⟨ag, kg, rfl, r1, r2⟩, r3⟩, -, hgc⟩ := h.g.ex
 have g1 : (fs.length : Int) ≤ 140737488355328 := by omega
 have g2 : (gs.length : Int) ≤ 140737488355328 := by omega
 obtain rfl := s2 (by omega)
 obtain ⟨vp, vb, hf⟩ := hc k hk
 have hfn : fnN fs[k] ≤ 1048576 := by
  exact tl86
 obtain ⟨W0, hW⟩ : ∃ W0, W0 = w.alloc (Go.Obj.cells #[.slice ag gs.length kg, .slice (some ⟨b, o, none⟩) fs.length kf] 33) := ⟨_, rfl⟩
 have BB : Below w.heap.size w W0 := by rw [hW]; exact bel_alloc w _
 have hz0 : Kp (W0.heap.size = w.heap.size + 1) := ⟨by rw [hW]; simp⟩
 have hx : W0.heap[w.heap.size]? = some (Go.Obj.cells #[.slice ag gs.length kg, .slice (some ⟨b, o, none⟩) fs.length kf] 33) := by rw [hW]; exact new_at w _
 obtain ⟨d0, d1, d2, d3, d4, hF⟩ := hf.keep BB
 have hcal : calD fs (k : Int) = fs[k] := calD_get hk
 have HG : Kp (∀ W, Below w.heap.size w W → Calls Tryz.prog 54 #[.slice ag gs.length kg, .string fs[k].name] W fun e w' => e = .returned (.bool (!(gs.all fun h => decide (h.name ≠ fs[k].name)))) ∧ Below W.heap.size W w') := ⟨fun W hB => by
  have q := hasGlobalI ag gs.length kg gs bg og fs[k].name W (by omega) (by omega) (by omega) (fun hp => r2 hp) (fun i hi => by
   obtain ⟨vb, r⟩ := hgc i hi
   exact ⟨vb, r.keep hB⟩)
  rw [List.take_length, any_all] at q
  exact q⟩
 have HF : Kp (∀ W, Below w.heap.size w W → Calls Tryz.prog 56 #[.slice (some ⟨b, o, none⟩) k kf, .string fs[k].name] W fun e w' => e = .returned (.bool (!((fs.take k).all fun h => decide (h.name ≠ fs[k].name)))) ∧ Below W.heap.size W w') := ⟨fun W hB => by
  have q := hasFuncI (some ⟨b, o, none⟩) k kf fs b o fs[k].name W (by omega) (by omega) (by omega) (fun _ => rfl) (fun i hi => by
   obtain ⟨vp, vb, r⟩ := hc i hi
   exact ⟨vp, vb, r.keep hB⟩)
  rw [any_all] at q
  exact q⟩
 generalize hX : fs[k] = X at *
 obtain ⟨name, link, params, res, blocks⟩ := X
 dsimp only at *
 have hF' := hF
 obtain ⟨hnm, hp, hb⟩ := hF
 obtain ⟨_, _, ⟨⟨ap, kp, rfl, -, -⟩, p3⟩, -, -⟩ := hp.ex
 obtain ⟨_, _, ⟨⟨ab, kb, rfl, -, -⟩, b3⟩, -, -⟩ := hb.ex
 dsimp only at *
 have hHE : Kp (heaB gs fs k = (nmB name && ((gs.all fun h => decide (h.name ≠ name)) && (((fs.take k).all fun h => decide (h.name ≠ name)) && ((decide (0 ≤ link) && decide (link ≤ 3)) && (sigB ⟨name, link, params, res, blocks⟩ && extB ⟨name, link, params, res, blocks⟩)))))) := ⟨by
  unfold heaB
  rw [hcal]
  simp [extB, Bool.and_assoc]⟩
 have VN : Kp (∀ W, Calls Tryz.prog 53 #[.string name] W fun e w' => e = .returned (.bool (nmB name)) ∧ Below W.heap.size W w') := ⟨fun W => (vnI name W (by unfold maxLen; omega)).mono (fun e w' h => ⟨h.1, by rw [h.2]; exact Below.refl _ _⟩)⟩
 have LK : Kp (∀ W, Calls Tryz.prog 55 #[.int .i64 link] W fun e w' => e = .returned (.bool (decide (0 ≤ link) && decide (link ≤ 3))) ∧ w' = W) := ⟨fun W => isLinkI link W⟩
 have SG : Kp (∀ W, Below W0.heap.size W0 W → Calls Tryz.prog 57 #[.agg #[.string name, .int .i64 link, .slice ap params.length kp, .int .i64 res, .slice ab blocks.length kb]] W fun e w' => e = .returned (.bool (sigB ⟨name, link, params, res, blocks⟩)) ∧ Below W.heap.size W w') := ⟨fun W hB => sigI ⟨name, link, params, res, blocks⟩ _ _ W (hF'.keep hB) (hw.below (bel_trans BB hB))⟩
 have EX : Kp (∀ W, Below W0.heap.size W0 W → Calls Tryz.prog 58 #[.agg #[.string name, .int .i64 link, .slice ap params.length kp, .int .i64 res, .slice ab blocks.length kb]] W fun e w' => e = .returned (.bool (extB ⟨name, link, params, res, blocks⟩)) ∧ Below W.heap.size W w') := ⟨fun W hB => extI ⟨name, link, params, res, blocks⟩ _ _ W (hF'.keep hB) hfn⟩
 obtain ⟨R, hR⟩ : ∃ R, R = heaB gs fs k := ⟨_, rfl⟩
 rw [← hR]
 rw [← hR] at hHE
 generalize (gs.all fun h => decide (h.name ≠ name)) = AG at *
 generalize ((fs.take k).all fun h => decide (h.name ≠ name)) = AF at *
 generalize sigB ⟨name, link, params, res, blocks⟩ = SV at *
 generalize extB ⟨name, link, params, res, blocks⟩ = EV at *
 generalize (decide (0 ≤ link) && decide (link ≤ 3)) = LV at *
 generalize nmB name = NV at *
 have hk' : (k : Int) < fs.length := by omega
 have hkc : (k : Int) ≤ kf := by omega
 obtain ⟨W1, hW1⟩ : ∃ W1, W1 = W0.alloc (Go.Obj.cells #[.string name, .int .i64 link, .slice ap params.length kp, .int .i64 res, .slice ab blocks.length kb] 53) := ⟨_, rfl⟩
 have B1 : Below W0.heap.size W0 W1 := by rw [hW1]; exact bel_alloc _ _
 have X1 : W1.heap[W0.heap.size]? = some (Go.Obj.cells #[.string name, .int .i64 link, .slice ap params.length kp, .int .i64 res, .slice ab blocks.length kb] 53) := by
  have q := new_at W0 (Go.Obj.cells #[.string name, .int .i64 link, .slice ap params.length kp, .int .i64 res, .slice ab blocks.length kb] 53)
  rwa [← hW1] at q
 have BB1 := bel_trans BB B1
 have x1 : At W0 w.heap.size 1 _ := cells_at hx rfl
 have x0 : At W0 w.heap.size 0 _ := cells_at hx rfl
 have m0 := at_keep x0 B1
 have m1 := at_keep x1 B1
 have n0 : At W1 W0.heap.size 0 _ := cells_at X1 rfl
 have FC : Kp (∀ W, Below W1.heap.size W1 W → FnC W W0.heap.size name link res (.slice ap params.length kp) (.slice ab blocks.length kb)) := ⟨fun W hB => fnC_of (kept_at X1 hB)⟩
 have km0 := cell_regrown m0
 have km1 := cell_regrown m1
 have kn0 := cell_regrown n0
 have V2 : Kp (∀ d os, Calls Tryz.prog 53 _ (Go.Sort.grow (redrawn W1 d) os) _) := ⟨fun d os => Calls.regrown_of (VN.out _)⟩
 have H2 : Kp (∀ d os, Calls Tryz.prog 54 _ (Go.Sort.grow (redrawn W1 d) os) _) := ⟨fun d os => Calls.regrown_of (HG.out _ (bel_trans BB1 (below_regrown W1 d os)))⟩
 have F2 : Kp (∀ d os, Calls Tryz.prog 56 _ (Go.Sort.grow (redrawn W1 d) os) _) := ⟨fun d os => Calls.regrown_of (HF.out _ (bel_trans BB1 (below_regrown W1 d os)))⟩
 replace hW := Kp.mk hW
 replace hW1 := Kp.mk hW1
 clear hR hk h hc hgc hf hp hb hF' hX hcal hfn hn hw hx X1 s2 m0 m1 n0 x0 VN HG HF
 cases NV with
 | false =>
  have hf : Kp (R = false) := ⟨by rw [hHE.out]; simp⟩
  clear hHE H2 F2 LK SG EX
  go_enter Tryz.func24, Tryz.ntmps24
  exact tl150
 | true =>
  cases AG with
  | false =>
   simp only [Bool.not_false] at H2
   have hf : Kp (R = false) := ⟨by rw [hHE.out]; simp⟩
   clear hHE F2 LK SG EX
   go_enter Tryz.func24, Tryz.ntmps24
   exact tl145
  | true =>
   simp only [Bool.not_true] at H2
   cases AF with
   | false =>
    simp only [Bool.not_false] at F2
    have hf : Kp (R = false) := ⟨by rw [hHE.out]; simp⟩
    clear hHE LK SG EX
    go_enter Tryz.func24, Tryz.ntmps24
    go_upto_region 1 with fail
    rw [← hW.out]
    go_upto_region 2 with fail
    rw [← hW1.out]
    refine wp_region_quiet_below (by kernel_rfl) (by kernel_rfl) ?_
    repeat (go_big_quiet_step (fail))
    go_big_quiet_step (exact V2.out _ _)
    repeat (go_big_quiet_step (fail))
    go_big_quiet_step (exact H2.out _ _)
    repeat (go_big_quiet_step (fail))
    go_big_quiet_step (exact F2.out _ _)
    exact tl19
   | true =>
    simp only [Bool.not_true] at F2
    have hf : Kp (R = (LV && (SV && EV))) := ⟨by rw [hHE.out]; simp⟩
    clear hHE
    go_enter Tryz.func24, Tryz.ntmps24
    go_upto_region 1 with fail
    rw [← hW.out]
    go_upto_region 2 with fail
    rw [← hW1.out]
    refine wp_region_quiet_below (by kernel_rfl) (by kernel_rfl) ?_
    repeat (go_big_quiet_step (fail))
    go_big_quiet_step (exact V2.out _ _)
    repeat (go_big_quiet_step (fail))
    go_big_quiet_step (exact H2.out _ _)
    repeat (go_big_quiet_step (fail))
    go_big_quiet_step (exact F2.out _ _)
    repeat (go_big_quiet_step (fail))
    refine wpQuiet_nil ?_
    intro _ hw'
    obtain ⟨⟨dq, osq⟩, hw''⟩ := hw'
    subst hw''
    have hq := below_regrown W1 dq osq
    obtain ⟨y0, y1, y2, y3, y4⟩ := FC.out _ hq
    have bq := bel_trans B1 hq
    cases LV with
    | false =>
     go_wp2_with fail
     refine (LK.out _).mono ?_
     rintro e w2 ⟨rfl, rfl⟩
     go_wp2_with fail
     go_ret
     exact ⟨ret_bool (by rw [hf.out]; rfl), bel_trans BB bq⟩
    | true =>
     cases SV with
     | false =>
      go_wp2_with fail
      refine (LK.out _).mono ?_
      rintro e w2 ⟨rfl, hw2⟩
      subst w2
      go_wp2_with fail
      refine (SG.out _ bq).mono ?_
      rintro e w3 ⟨rfl, hb3⟩
      go_wp2_with fail
      go_ret
      exact ⟨ret_bool (by rw [hf.out]; rfl), bel_trans BB (bel_trans bq hb3)⟩
     | true =>
      go_wp2_with fail
      refine (LK.out _).mono ?_
      rintro e w2 ⟨rfl, hw2⟩
      subst w2
      go_wp2_with fail
      refine (SG.out _ bq).mono ?_
      rintro e w3 ⟨rfl, hb3⟩
      obtain ⟨z0, z1, z2, z3, z4⟩ := FC.out _ (bel_trans hq hb3)
      clear y0 y1 y2 y3 y4
      go_wp2_with fail
      refine (EX.out _ (bel_trans bq hb3)).mono ?_
      rintro e w4 ⟨rfl, hb4⟩
      go_wp2_with fail
      go_ret
      exact ⟨ret_bool (by rw [hf.out]; rfl), bel_trans BB (bel_trans (bel_trans bq hb3) hb4)⟩
end Go.Proofs.YtgdcgjlmkmdklaaGreatDoor
