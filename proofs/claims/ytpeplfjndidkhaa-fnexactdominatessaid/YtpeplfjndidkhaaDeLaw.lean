/- The law that compares Dominates of the program with its model. -/
import Derived.Test.YtpeplfjndidkhaaDe1
import Derived.Test.YtpeplfjndidkhaaDe2
import Derived.Deep.RegionHeld3
namespace Go.Proofs.Ytpeplfjndidkhaa
open Go.ChangeShapes Go.WideShapes Go.ChangeAt Go.RowKit
set_option linter.unusedVariables false
set_option linter.unusedSimpArgs false
set_option maxRecDepth 100000 in
set_option maxHeartbeats 2000000 in
theorem domt_law (d : FnD) (vp vb : Value) (B I : Int) (W : World) {lo : Nat} (h : FnAt lo W d vp vb) :
    Calls Try.prog 4 #[fnV d vp vb, .int .i64 B, .int .i64 I] W fun e w' => e = .returned (.bool true) ∧ Below W.heap.size W w' := by
  have C1 : Kp (∀ w, FnAt lo w d vp vb → Calls Try.prog 8 _ w _) := ⟨fun w h => szFn d vp vb 1048576 w h (by decide) (by decide)⟩
  have hnm := fnN_small d
  have H := Kp.mk h
  by_cases hq : less 1048576 (fnN d) < 0
  · obtain ⟨⟨a1, c1, rfl⟩, ⟨a2, c2, rfl⟩⟩ := h.shapes
    clear h hnm
    generalize less 1048576 (fnN d) = r at *
    go_enter Try.func4, Try.ntmps4
    go_wp2_with fail
    refine (C1.out _ (H.out.keep (bel_alloc _ _))).mono ?_
    rintro e w1 ⟨rfl, hb1⟩
    go_wp2_with fail
    go_ret
    exact ⟨rfl, bel_trans (bel_alloc _ _) hb1⟩
  have hn := hnm (by omega)
  have C2 : Kp (∀ w, FnAt lo w d vp vb → Calls Try.prog 10 _ w _) := ⟨fun w h => toFn d vp vb w h hn⟩
  have C3 : Kp (∀ w l p q, FnAt l w d p q → Calls Try.prog 17 _ w _) := ⟨fun w l p q h => domtS d p q B I w h hn⟩
  have C4 : Kp (∀ w l p q, FnAt l w d p q → Calls Try.prog 18 _ w _) := ⟨fun w l p q h => domtI d p q B I w h hn⟩
  have C5 : Kp (∀ w l l2 p q p2 q2, FnAt l w d p q → FnAt l2 w d p2 q2 → Calls Try.prog 13 _ w _) := ⟨fun w l l2 p q p2 q2 h k => eqFn d p q p2 q2 w h k hn⟩
  obtain ⟨R, hR⟩ : ∃ R, R = dmB d.blocks B I := ⟨_, rfl⟩
  rw [← hR] at C3 C4
  obtain ⟨⟨a1, c1, rfl⟩, ⟨a2, c2, rfl⟩⟩ := h.shapes
  clear h hnm hn hR
  obtain ⟨name, link, params, res, blocks⟩ := d
  dsimp only [fnV] at *
  generalize less 1048576 (fnN ⟨name, link, params, res, blocks⟩) = r at *
  go_enter Try.func4, Try.ntmps4
  go_wp2_with fail
  refine (C1.out _ (H.out.keep (bel_alloc _ _))).mono ?_
  rintro e w1 ⟨rfl, hb1⟩
  have B1 := bel_trans (bel_alloc _ _) hb1
  have H1 := H.out.keep B1
  have x1 := keep_cells (new_cells W _) hb1
  have x10 : w1.cell? ⟨W.heap.size, 0, none⟩ = _ := at_cells x1 rfl
  have x11 : w1.cell? ⟨W.heap.size, 1, none⟩ = _ := at_cells x1 rfl
  have x12 : w1.cell? ⟨W.heap.size, 2, none⟩ = _ := at_cells x1 rfl
  have x13 : w1.cell? ⟨W.heap.size, 3, none⟩ = _ := at_cells x1 rfl
  have x14 : w1.cell? ⟨W.heap.size, 4, none⟩ = _ := at_cells x1 rfl
  go_wp2_with fail
  refine (C2.out _ H1).mono ?_
  rintro e w2 ⟨vp2, vb2, rfl, H2, hb2, -⟩
  have H2' := Kp.mk (C3.out _ _ _ _ H2)
  go_wp2_with fail
  refine H2'.out.mono ?_
  rintro e w3 ⟨rfl, hb3⟩
  have B3 := bel_trans (bel_trans B1 hb2) hb3
  have H3 := H.out.keep B3
  have x3 := keep_cells (keep_cells x1 hb2) hb3
  have x30 : w3.cell? ⟨W.heap.size, 0, none⟩ = _ := at_cells x3 rfl
  have x31 : w3.cell? ⟨W.heap.size, 1, none⟩ = _ := at_cells x3 rfl
  have x32 : w3.cell? ⟨W.heap.size, 2, none⟩ = _ := at_cells x3 rfl
  have x33 : w3.cell? ⟨W.heap.size, 3, none⟩ = _ := at_cells x3 rfl
  have x34 : w3.cell? ⟨W.heap.size, 4, none⟩ = _ := at_cells x3 rfl
  clear x10 x11 x12 x13 x14
  go_wp2_with fail
  refine (C2.out _ H3).mono ?_
  rintro e w4 ⟨vp4, vb4, rfl, H4, hb4, -⟩
  obtain ⟨⟨a4, c4, rfl⟩, ⟨b4, d4, rfl⟩⟩ := H4.shapes
  have B4 := bel_trans (bel_trans B3 hb4) (bel_alloc w4 (Go.Obj.cells #[.string name, .int .i64 link, .slice a4 params.length c4, .int .i64 res, .slice b4 blocks.length d4] 30))
  have H5 := H4.keep (bel_alloc w4 (Go.Obj.cells #[.string name, .int .i64 link, .slice a4 params.length c4, .int .i64 res, .slice b4 blocks.length d4] 30))
  have H5' := Kp.mk (C4.out _ _ _ _ H5)
  have z4 := new_cells w4 (Go.Obj.cells #[.string name, .int .i64 link, .slice a4 params.length c4, .int .i64 res, .slice b4 blocks.length d4] 30)
  have x4 := keep_cells (keep_cells x3 hb4) (bel_alloc w4 (Go.Obj.cells #[.string name, .int .i64 link, .slice a4 params.length c4, .int .i64 res, .slice b4 blocks.length d4] 30))
  clear x30 x31 x32 x33 x34
  go_wp2_with fail
  refine H5'.out.mono ?_
  rintro e w6 ⟨rfl, hb5⟩
  have B6 := bel_trans B4 hb5
  have x6 := keep_cells x4 hb5
  have z6 := keep_cells z4 hb5
  have H8 := H5.keep hb5
  have H7 := H.out.keep B6
  have x60 : w6.cell? ⟨W.heap.size, 0, none⟩ = _ := at_cells x6 rfl
  have x61 : w6.cell? ⟨W.heap.size, 1, none⟩ = _ := at_cells x6 rfl
  have x62 : w6.cell? ⟨W.heap.size, 2, none⟩ = _ := at_cells x6 rfl
  have x63 : w6.cell? ⟨W.heap.size, 3, none⟩ = _ := at_cells x6 rfl
  have x64 : w6.cell? ⟨W.heap.size, 4, none⟩ = _ := at_cells x6 rfl
  have z60 : w6.cell? ⟨w4.heap.size, 0, none⟩ = _ := at_cells z6 rfl
  have z61 : w6.cell? ⟨w4.heap.size, 1, none⟩ = _ := at_cells z6 rfl
  have z62 : w6.cell? ⟨w4.heap.size, 2, none⟩ = _ := at_cells z6 rfl
  have z63 : w6.cell? ⟨w4.heap.size, 3, none⟩ = _ := at_cells z6 rfl
  have z64 : w6.cell? ⟨w4.heap.size, 4, none⟩ = _ := at_cells z6 rfl
  go_wp2_with fail
  have HK : Kp (∀ w', Below w6.heap.size w6 w' → FnAt lo w' ⟨name, link, params, res, blocks⟩ (.slice a1 params.length c1) (.slice a2 blocks.length c2)) := ⟨fun w' h => H7.keep h⟩
  obtain ⟨l4, H8⟩ : ∃ l4, FnAt l4 w6 ⟨name, link, params, res, blocks⟩ (.slice a4 params.length c4) (.slice b4 blocks.length d4) := ⟨_, H8⟩
  have HZ : Kp (∀ w', Below w6.heap.size w6 w' → FnAt l4 w' ⟨name, link, params, res, blocks⟩ (.slice a4 params.length c4) (.slice b4 blocks.length d4)) := ⟨fun w' h => H8.keep h⟩
  have ZK : Kp (∀ w', Below w6.heap.size w6 w' → w'.heap[w4.heap.size]? = _) := ⟨fun w' h => keep_cells z6 h⟩
  have hBD := (Below.refl w6.heap.size w6).drew
  go_region_with (first
    | (go_at_call 10; refine (C2.out _ (HK.out _ hBD)).mono ?_; rintro e w7 ⟨vp7, vb7, rfl, H9, hb7, -⟩; have hb77 := hBD.trans hb7; have q0 : w7.cell? ⟨w4.heap.size, 0, none⟩ = _ := at_cells (ZK.out _ hb77) rfl; have q1 : w7.cell? ⟨w4.heap.size, 1, none⟩ = _ := at_cells (ZK.out _ hb77) rfl; have q2 : w7.cell? ⟨w4.heap.size, 2, none⟩ = _ := at_cells (ZK.out _ hb77) rfl; have q3 : w7.cell? ⟨w4.heap.size, 3, none⟩ = _ := at_cells (ZK.out _ hb77) rfl; have q4 : w7.cell? ⟨w4.heap.size, 4, none⟩ = _ := at_cells (ZK.out _ hb77) rfl)
    | (go_at_call 13; refine (C5.out _ _ _ _ _ _ _ (HZ.out _ hb77) H9).mono ?_; rintro e w8 ⟨rfl, hb8⟩))
  all_goals
    go_wp2_with fail
    go_ret
    exact ⟨rfl, bel_trans (bel_trans B6 hb77) hb8⟩
end Go.Proofs.Ytpeplfjndidkhaa
