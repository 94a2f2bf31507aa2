/- A row that a call owns, and a copied function that is marked (in a seat without ValueTypes; else Vt4 says the same). -/
import Derived.Test.YtbfpfjkjeekbdaaVt2
import Derived.Deep.RegionHeld3
import Derived.Test.YtbfpfjkjeekbdaaLi11
import Derived.Test.YtbfpfjkjeekbdaaLi8
namespace Go.Proofs.Ytbfpfjkjeekbdaa
open Go.ChangeShapes Go.WideShapes Go.ChangeAt Go.RowKit
set_option linter.unusedVariables false
set_option linter.unusedSimpArgs false
theorem OwnI.mkd {w w' : World} {lo E base : Nat} {v : Value} {xs : List Int} (h : OwnI w base v xs) (m : Mk lo E w w') (hb : E ≤ base) : OwnI w' base v xs := by
  refine ⟨h.r.1, ?_⟩
  rcases h.r.2 with h0 | ⟨g, cap, cur, rfl, hb1, hg, rest⟩
  · exact .inl h0
  · exact .inr ⟨g, cap, cur, rfl, hb1, (m.hi g (by omega)).trans hg, rest⟩
/-- The copied function, marked: what lies ahead of it is as it was, and so is what a later call owns. -/
structure Mkd (lo E : Nat) (w w' : World) : Prop where
  bel : Below lo w w'
  own : ∀ base v xs, OwnI w base v xs → E ≤ base → base ≤ w.heap.size → OwnI w' base v xs
theorem mkd_of {lo E : Nat} {w W w' : World} (h : Below w.heap.size w W) (m : Mk lo E W w') (hl : lo ≤ w.heap.size) : Mkd lo E w w' :=
  ⟨(h.mono hl).trans m.bel, fun base v xs o hb _ => (o.keep h).mkd m hb⟩
end Go.Proofs.Ytbfpfjkjeekbdaa
namespace Go.Proofs.Ytbfpfjkjeekbdaa
open Go.ChangeShapes Go.WideShapes Go.ChangeAt Go.RowKit
set_option linter.unusedVariables false
set_option linter.unusedSimpArgs false
set_option maxRecDepth 100000 in
set_option maxHeartbeats 4000000 in
theorem live_law (d : FnD) (vp vb : Value) (t : Int) (W : World) {lo : Nat} (h : FnAt lo W d vp vb) :
    Calls Try.prog 5 #[fnV d vp vb, .int .i64 t] W fun e w' => e = .returned (.bool true) ∧ Below W.heap.size W w' := by
  have C1 : Kp (∀ w, FnAt lo w d vp vb → Calls Try.prog 6 _ w _) := ⟨fun w h => szFn d vp vb 1048576 w h (by decide) (by decide)⟩
  have hnm := fnN_small d
  have H := Kp.mk h
  by_cases hq : less 1048576 (fnN d) < 0
  · obtain ⟨⟨a1, c1, rfl⟩, ⟨a2, c2, rfl⟩⟩ := h.shapes
    clear h hnm
    generalize less 1048576 (fnN d) = r at *
    go_enter Try.func5, Try.ntmps5
    go_wp2_with fail
    refine (C1.out _ (H.out.keep (bel_alloc _ _))).mono ?_
    rintro e w1 ⟨rfl, hb1⟩
    go_wp2_with fail
    go_ret
    exact ⟨rfl, bel_trans (bel_alloc _ _) hb1⟩
  have hn := hnm (by omega)
  have C2 : Kp (∀ w, FnAt lo w d vp vb → Calls Try.prog 8 _ w _) := ⟨fun w h => toFn d vp vb w h hn⟩
  have C3 : Kp (∀ w l p q, FnAt l w d p q → Calls Try.prog 20 _ w _) := ⟨fun w l p q h => liveS d p q t w h hn⟩
  have C4 : Kp (∀ w l p q, FnAt l w d p q → Calls Try.prog 21 _ w _) := ⟨fun w l p q h => liveI d p q t w h hn⟩
  have C5 : Kp (∀ w l l2 p q p2 q2, FnAt l w d p q → FnAt l2 w d p2 q2 → Calls Try.prog 11 _ w _) := ⟨fun w l l2 p q p2 q2 h k => eqFn d p q p2 q2 w h k hn⟩
  have C6 : Kp (∀ w lo E p q, FnS lo E w d p q → UnfE lo E w → E ≤ w.heap.size → lo ≤ w.heap.size → Calls Try.prog 12 #[fnV d p q, .int .i64 1] w fun e w' => ∃ r, e = .returned (.int .i64 r) ∧ 1 ≤ r ∧ r ≤ 16777216 ∧ Mkd lo E w w') := ⟨fun w lo E p q h hu hE hl => by
    refine (mkFn lo E d p q 1 w h hu hE hl hn (by decide) (by decide)).mono ?_
    rintro e w' ⟨r, W, rfl, h1, h2, hb, hm⟩
    exact ⟨r, rfl, h1, by omega, mkd_of hb hm hl⟩⟩
  obtain ⟨R, hR⟩ : ∃ R : List Int, R = livL d t := ⟨_, rfl⟩
  have hRl : R.length ≤ 1048576 := by
    rw [hR]
    have h1 := livL_len d t; have h2 := cntV_le hn; omega
  rw [← hR] at C3 C4
  have C7 : Kp (∀ w b1 b2 v u, OwnI w b1 v R → OwnI w b2 u R → Calls Try.prog 10 #[v, u] w _) := ⟨fun w b1 b2 v u h k => eqInts v u R w (h.ints hRl) (k.ints hRl) hRl⟩
  have C8 : Kp (∀ w b v, OwnI w b v R → Calls Try.prog 13 #[v, .int .i64 1] w _) := ⟨fun w b v h => markI v R b 1 w h hRl (by decide) (by decide)⟩
  have C9 : Kp (∀ w v b o, Sl v R.length b o → (∀ i, i < R.length → At w b (o + i) (.int .i64 (1 + i))) → Calls Try.prog 14 #[v, .int .i64 1] w _) := ⟨fun w v b o s c => heldInts v R.length b o 1 w s c hRl (by decide) (by decide)⟩
  obtain ⟨⟨a1, c1, rfl⟩, ⟨a2, c2, rfl⟩⟩ := h.shapes
  clear h hnm hn hR
  obtain ⟨name, link, params, res, blocks⟩ := d
  dsimp only [fnV] at *
  generalize less 1048576 (fnN ⟨name, link, params, res, blocks⟩) = r at *
  go_enter Try.func5, Try.ntmps5
  go_wp2_with fail
  refine (C1.out _ (H.out.keep (bel_alloc _ _))).mono ?_
  rintro e w1 ⟨rfl, hb1⟩
  have B1 := bel_trans (bel_alloc _ _) hb1
  have H1 := H.out.keep B1
  have x1 := keep_cells (new_cells W _) hb1
  have x10 : w1.cell? ⟨W.heap.size, 0, none⟩ = _ := at_cells x1 rfl
  have x11 : w1.cell? ⟨W.heap.size, 1, none⟩ = _ := at_cells x1 rfl
  have x12 : w1.cell? ⟨W.heap.size, 2, none⟩ = _ := at_cells x1 rfl
  have x13 : w1.cell? ⟨W.heap.size, 3, none⟩ = _ := at_cells x1 rfl
  have x14 : w1.cell? ⟨W.heap.size, 4, none⟩ = _ := at_cells x1 rfl
  go_wp2_with fail
  refine (C2.out _ H1).mono ?_
  rintro e w2 ⟨vp2, vb2, rfl, H2, hb2, -⟩
  have H2' := Kp.mk (C3.out _ _ _ _ H2)
  go_wp2_with fail
  refine H2'.out.mono ?_
  rintro e w3 ⟨v3, rfl, O3, hb3⟩
  have B3 := bel_trans (bel_trans B1 hb2) hb3
  have H3 := H.out.keep B3
  have x3 := keep_cells (keep_cells x1 hb2) hb3
  have x30 : w3.cell? ⟨W.heap.size, 0, none⟩ = _ := at_cells x3 rfl
  have x31 : w3.cell? ⟨W.heap.size, 1, none⟩ = _ := at_cells x3 rfl
  have x32 : w3.cell? ⟨W.heap.size, 2, none⟩ = _ := at_cells x3 rfl
  have x33 : w3.cell? ⟨W.heap.size, 3, none⟩ = _ := at_cells x3 rfl
  have x34 : w3.cell? ⟨W.heap.size, 4, none⟩ = _ := at_cells x3 rfl
  clear x10 x11 x12 x13 x14
  go_wp2_with fail
  refine (C2.out _ H3).mono ?_
  rintro e w4 ⟨vp4, vb4, rfl, H4, hb4, hU4⟩
  have F4 := H4.s
  have U4 := hU4.e
  obtain ⟨⟨a4, c4, rfl⟩, ⟨b4, d4, rfl⟩⟩ := H4.shapes
  have bb := bel_alloc w4 (Go.Obj.cells #[.string name, .int .i64 link, .slice a4 params.length c4, .int .i64 res, .slice b4 blocks.length d4] 30)
  have B4 := bel_trans (bel_trans B3 hb4) bb
  have H5 := H4.keep bb
  have H5' := Kp.mk (C4.out _ _ _ _ H5)
  have z4 := new_cells w4 (Go.Obj.cells #[.string name, .int .i64 link, .slice a4 params.length c4, .int .i64 res, .slice b4 blocks.length d4] 30)
  have x4 := keep_cells (keep_cells x3 hb4) bb
  have s4 : w3.heap.size ≤ w4.heap.size := hb4.size
  -- from w3 on nothing of w3 turns; from the box on nothing of the copy turns
  have N4 : Below w3.heap.size w3 (w4.alloc (Go.Obj.cells #[.string name, .int .i64 link, .slice a4 params.length c4, .int .i64 res, .slice b4 blocks.length d4] 30)) := bel_trans hb4 bb
  clear x30 x31 x32 x33 x34
  go_wp2_with fail
  refine H5'.out.mono ?_
  rintro e w5 ⟨v5, rfl, O5, hb5⟩
  have B5 := bel_trans B4 hb5
  have N5 := bel_trans N4 hb5
  have M5 : Below w4.heap.size w4 w5 := bel_trans bb hb5
  have x5 := keep_cells x4 hb5
  have z5 := keep_cells z4 hb5
  have H6 := H5.keep hb5
  rw [World.size_alloc] at O5
  have hs5 : w4.heap.size + 1 ≤ w5.heap.size := by have := hb5.size; simpa using this
  have E5 := Kp.mk (C7.out _ _ _ _ _ O5 (O3.keep N5))
  go_wp2_with fail
  refine E5.out.mono ?_
  rintro e w6 ⟨rfl, hb6⟩
  have B6 := bel_trans B5 hb6
  have N6 := bel_trans N5 hb6
  have M6 : Below w4.heap.size w4 w6 := bel_trans M5 hb6
  have x6 := keep_cells x5 hb6
  have z6 := keep_cells z5 hb6
  have O6 := O5.keep hb6
  have H7 := H.out.keep B6
  have H8 := H6.keep hb6
  have x60 : w6.cell? ⟨W.heap.size, 0, none⟩ = _ := at_cells x6 rfl
  have x61 : w6.cell? ⟨W.heap.size, 1, none⟩ = _ := at_cells x6 rfl
  have x62 : w6.cell? ⟨W.heap.size, 2, none⟩ = _ := at_cells x6 rfl
  have x63 : w6.cell? ⟨W.heap.size, 3, none⟩ = _ := at_cells x6 rfl
  have x64 : w6.cell? ⟨W.heap.size, 4, none⟩ = _ := at_cells x6 rfl
  have z60 : w6.cell? ⟨w4.heap.size, 0, none⟩ = _ := at_cells z6 rfl
  have z61 : w6.cell? ⟨w4.heap.size, 1, none⟩ = _ := at_cells z6 rfl
  have z62 : w6.cell? ⟨w4.heap.size, 2, none⟩ = _ := at_cells z6 rfl
  have z63 : w6.cell? ⟨w4.heap.size, 3, none⟩ = _ := at_cells z6 rfl
  have z64 : w6.cell? ⟨w4.heap.size, 4, none⟩ = _ := at_cells z6 rfl
  go_wp2_with fail
  have HK : Kp (∀ w', Below w6.heap.size w6 w' → FnAt lo w' ⟨name, link, params, res, blocks⟩ (.slice a1 params.length c1) (.slice a2 blocks.length c2)) := ⟨fun w' h => H7.keep h⟩
  obtain ⟨l4, H8⟩ : ∃ l4, FnAt l4 w6 ⟨name, link, params, res, blocks⟩ (.slice a4 params.length c4) (.slice b4 blocks.length d4) := ⟨_, H8⟩
  have HZ : Kp (∀ w', Below w6.heap.size w6 w' → FnAt l4 w' ⟨name, link, params, res, blocks⟩ (.slice a4 params.length c4) (.slice b4 blocks.length d4)) := ⟨fun w' h => H8.keep h⟩
  have ZK : Kp (∀ w', Below w6.heap.size w6 w' → w'.heap[w4.heap.size]? = _) := ⟨fun w' h => keep_cells z6 h⟩
  have hBD := (Below.refl w6.heap.size w6).drew
  go_region_with (first
    | (go_at_call 8; refine (C2.out _ (HK.out _ hBD)).mono ?_; rintro e w7 ⟨vp7, vb7, rfl, H9, hb7, -⟩; have hb77 := hBD.trans hb7; have q0 : w7.cell? ⟨w4.heap.size, 0, none⟩ = _ := at_cells (ZK.out _ hb77) rfl; have q1 : w7.cell? ⟨w4.heap.size, 1, none⟩ = _ := at_cells (ZK.out _ hb77) rfl; have q2 : w7.cell? ⟨w4.heap.size, 2, none⟩ = _ := at_cells (ZK.out _ hb77) rfl; have q3 : w7.cell? ⟨w4.heap.size, 3, none⟩ = _ := at_cells (ZK.out _ hb77) rfl; have q4 : w7.cell? ⟨w4.heap.size, 4, none⟩ = _ := at_cells (ZK.out _ hb77) rfl)
    | (go_at_call 11; refine (C5.out _ _ _ _ _ _ _ (HZ.out _ hb77) H9).mono ?_; rintro e w8 ⟨rfl, hb8⟩))
  all_goals
    have B8 := bel_trans (bel_trans B6 hb77) hb8
    have N8 := bel_trans (bel_trans N6 hb77) hb8
    have M8 := bel_trans (bel_trans M6 hb77) hb8
    have O8 := (O6.keep hb77).keep hb8
    have z8 := keep_cells (ZK.out _ hb77) hb8
    have x8 := keep_cells (keep_cells x6 hb77) hb8
    have F8 := F4.keep M8
    have U8 := U4.keep M8
    have s8 : w4.heap.size + 1 ≤ w8.heap.size := by have := hb6.size; have := hb77.size; have := hb8.size; omega
    have z80 : w8.cell? ⟨w4.heap.size, 0, none⟩ = _ := at_cells z8 rfl
    have z81 : w8.cell? ⟨w4.heap.size, 1, none⟩ = _ := at_cells z8 rfl
    have z82 : w8.cell? ⟨w4.heap.size, 2, none⟩ = _ := at_cells z8 rfl
    have z83 : w8.cell? ⟨w4.heap.size, 3, none⟩ = _ := at_cells z8 rfl
    have z84 : w8.cell? ⟨w4.heap.size, 4, none⟩ = _ := at_cells z8 rfl
    have G8 := Kp.mk (C6.out w8 _ _ _ _ F8 U8 (by omega) (by omega))
    clear q0 q1 q2 q3 q4 x60 x61 x62 x63 x64 z60 z61 z62 z63 z64 HK HZ ZK hb6 H9 H8 x4 x5 x6 z4 z5 z6 O6 H7 H4 H5 H5' E5 hBD
    go_wp2_with fail
    refine G8.out.mono ?_
    rintro e w9 ⟨r9, rfl, r90, r91, K9⟩
    have B9 := B8.trans (K9.bel.mono (by have := B3.size; omega))
    have N9 := N8.trans K9.bel
    have O9 := K9.own _ _ _ O8 (by omega) (by omega)
    have x9 : w9.heap[W.heap.size]? = _ := (K9.bel.block W.heap.size (by have := (Array.getElem?_eq_some_iff.1 x3).1; omega)).trans x8
    have E9 := Kp.mk (C7.out _ _ _ _ _ O9 (O3.keep N9))
    have s9 : w4.heap.size + 1 ≤ w9.heap.size := by have := K9.bel.size; omega
    have s3 : w2.heap.size ≤ w3.heap.size := hb3.size
    have s2 : W.heap.size + 1 ≤ w2.heap.size := by have h1 := hb1.size; rw [World.size_alloc] at h1; have := hb2.size; omega
    clear z80 z81 z82 z83 z84 z8 F8 U8 M8 O8 N8 x8 G8
    go_wp2_with fail
    refine E9.out.mono ?_
    rintro e w10 ⟨rfl, hb10⟩
    have B10 := bel_trans B9 hb10
    have N10 := bel_trans N9 hb10
    have O10 := O9.keep hb10
    have x10 := keep_cells x9 hb10
    have s10 : w4.heap.size + 1 ≤ w10.heap.size := by have := hb10.size; omega
    have G10 := Kp.mk (C8.out _ _ _ O10)
    clear E9 x9 O9 hb10
    go_wp2_with fail
    refine G10.out.mono ?_
    rintro e w11 ⟨rfl, hb11, gb, go, gs, gc⟩
    have B11 := B10.trans (hb11.mono (by have := B3.size; omega))
    have N11 := N10.trans (hb11.mono (by omega))
    have x11 := (hb11.block W.heap.size (by omega)).trans x10
    have G11 := Kp.mk (C9.out w11 _ _ _ gs gc)
    clear G10 O10
    go_wp2_with fail
    refine G11.out.mono ?_
    rintro e w12 ⟨rfl, hb12⟩
    have B12 := bel_trans B11 hb12
    have N12 := bel_trans N11 hb12
    have x12 := keep_cells x11 hb12
    have gc12 : ∀ i, i < R.length → At w12 gb (go + i) (.int .i64 (1 + i)) := fun i hi => at_keep (gc i hi) hb12
    have y0 : w12.cell? ⟨W.heap.size, 0, none⟩ = _ := at_cells x12 rfl
    have y1 : w12.cell? ⟨W.heap.size, 1, none⟩ = _ := at_cells x12 rfl
    have y2 : w12.cell? ⟨W.heap.size, 2, none⟩ = _ := at_cells x12 rfl
    have y3 : w12.cell? ⟨W.heap.size, 3, none⟩ = _ := at_cells x12 rfl
    have y4 : w12.cell? ⟨W.heap.size, 4, none⟩ = _ := at_cells x12 rfl
    have G12 := Kp.mk (C2.out _ (H.out.keep B12))
    clear G11 gc x11 x10 hb11
    go_wp2_with fail
    refine G12.out.mono ?_
    rintro e w13 ⟨vp13, vb13, rfl, H13, hb13, -⟩
    have N13 := bel_trans N12 hb13
    have B13 := bel_trans B12 hb13
    have gc13 : ∀ i, i < R.length → At w13 gb (go + i) (.int .i64 (1 + i)) := fun i hi => at_keep (gc12 i hi) hb13
    have G13 := Kp.mk (C4.out _ _ _ _ H13)
    clear G12 gc12 y0 y1 y2 y3 y4 x12
    go_wp2_with fail
    refine G13.out.mono ?_
    rintro e w14 ⟨v14, rfl, O14, hb14⟩
    have N14 := bel_trans N13 hb14
    have B14 := bel_trans B13 hb14
    have gc14 : ∀ i, i < R.length → At w14 gb (go + i) (.int .i64 (1 + i)) := fun i hi => at_keep (gc13 i hi) hb14
    have G14 := Kp.mk (C7.out _ _ _ _ _ O14 (O3.keep N14))
    clear G13 gc13
    go_wp2_with fail
    refine G14.out.mono ?_
    rintro e w15 ⟨rfl, hb15⟩
    have B15 := bel_trans B14 hb15
    have G15 := Kp.mk (C9.out w15 _ _ _ gs (fun i hi => at_keep (gc14 i hi) hb15))
    clear G14 gc14
    go_wp2_with fail
    refine G15.out.mono ?_
    rintro e w16 ⟨rfl, hb16⟩
    go_wp2_with fail
    go_ret
    exact ⟨rfl, bel_trans B15 hb16⟩
end Go.Proofs.Ytbfpfjkjeekbdaa
