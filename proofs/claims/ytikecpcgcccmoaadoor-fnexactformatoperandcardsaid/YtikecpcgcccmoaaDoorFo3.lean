/- The law that compares FormatOperand of the program with its model. -/
import Derived.Test.YtikecpcgcccmoaaDoorFo2
import Derived.Deep.RegionHeld3
namespace Go.Proofs.YtikecpcgcccmoaaDoor
open Go.ChangeShapes Go.WideShapes Go.ChangeAt Go.RowKit
open Go.Lib
set_option linter.unusedVariables false
set_option linter.unusedSimpArgs false
theorem keep_cells {w w' : World} {b : Nat} {o : Obj} (h : w.heap[b]? = some o) (hb : Below w.heap.size w w') : w'.heap[b]? = some o := (hb.block b (Array.getElem?_eq_some_iff.1 h).1).trans h
theorem new_cells (w : World) (o : Obj) : (w.alloc o).heap[w.heap.size]? = some o := (MapKept.heap_alloc w o).1
theorem at_cells {w : World} {b : Nat} {arr : Array Value} {t : TypeId} (h : w.heap[b]? = some (Go.Obj.cells arr t (0, 0))) {j : Nat} {v : Value} (hj : arr[j]? = some v) : At w b j v := by
  show World.cell? _ _ = _
  simp [World.cell?, h, hj]
theorem MoAt.shapes {lo : Nat} {w : World} {gs : List GlD} {fs : List FnD} {vg vf : Value} (h : MoAt lo w gs fs vg vf) : (∃ a c, vg = .slice a gs.length c) ∧ ∃ a c, vf = .slice a fs.length c := ⟨h.g.shape, h.f.shape⟩
theorem moN_small {gs : List GlD} {fs : List FnD} (h : 0 ≤ less 1048576 (moN gs fs)) : moN gs fs ≤ 1048576 := by
  unfold less at h
  split at h <;> omega
abbrev opV4 (q : OpD) : Value := .agg #[.int .i64 q.k, .int .i64 q.t, .int .i64 q.i, .int .u64 q.w]
set_option maxRecDepth 100000 in
set_option maxHeartbeats 40000000 in
theorem fmtO_law (gs : List GlD) (fs : List FnD) (vg vf : Value) (q : OpD) (W : World) {lo : Nat} (h : MoAt lo W gs fs vg vf) (hb : OpB q) (hL : Lt W) :
    Calls Tryd.prog 3 #[moV vg vf, opV4 q] W fun e w' => e = .returned (.bool true) ∧ Below W.heap.size W w' := by
  have C1 : Kp (∀ w, MoAt lo w gs fs vg vf → Calls Tryd.prog 4 _ w _) := ⟨fun w h => szMo gs fs vg vf 1048576 w h (by decide) (by decide)⟩
  have hnm := @moN_small gs fs
  have H := Kp.mk h
  have HL := Kp.mk hL
  by_cases hq : less 1048576 (moN gs fs) < 0
  · obtain ⟨⟨a1, c1, rfl⟩, ⟨a2, c2, rfl⟩⟩ := h.shapes
    clear h hnm hL
    generalize less 1048576 (moN gs fs) = r at *
    go_enter Tryd.func3, Tryd.ntmps3
    go_wp2_with fail
    refine (C1.out _ (H.out.keep (by first | exact bel_alloc _ _ | exact bel_trans (bel_alloc _ _) (bel_alloc _ _)))).mono ?_
    rintro e w1 ⟨rfl, hb1⟩
    go_wp2_with fail
    go_ret
    exact ⟨rfl, by first | exact bel_trans (bel_alloc _ _) hb1 | exact bel_trans (bel_trans (bel_alloc _ _) (bel_alloc _ _)) hb1⟩
  have hn := hnm (by omega)
  have C2 : Kp (∀ w, MoAt lo w gs fs vg vf → Calls Tryd.prog 6 _ w _) := ⟨fun w h => toMo gs fs vg vf w h hn⟩
  have C3 : Kp (∀ w l p r, MoAt l w gs fs p r → Calls Tryd.prog 5 _ w _) := ⟨fun w l p r h => fmtOS gs fs p r q w h hb hn⟩
  have C4 : Kp (∀ w l p r, MoAt l w gs fs p r → Lt w → Calls Tryd.prog 8 _ w _) := ⟨fun w l p r h hL => fmtOI gs fs p r q w h hL hb hn⟩
  have C5 : Kp (∀ w l l2 p r p2 r2, MoAt l w gs fs p r → MoAt l2 w gs fs p2 r2 → Calls Tryd.prog 9 _ w _) := ⟨fun w l l2 p r p2 r2 h k => eqMo gs fs p r p2 r2 w h k hn⟩
  have C6 : Kp (∀ w, Calls Tryd.prog 7 _ w _) := ⟨fun w => toOp q.k q.t q.i q.w w⟩
  generalize txO gs q = R at *
  obtain ⟨⟨a1, c1, rfl⟩, ⟨a2, c2, rfl⟩⟩ := h.shapes
  clear h hnm hn hL hb
  obtain ⟨k, t, i, x⟩ := q
  dsimp only [moV, opV4] at *
  generalize less 1048576 (moN gs fs) = r at *
  go_enter Tryd.func3, Tryd.ntmps3
  go_wp2_with fail
  have BA := bel_trans (bel_alloc W (Go.Obj.cells #[.slice a1 gs.length c1, .slice a2 fs.length c2] 25)) (bel_alloc _ (Go.Obj.cells #[.int .i64 k, .int .i64 t, .int .i64 i, .int .u64 x] 28))
  refine (C1.out _ (H.out.keep BA)).mono ?_
  rintro e w1 ⟨rfl, hb1⟩
  have B1 := bel_trans BA hb1
  have H1 := H.out.keep B1
  have m1 := keep_cells (keep_cells (new_cells W (Go.Obj.cells #[.slice a1 gs.length c1, .slice a2 fs.length c2] 25)) (bel_alloc _ (Go.Obj.cells #[.int .i64 k, .int .i64 t, .int .i64 i, .int .u64 x] 28))) hb1
  have o1 := keep_cells (new_cells (W.alloc (Go.Obj.cells #[.slice a1 gs.length c1, .slice a2 fs.length c2] 25)) (Go.Obj.cells #[.int .i64 k, .int .i64 t, .int .i64 i, .int .u64 x] 28)) hb1
  rw [World.size_alloc] at o1
  have M1 : Kp (∀ w', Below w1.heap.size w1 w' → MoAt lo w' gs fs (.slice a1 gs.length c1) (.slice a2 fs.length c2)) := ⟨fun w' h => H1.keep h⟩
  have a0 : At w1 W.heap.size 0 _ := at_cells m1 rfl
  have a1' : At w1 W.heap.size 1 _ := at_cells m1 rfl
  have b0 : At w1 (W.heap.size + 1) 0 _ := at_cells o1 rfl
  have b1 : At w1 (W.heap.size + 1) 1 _ := at_cells o1 rfl
  have b2 : At w1 (W.heap.size + 1) 2 _ := at_cells o1 rfl
  have b3 : At w1 (W.heap.size + 1) 3 _ := at_cells o1 rfl
  clear hb1 BA
  go_wp2_with fail
  have hBD := (Below.refl w1.heap.size w1).drew
  go_region_with (first
    | (go_at_call 6; refine (C2.out _ (M1.out _ hBD)).mono ?_; rintro e w2 ⟨vg2, vf2, rfl, H2, hb2, -⟩; have hb22 := hBD.trans hb2; have q0 : At w2 (W.heap.size + 1) 0 _ := at_cells (keep_cells o1 hb22) rfl; have q1 : At w2 (W.heap.size + 1) 1 _ := at_cells (keep_cells o1 hb22) rfl; have q2 : At w2 (W.heap.size + 1) 2 _ := at_cells (keep_cells o1 hb22) rfl; have q3 : At w2 (W.heap.size + 1) 3 _ := at_cells (keep_cells o1 hb22) rfl)
    | (go_at_call 7; refine (C6.out _).mono ?_; rintro e w3 ⟨rfl, hb3, -⟩; have H3' := Kp.mk (C3.out _ _ _ _ (H2.keep hb3)))
    | (go_at_call 5; refine H3'.out.mono ?_; rintro e w4 ⟨rfl, hb4⟩))
  all_goals
    have b14 := bel_trans (bel_trans hb22 hb3) hb4
    have B4 := bel_trans B1 b14
    have m4 := keep_cells m1 b14
    have o4 := keep_cells o1 b14
    clear a0 a1' b0 b1 b2 b3 q0 q1 q2 q3 H3' hBD H2
    have a0 : At w4 W.heap.size 0 _ := at_cells m4 rfl
    have a1' : At w4 W.heap.size 1 _ := at_cells m4 rfl
    go_wp2_with fail
    refine (C2.out _ (M1.out _ b14)).mono ?_
    rintro e w5 ⟨vg5, vf5, rfl, H5, hb5, -⟩
    obtain ⟨⟨e5, k5, rfl⟩, ⟨f5, j5, rfl⟩⟩ := H5.shapes
    have bb := bel_alloc w5 (Go.Obj.cells #[.slice e5 gs.length k5, .slice f5 fs.length j5] 34)
    have b5 := bel_trans hb5 bb
    have b15 := bel_trans b14 b5
    have B5 := bel_trans B1 b15
    have H6 := H5.keep bb
    have z5 := new_cells w5 (Go.Obj.cells #[.slice e5 gs.length k5, .slice f5 fs.length j5] 34)
    have m5 := keep_cells m4 b5
    have o5 := keep_cells o4 b5
    clear a0 a1' H5 hb5 bb b5 m4 o4 b14
    obtain ⟨W6, hW6⟩ : ∃ W6, W6 = w5.alloc (Go.Obj.cells #[.slice e5 gs.length k5, .slice f5 fs.length j5] 34) := ⟨_, rfl⟩
    go_wp2_with fail
    rw [← hW6] at z5 m5 o5 H6 b15 B5 ⊢
    clear hW6
    have r0 : At W6 w5.heap.size 0 _ := at_cells z5 rfl
    have r1 : At W6 w5.heap.size 1 _ := at_cells z5 rfl
    have b0 : At W6 (W.heap.size + 1) 0 _ := at_cells o5 rfl
    have b1 : At W6 (W.heap.size + 1) 1 _ := at_cells o5 rfl
    have b2 : At W6 (W.heap.size + 1) 2 _ := at_cells o5 rfl
    have b3 : At W6 (W.heap.size + 1) 3 _ := at_cells o5 rfl
    have hBD2 := (Below.refl W6.heap.size W6).drew
    have F8 : Kp (∀ w', Below W6.heap.size W6 w' → Calls Tryd.prog 8 _ w' _) := ⟨fun w' h => C4.out _ _ _ _ (H6.keep h) (HL.out.below (bel_trans B5 h))⟩
    go_region_with (first
      | (go_at_call 7; refine (C6.out _).mono ?_; rintro e w7 ⟨rfl, hb7, -⟩; have hb77 := hBD2.trans hb7; have y0 : At w7 w5.heap.size 0 _ := at_cells (keep_cells z5 hb77) rfl; have y1 : At w7 w5.heap.size 1 _ := at_cells (keep_cells z5 hb77) rfl)
      | (go_at_call 8; refine (F8.out _ hb77).mono ?_; rintro e w8 ⟨rfl, hb8⟩))
    all_goals
      have b68 := bel_trans hb77 hb8
      have b18 := bel_trans b15 b68
      have B8 := bel_trans B1 b18
      have z8 := keep_cells z5 b68
      have m8 := keep_cells m5 b68
      have H8 : Kp (∀ w', Below w8.heap.size w8 w' → MoAt _ w' gs fs _ _) := ⟨fun w' h => (H6.keep b68).keep h⟩
      have M8 : Kp (∀ w', Below w8.heap.size w8 w' → MoAt lo w' gs fs (.slice a1 gs.length c1) (.slice a2 fs.length c2)) := ⟨fun w' h => M1.out _ (bel_trans b18 h)⟩
      have ZK : Kp (∀ w', Below w8.heap.size w8 w' → w'.heap[w5.heap.size]? = _) := ⟨fun w' h => keep_cells z8 h⟩
      clear r0 r1 b0 b1 b2 b3 y0 y1 F8 hBD2
      have r0 : At w8 w5.heap.size 0 _ := at_cells z8 rfl
      have r1 : At w8 w5.heap.size 1 _ := at_cells z8 rfl
      have a0 : At w8 W.heap.size 0 _ := at_cells m8 rfl
      have a1' : At w8 W.heap.size 1 _ := at_cells m8 rfl
      go_wp2_with fail
      have hBD3 := (Below.refl w8.heap.size w8).drew
      go_region_with (first
        | (go_at_call 6; refine (C2.out _ (M8.out _ hBD3)).mono ?_; rintro e w9 ⟨vg9, vf9, rfl, H9, hb9, -⟩; have hb99 := hBD3.trans hb9; have y0 : At w9 w5.heap.size 0 _ := at_cells (ZK.out _ hb99) rfl; have y1 : At w9 w5.heap.size 1 _ := at_cells (ZK.out _ hb99) rfl)
        | (go_at_call 9; refine (C5.out _ _ _ _ _ _ _ (H8.out _ hb99) H9).mono ?_; rintro e w10 ⟨rfl, hb10⟩))
      all_goals
        go_wp2_with fail
        go_ret
        exact ⟨rfl, bel_trans (bel_trans B8 hb99) hb10⟩
end Go.Proofs.YtikecpcgcccmoaaDoor
