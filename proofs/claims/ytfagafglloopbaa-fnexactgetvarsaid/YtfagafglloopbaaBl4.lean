/- The law that compares GetVar of the program with its model. -/
import Derived.Test.YtfagafglloopbaaBv3
import Derived.Test.YtfagafglloopbaaBh2
import Derived.Test.YtfagafglloopbaaBo1
import Derived.Deep.RegionWith
namespace Go.Proofs.Ytfagafglloopbaa
open Go.ChangeShapes Go.WideShapes Go.ChangeAt Go.RowKit
open Go.Sort (grow)
set_option linter.unusedVariables false
set_option linter.unusedSimpArgs false
set_option maxRecDepth 100000 in
set_option maxHeartbeats 4000000 in
theorem getVar_law (v : Value) (xs : List Int) (c p n : Int) (wp : (Lit.int .i64 p).wf = true) (wn : (Lit.int .i64 n).wf = true) (W : World) (h : Ints 0 .u8 W v xs) (hb : ∀ i (h : i < xs.length), 0 ≤ xs[i] ∧ xs[i] < 256) (wc : (Lit.int .i64 c).wf = true) :
    Calls Try.prog 7 #[.agg #[v, .int .i64 c], .int .i64 p, .int .i64 n] W fun e w' => e = .returned (.bool true) ∧ Below W.heap.size W w' := by
  obtain ⟨x0, x1⟩ := i64_of wp
  obtain ⟨n0, n1⟩ := i64_of wn
  obtain ⟨c0, c1⟩ := i64_of wc
  have C1 : Kp (∀ w, Ints 0 .u8 w v xs → Calls Try.prog 14 _ w _) := ⟨fun w h => szBits v xs c w h⟩
  have H := Kp.mk h
  obtain ⟨a, cap, rfl, h3⟩ := h.shape
  have xW := new_cells W (Go.Obj.cells #[.slice a xs.length cap, .int .i64 c] 36 (0, 0))
  by_cases hq : less 1048576 (xs.length : Int) < 0
  · clear h xW
    generalize less 1048576 (xs.length : Int) = r at *
    go_enter Try.func7, Try.ntmps7
    go_wp2_with fail
    refine (C1.out _ (H.out.keep (bel_alloc _ _))).mono ?_
    rintro e w1 ⟨rfl, hb1⟩
    go_wp2_with fail
    go_ret
    exact ⟨rfl, bel_trans (bel_alloc _ _) hb1⟩
  have hn : xs.length ≤ 1048576 := by unfold less at hq; split at hq <;> omega
  have hn2 : xs.length ≤ 2097152 := by omega
  have hn4 : xs.length ≤ 1099511627776 := by omega
  have C2 : Kp (∀ w, Ints 0 .u8 w (.slice a xs.length cap) xs → Calls Try.prog 16 #[.agg #[.slice a xs.length cap, .int .i64 c]] w _) := ⟨fun w h => toBits _ xs c w h hn2⟩
  have C3 : Kp (∀ w l u, Ints l .u8 w u xs → Calls Try.prog 23 #[.agg #[u, .int .i64 c], .int .i64 p, .int .i64 n] w _) := ⟨fun w l u h => getVarS u xs c p n w h hn c0 c1 hb x0 x1 n0 n1⟩
  have C4 : Kp (∀ w l u, Ints l .u8 w u xs → Calls Try.prog 13 #[.agg #[u, .int .i64 c], .int .i64 p, .int .i64 n] w _) := ⟨fun w l u h => getVarI u xs c p n w h hn c0 c1 hb x0 x1 n0 n1⟩
  have C5 : Kp (∀ w l l2 u u2, Ints l .u8 w u xs → Ints l2 .u8 w u2 xs → Calls Try.prog 17 #[.agg #[u, .int .i64 c], .agg #[u2, .int .i64 c]] w _) := ⟨fun w l l2 u u2 h k => eqBits u u2 xs c w h k hn2⟩
  obtain ⟨⟨Rg, Rw, Ra⟩, hR⟩ : ∃ R, R = resG (sndOf xs c).1 (sndOf xs c).2 p n := ⟨_, rfl⟩
  rw [← hR] at C3 C4
  dsimp only [resV] at C3 C4
  have C7 : Kp (∀ w, Calls Try.prog 21 #[.agg #[.bool Rg, .int .u64 Rw, .int .i64 Ra], .agg #[.bool Rg, .int .u64 Rw, .int .i64 Ra]] w _) := ⟨fun w => eqRes Rg Rw Ra w⟩
  clear h hR hb wp wn wc hn hn2
  generalize less 1048576 (xs.length : Int) = r at *
  go_enter Try.func7, Try.ntmps7
  go_wp2_with fail
  refine (C1.out _ (H.out.keep (bel_alloc _ _))).mono ?_
  rintro e w1 ⟨rfl, hb1⟩
  have B1 := bel_trans (bel_alloc _ _) hb1
  have x1 := keep_cells xW hb1
  have p10 : w1.cell? ⟨W.heap.size, 0, none⟩ = some (.slice a xs.length cap) := at_cells x1 rfl
  have p11 : w1.cell? ⟨W.heap.size, 1, none⟩ = some (.int .i64 c) := at_cells x1 rfl
  have G1 := Kp.mk (C2.out w1 (H.out.keep B1))
  clear C1 xW
  go_wp2_with fail
  refine G1.out.mono ?_
  rintro e w2 ⟨v2, rfl, O2, hb2⟩
  obtain ⟨a2, k2, rfl⟩ := O2.form
  have B2 := bel_trans B1 hb2
  have x2 := keep_cells x1 hb2
  have G2 := Kp.mk (C3.out w2 _ _ (O2.bytes hn4))
  clear G1 p10 p11 C3 hb1
  go_wp2_with fail
  refine G2.out.mono ?_
  rintro e w3 ⟨rfl, hb3⟩
  have B3 := bel_trans B2 hb3
  have x3 := keep_cells x2 hb3
  obtain ⟨s3, hs3⟩ : ∃ s, s = w3.heap.size := ⟨_, rfl⟩
  have y30 := new_cells w3 (Go.Obj.cells #[.bool Rg, .int .u64 Rw, .int .i64 Ra] 33 (0, 0))
  have bb3 := bel_alloc w3 (Go.Obj.cells #[.bool Rg, .int .u64 Rw, .int .i64 Ra] 33 (0, 0))
  obtain ⟨V3, hV3⟩ : ∃ V, V = w3.alloc (Go.Obj.cells #[.bool Rg, .int .u64 Rw, .int .i64 Ra] 33 (0, 0)) := ⟨_, rfl⟩
  rw [← hs3] at y30
  rw [← hV3] at y30 bb3
  have B3' := bel_trans B3 bb3
  have x3' := keep_cells x3 bb3
  have G3 := Kp.mk (C2.out V3 (H.out.keep B3'))
  have q30 : V3.cell? ⟨W.heap.size, 0, none⟩ = some (.slice a xs.length cap) := at_cells x3' rfl
  have q31 : V3.cell? ⟨W.heap.size, 1, none⟩ = some (.int .i64 c) := at_cells x3' rfl
  clear G2 O2 x3 x2 x1 bb3 hb2 hb3 B1 B2 B3
  go_upto_region 6 with fail
  rw [← hV3, ← hs3]
  clear hV3 hs3
  go_wp2_with fail
  refine G3.out.mono ?_
  rintro e w4 ⟨v4, rfl, O4, hb4⟩
  obtain ⟨a4, k4, rfl⟩ := O4.form
  have B4 := bel_trans B3' hb4
  have x4 := keep_cells x3' hb4
  have y4 := keep_cells y30 hb4
  obtain ⟨s4, hs4⟩ : ∃ s, s = w4.heap.size := ⟨_, rfl⟩
  have z40 := new_cells w4 (Go.Obj.cells #[.slice a4 xs.length k4, .int .i64 c] 24 (0, 0))
  have bb4 := bel_alloc w4 (Go.Obj.cells #[.slice a4 xs.length k4, .int .i64 c] 24 (0, 0))
  have O4' := O4.keep bb4
  obtain ⟨V4, hV4⟩ : ∃ V, V = w4.alloc (Go.Obj.cells #[.slice a4 xs.length k4, .int .i64 c] 24 (0, 0)) := ⟨_, rfl⟩
  rw [← hs4] at z40
  rw [← hV4] at z40 bb4 O4'
  have B4' := bel_trans B4 bb4
  have x4' := keep_cells x4 bb4
  have y4' := keep_cells y4 bb4
  have G4 := Kp.mk (C4.out V4 _ _ (O4'.bytes hn4))
  have q40 : V4.cell? ⟨s4, 0, none⟩ = some (.slice a4 xs.length k4) := at_cells z40 rfl
  have q41 : V4.cell? ⟨s4, 1, none⟩ = some (.int .i64 c) := at_cells z40 rfl
  clear G3 O4 x3' x4 y30 y4 q30 q31 bb4 hb4 B4 B3'
  go_upto_region 7 with fail
  rw [← hV4, ← hs4]
  clear hV4 hs4
  go_wp2_with fail
  refine G4.out.mono ?_
  rintro e w5 ⟨rfl, hb5⟩
  have B5 := bel_trans B4' hb5
  have x5 := keep_cells x4' hb5
  have y5 := keep_cells y4' hb5
  have z5 := keep_cells z40 hb5
  have O45 := O4'.keep hb5
  obtain ⟨s5, hs5⟩ : ∃ s, s = w5.heap.size := ⟨_, rfl⟩
  have u50 := new_cells w5 (Go.Obj.cells #[.bool Rg, .int .u64 Rw, .int .i64 Ra] 33 (0, 0))
  have bb5 := bel_alloc w5 (Go.Obj.cells #[.bool Rg, .int .u64 Rw, .int .i64 Ra] 33 (0, 0))
  have O45' := O45.keep bb5
  obtain ⟨V5, hV5⟩ : ∃ V, V = w5.alloc (Go.Obj.cells #[.bool Rg, .int .u64 Rw, .int .i64 Ra] 33 (0, 0)) := ⟨_, rfl⟩
  rw [← hs5] at u50
  rw [← hV5] at u50 bb5 O45'
  have B5' := bel_trans B5 bb5
  have x5' := keep_cells x5 bb5
  have y5' := keep_cells y5 bb5
  have z5' := keep_cells z5 bb5
  have G5 := Kp.mk (C7.out V5)
  have q50 : V5.cell? ⟨s5, 0, none⟩ = some (.bool Rg) := at_cells u50 rfl
  have q51 : V5.cell? ⟨s5, 1, none⟩ = some (.int .u64 Rw) := at_cells u50 rfl
  have q52 : V5.cell? ⟨s5, 2, none⟩ = some (.int .i64 Ra) := at_cells u50 rfl
  have q30 : V5.cell? ⟨s3, 0, none⟩ = some (.bool Rg) := at_cells y5' rfl
  have q31 : V5.cell? ⟨s3, 1, none⟩ = some (.int .u64 Rw) := at_cells y5' rfl
  have q32 : V5.cell? ⟨s3, 2, none⟩ = some (.int .i64 Ra) := at_cells y5' rfl
  clear G4 O45 O4' x4' x5 y4' y5 z40 z5 q40 q41 bb5 hb5 B5 B4'
  go_upto_region 8 with fail
  rw [← hV5, ← hs5]
  clear hV5 hs5
  go_wp2_with (go_at_call 21; refine G5.out.mono ?_; rintro e w6 ⟨rfl, hb6⟩)
  have B6 := bel_trans B5' hb6
  have x6 := keep_cells x5' hb6
  have z6 := keep_cells z5' hb6
  have O46 := O45'.keep hb6
  clear G5 O45' x5' y5' z5' u50 q50 q51 q52 q30 q31 q32 B5' hb6
  have q40 : w6.cell? ⟨s4, 0, none⟩ = some (.slice a4 xs.length k4) := at_cells z6 rfl
  have q41 : w6.cell? ⟨s4, 1, none⟩ = some (.int .i64 c) := at_cells z6 rfl
  have q00 : w6.cell? ⟨W.heap.size, 0, none⟩ = some (.slice a xs.length cap) := at_cells x6 rfl
  have q01 : w6.cell? ⟨W.heap.size, 1, none⟩ = some (.int .i64 c) := at_cells x6 rfl
  have hBD := (Below.refl w6.heap.size w6).drew
  have G6 := Kp.mk (C2.out w6.drew (H.out.keep (bel_trans B6 hBD)))
  have G7 := Kp.mk (fun w7 (h : Below w6.heap.size w6 w7) a7 k7 (O7 : OwnB w7 w6.heap.size (.slice a7 xs.length k7) xs) => C5.out w7 _ _ _ _ ((O46.keep h).bytes hn4) (O7.bytes hn4))
  have ZK := Kp.mk (fun w7 (h : Below w6.heap.size w6 w7) => (⟨at_cells (keep_cells z6 h) rfl, at_cells (keep_cells z6 h) rfl⟩ : w7.cell? ⟨s4, 0, none⟩ = some (.slice a4 xs.length k4) ∧ w7.cell? ⟨s4, 1, none⟩ = some (.int .i64 c)))
  go_region_with (first
    | (go_at_call 16; refine G6.out.mono ?_; rintro e w7 ⟨v7, rfl, O7, hb7⟩; obtain ⟨a7, k7, rfl⟩ := O7.form; have hb77 := hBD.trans hb7; obtain ⟨r0, r1⟩ := ZK.out w7 hb77)
    | (go_at_call 17; refine (G7.out w7 hb77 _ _ O7).mono ?_; rintro e w8 ⟨rfl, hb8⟩))
  all_goals
    have B8 := bel_trans B6 (bel_trans hb77 hb8)
    clear hb77 hb7 hb8 r0 r1 O7 q40 q41 q00 q01 G6 G7 ZK hBD x6 z6 O46 B6
    go_wp2_with fail
    go_ret
    exact ⟨rfl, B8⟩
end Go.Proofs.Ytfagafglloopbaa
