/- The program's GetVar. -/
import Derived.Test.YtfagafglloopbaaBv1
namespace Go.Proofs.Ytfagafglloopbaa
open Go.ChangeShapes Go.WideShapes Go.ChangeAt Go.RowKit
open Go.Sort (grow)
set_option linter.unusedVariables false
set_option linter.unusedSimpArgs false
set_option maxRecDepth 100000 in
set_option maxHeartbeats 4000000 in
theorem getVarI (v : Value) (xs : List Int) (c p n : Int) (w : World) {lo : Nat} (h : Ints lo .u8 w v xs) (hn : xs.length ≤ 1048576) (c0 : -9223372036854775808 ≤ c) (c1 : c ≤ 9223372036854775807) (hb : ∀ i (h : i < xs.length), 0 ≤ xs[i] ∧ xs[i] < 256) (p0 : -9223372036854775808 ≤ p) (p1 : p ≤ 9223372036854775807) (n0 : -9223372036854775808 ≤ n) (n1 : n ≤ 9223372036854775807) :
    Calls Try.prog 13 #[.agg #[v, .int .i64 c], .int .i64 p, .int .i64 n] w fun e w' => e = .returned (resV (resG (sndOf xs c).1 (sndOf xs c).2 p n)) ∧ Below w.heap.size w w' := by
  have hS := sndOf_snd (c := c) hb
  have hl : (sndOf xs c).1.length ≤ 1048576 := by
    by_cases q : okB xs c
    · rw [sndOf_yes q]; exact hn
    · rw [sndOf_no q]; decide
  have C1 : Kp (∀ W, Ints lo .u8 W v xs → Calls Try.prog 29 #[.agg #[v, .int .i64 c]] W _) := ⟨fun W h => soundI v xs c W h hn c0 c1 hb⟩
  obtain ⟨⟨ys, k⟩, hy⟩ : ∃ q, q = sndOf xs c := ⟨_, rfl⟩
  rw [← hy] at C1 hl hS ⊢
  dsimp only at C1 hl hS ⊢
  have CB : Kp (∀ w, Calls Try.prog 27 #[.int .i64 n] w _) := ⟨fun w => pieceSizeI n w⟩
  have HI := Kp.mk h
  obtain ⟨b, o, ⟨⟨a, cap, rfl, h1, h2⟩, h3⟩, -, hc⟩ := h.ex
  clear h h1 h2 hc hy
  have b1 := bel_trans (bel_alloc w (Go.Obj.cells #[.slice a xs.length cap, .int .i64 c] 24 (0, 0))) (bel_alloc _ (Go.Obj.cells #[.bool false, .int .u64 0, .int .i64 0] 33 (0, 0)))
  have x1 := keep_cells (new_cells w (Go.Obj.cells #[.slice a xs.length cap, .int .i64 c] 24 (0, 0))) (bel_alloc _ (Go.Obj.cells #[.bool false, .int .u64 0, .int .i64 0] 33 (0, 0)))
  have x2 : ((w.alloc (Go.Obj.cells #[.slice a xs.length cap, .int .i64 c] 24 (0, 0))).alloc (Go.Obj.cells #[.bool false, .int .u64 0, .int .i64 0] 33 (0, 0))).heap[w.heap.size + 1]? = some (Go.Obj.cells #[.bool false, .int .u64 0, .int .i64 0] 33 (0, 0)) := by
    have := new_cells (w.alloc (Go.Obj.cells #[.slice a xs.length cap, .int .i64 c] 24 (0, 0))) (Go.Obj.cells #[.bool false, .int .u64 0, .int .i64 0] 33 (0, 0))
    rwa [World.size_alloc] at this
  by_cases hg : 2 ≤ n ∧ n ≤ 32
  · have e0 : (decide (2 ≤ n) && decide (n ≤ 32)) = true := by simp; omega
    rw [e0] at CB
    obtain ⟨m, rfl⟩ : ∃ m : Nat, n = (m : Int) + 1 := ⟨(n - 1).toNat, by omega⟩
    have em : ((m : Int) + 1).toNat - 1 = m := by omega
    have hres : resG ys k p ((m : Int) + 1) = gv ys k m 65 0 p 0 := by rw [resG, if_pos hg, em]
    rw [hres]
    obtain ⟨⟨Rg, Rw, Ra⟩, hR⟩ : ∃ R, R = gv ys k m 65 0 p 0 := ⟨_, rfl⟩
    rw [← hR]
    clear hres em
    obtain ⟨V, hV⟩ : ∃ V, V = (w.alloc (Go.Obj.cells #[.slice a xs.length cap, .int .i64 c] 24 (0, 0))).alloc (Go.Obj.cells #[.bool false, .int .u64 0, .int .i64 0] 33 (0, 0)) := ⟨_, rfl⟩
    rw [← hV] at b1 x1 x2
    have G1 := Kp.mk (C1.out V (HI.out.keep b1))
    have y0 : V.cell? ⟨w.heap.size, 0, none⟩ = some (.slice a xs.length cap) := at_cells x1 rfl
    have y1 : V.cell? ⟨w.heap.size, 1, none⟩ = some (.int .i64 c) := at_cells x1 rfl
    clear C1
    go_enter Try.func13, Try.ntmps13
    go_upto_region 1 with fail
    rw [← hV]
    clear hV
    go_upto_region 3 with (go_at_call 27; refine (CB.out _).mono ?_; rintro e w2 ⟨rfl, rfl⟩)
    go_wp2_with fail
    refine G1.out.mono ?_
    rintro e w1 ⟨v1, rfl, H1, hb1⟩
    have H2 := H1 w lo HI.out
    obtain ⟨a1, cap1, rfl, -⟩ : ∃ a1 c1, v1 = .slice a1 ys.length c1 ∧ ys.length ≤ 140737488355328 := by
      obtain ⟨b, o, ⟨⟨a, cap, e, h1, h2⟩, h3⟩, -, hc⟩ := H2.ex
      exact ⟨a, cap, e, h3⟩
    have b2 := bel_trans b1 hb1
    have z2 := keep_cells x2 hb1
    obtain ⟨s, hs⟩ : ∃ s, s = w1.heap.size := ⟨_, rfl⟩
    have r1 := new_cells w1 (Go.Obj.cells #[.slice a1 ys.length cap1, .int .i64 k, .int .i64 p, .bool false] 51 (0, 0))
    have b3 := bel_trans b2 (bel_alloc w1 (Go.Obj.cells #[.slice a1 ys.length cap1, .int .i64 k, .int .i64 p, .bool false] 51 (0, 0)))
    have z3 := keep_cells z2 (bel_alloc w1 (Go.Obj.cells #[.slice a1 ys.length cap1, .int .i64 k, .int .i64 p, .bool false] 51 (0, 0)))
    obtain ⟨V2, hV2⟩ : ∃ V, V = w1.alloc (Go.Obj.cells #[.slice a1 ys.length cap1, .int .i64 k, .int .i64 p, .bool false] 51 (0, 0)) := ⟨_, rfl⟩
    rw [← hs] at r1
    rw [← hV2] at r1 b3 z3
    have hsz : w.heap.size + 2 ≤ s := by have := (Array.getElem?_eq_some_iff.1 z2).1; omega
    have G2 := piecesGI s _ ys k p m w V2 H2 b3 (by omega) r1 hS hl p0 p1 (by omega) (by omega)
    rw [← hR] at G2
    replace G2 := Kp.mk G2
    clear hR
    clear G1 y0 y1 x1 x2 b1 hb1 H1 z2 b2
    go_upto_region 4 with fail
    rw [← hV2, ← hs]
    clear hV2 hs r1
    go_wp2_with fail
    refine G2.out.mono ?_
    rintro e w2 ⟨x, p2, f2, rfl, r2, hres, hB2⟩
    have b4 := b3.trans (hB2 _ (show w.heap.size ≤ s by omega))
    have z4 := (hB2 (w.heap.size + 2) hsz).block (w.heap.size + 1) (by omega) |>.trans z3
    have G3 := resultI s _ k p2 x f2 w2 r2
    rw [hres] at G3
    replace G3 := Kp.mk G3
    clear G2 b3 z3 hres r2 hB2
    go_wp2_with (go_at_call 30; refine G3.out.mono ?_; rintro e w3 ⟨rfl, hb3⟩; have b5 := bel_trans b4 hb3; have z5 := keep_cells z4 hb3; have y0 : w3.cell? ⟨w.heap.size + 1, 0, none⟩ = some (.bool false) := at_cells z5 rfl; have y1 : w3.cell? ⟨w.heap.size + 1, 1, none⟩ = some (.int .u64 0) := at_cells z5 rfl; have y2 : w3.cell? ⟨w.heap.size + 1, 2, none⟩ = some (.int .i64 0) := at_cells z5 rfl; have f5 := rw_cells z5)
    have zz := set_cells (set_cells (set_cells z5 0 (.bool Rg)) 1 (.int .u64 Rw)) 2 (.int .i64 Ra)
    have zb := bel_set (k := 2) (bel_set (k := 1) (bel_set (k := 0) b5 (show w.heap.size ≤ w.heap.size + 1 by omega) (.bool Rg)) (show w.heap.size ≤ w.heap.size + 1 by omega) (.int .u64 Rw)) (show w.heap.size ≤ w.heap.size + 1 by omega) (.int .i64 Ra)
    obtain ⟨Z, hZ⟩ : ∃ Z, Z = ((w3.setCell ⟨w.heap.size + 1, 0, none⟩ (.bool Rg)).setCell ⟨w.heap.size + 1, 1, none⟩ (.int .u64 Rw)).setCell ⟨w.heap.size + 1, 2, none⟩ (.int .i64 Ra) := ⟨_, rfl⟩
    rw [← hZ] at zz zb ⊢
    have q0 : Z.cell? ⟨w.heap.size + 1, 0, none⟩ = some (.bool Rg) := at_cells zz rfl
    have q1 : Z.cell? ⟨w.heap.size + 1, 1, none⟩ = some (.int .u64 Rw) := at_cells zz rfl
    have q2 : Z.cell? ⟨w.heap.size + 1, 2, none⟩ = some (.int .i64 Ra) := at_cells zz rfl
    exact bodyPost_ret (v := .agg #[.bool Rg, .int .u64 Rw, .int .i64 Ra]) (by simp [results, Try.results13, go_sem, q0, q1, q2]) rfl ⟨rfl, zb⟩
  · have e0 : (decide (2 ≤ n) && decide (n ≤ 32)) = false := by simp; omega
    rw [e0] at CB
    rw [show resG ys k p n = (false, 0, 0) from if_neg hg]
    clear C1 HI x1 x2 hS b1
    go_enter Try.func13, Try.ntmps13
    go_wp2_with (go_at_call 27; refine (CB.out _).mono ?_; rintro e w2 ⟨rfl, rfl⟩)
    go_returns
    exact ⟨rfl, by go_grown⟩
end Go.Proofs.Ytfagafglloopbaa
