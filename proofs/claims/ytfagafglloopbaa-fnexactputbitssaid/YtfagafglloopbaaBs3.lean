/- The specification's writer: one bit more. -/
import Derived.Test.YtfagafglloopbaaBs2
namespace Go.Proofs.Ytfagafglloopbaa
open Go.ChangeShapes Go.WideShapes Go.ChangeAt Go.RowKit
open Go.Sort (grow)
set_option linter.unusedVariables false
set_option linter.unusedSimpArgs false
theorem or8one (x : Int) (k : Nat) (hk : k < 8) (h0 : 0 ≤ x) (h1 : x < 2 ^ k) : bits .or .u8 x (2 ^ k % 256) = x + 2 ^ k := by
  have := or8 x 1 k hk h0 h1 (by decide) (by decide)
  simpa using this
theorem set_same_list (xs : List Int) (j : Nat) (h : j < xs.length) : xs.set j (xs[j] + 0) = xs := by
  simp
set_option maxRecDepth 100000 in
set_option maxHeartbeats 4000000 in
theorem pushS (v : Value) (ys : List Int) (k : Nat) (bit : Int) (base : Nat) (w : World) (hown : OwnB w base v ys) (hs : Snd ys k) (b0 : 0 ≤ bit) (b1 : bit ≤ 1) (hk : k ≤ 281474976710656) (hbw : base ≤ w.heap.size) :
    Calls Try.prog 43 #[.agg #[v, .int .i64 k], .int .u64 bit] w fun e w' => ∃ v', e = .returned (.agg #[v', .int .i64 ((k : Int) + 1)]) ∧ OwnB w' base v' (pushB ys k bit) ∧ Below base w w' ∧ Out w w' := by
  obtain ⟨i0, hi0, hz0, hz1, hz2⟩ := info_parts info8
  obtain ⟨sa, sc, rfl⟩ := hown.form
  have hlen := hs.len
  -- the end: from a world whose box holds the answer's bytes, to the return
  have fin : Kp (∀ (W : World) (g : Option Addr) (cap : Nat) (zs : List Int) (hp : pushB ys k bit = zs), W.heap[w.heap.size]? = some (Go.Obj.cells #[.slice g zs.length cap, .int .i64 k] 24 (0, 0)) → W.heap[w.heap.size + 1]? = some (Go.Obj.cells #[.slice none 0 0, .int .i64 0] 24 (0, 0)) → OwnB W base (.slice g zs.length cap) zs → Below base w W → Out w W →
      W.cell? ⟨w.heap.size, 0, none⟩ = some (.slice g zs.length cap) ∧ W.cell? ⟨w.heap.size, 1, none⟩ = some (.int .i64 k) ∧ (∀ j, W.frozen? ⟨w.heap.size, j, none⟩ = false) ∧ W.cell? ⟨w.heap.size + 1, 0, none⟩ = some (.slice none 0 0) ∧ W.cell? ⟨w.heap.size + 1, 1, none⟩ = some (.int .i64 0) ∧ (∀ j, W.frozen? ⟨w.heap.size + 1, j, none⟩ = false) ∧ ∃ Z, Kp (Z = ((W.setCell ⟨w.heap.size, 1, none⟩ (.int .i64 ((k : Int) + 1))).setCell ⟨w.heap.size + 1, 0, none⟩ (.slice g zs.length cap)).setCell ⟨w.heap.size + 1, 1, none⟩ (.int .i64 ((k : Int) + 1))) ∧ Z.cell? ⟨w.heap.size + 1, 0, none⟩ = some (.slice g zs.length cap) ∧ Z.cell? ⟨w.heap.size + 1, 1, none⟩ = some (.int .i64 ((k : Int) + 1)) ∧ Kp (OwnB Z base (.slice g zs.length cap) (pushB ys k bit) ∧ Below base w Z ∧ Out w Z)) := ⟨fun W g cap zs hp h1 h2 h3 h4 h5 => by
    subst hp
    have hn1 := u8_ne h3 h1 (by decide)
    have hn2 := u8_ne h3 h2 (by decide)
    have y1 := set_cells h1 1 (.int .i64 ((k : Int) + 1))
    have y2 := (heap_set W w.heap.size 1 (w.heap.size + 1) (.int .i64 ((k : Int) + 1)) (by omega)).trans h2
    have zz := set_cells (set_cells y2 0 (.slice g (pushB ys k bit).length cap)) 1 (.int .i64 ((k : Int) + 1))
    exact ⟨at_cells h1 rfl, at_cells h1 rfl, rw_cells h1, at_cells h2 rfl, at_cells h2 rfl, rw_cells h2, _, ⟨rfl⟩, at_cells zz rfl, at_cells zz rfl, ⟨((h3.setOther hn1 _).setOther hn2 _).setOther hn2 _, bel_set (bel_set (bel_set h4 hbw _) (by omega) _) (by omega) _, ((h5.set _ _ _ (Nat.le_refl _)).set _ _ _ (by omega)).set _ _ _ (by omega)⟩⟩⟩
  have x1 : ((w.alloc (Go.Obj.cells #[.slice sa ys.length sc, .int .i64 k] 24 (0, 0))).alloc (Go.Obj.cells #[.slice none 0 0, .int .i64 0] 24 (0, 0))).heap[w.heap.size]? = some (Go.Obj.cells #[.slice sa ys.length sc, .int .i64 k] 24 (0, 0)) := keep_cells (new_cells w (Go.Obj.cells #[.slice sa ys.length sc, .int .i64 k] 24 (0, 0))) (bel_alloc _ (Go.Obj.cells #[.slice none 0 0, .int .i64 0] 24 (0, 0)))
  have x2 : ((w.alloc (Go.Obj.cells #[.slice sa ys.length sc, .int .i64 k] 24 (0, 0))).alloc (Go.Obj.cells #[.slice none 0 0, .int .i64 0] 24 (0, 0))).heap[w.heap.size + 1]? = some (Go.Obj.cells #[.slice none 0 0, .int .i64 0] 24 (0, 0)) := by
    have := new_cells (w.alloc (Go.Obj.cells #[.slice sa ys.length sc, .int .i64 k] 24 (0, 0))) (Go.Obj.cells #[.slice none 0 0, .int .i64 0] 24 (0, 0))
    rwa [World.size_alloc] at this
  have x3 : OwnB ((w.alloc (Go.Obj.cells #[.slice sa ys.length sc, .int .i64 k] 24 (0, 0))).alloc (Go.Obj.cells #[.slice none 0 0, .int .i64 0] 24 (0, 0))) base (.slice sa ys.length sc) ys := (hown.alloc _).alloc _
  have x4 := bel_trans (bel_alloc w (Go.Obj.cells #[.slice sa ys.length sc, .int .i64 k] 24 (0, 0))) (bel_alloc _ (Go.Obj.cells #[.slice none 0 0, .int .i64 0] 24 (0, 0)))
  have x5 : ((w.alloc (Go.Obj.cells #[.slice sa ys.length sc, .int .i64 k] 24 (0, 0))).alloc (Go.Obj.cells #[.slice none 0 0, .int .i64 0] 24 (0, 0))).heap.size = w.heap.size + 2 := by simp
  obtain ⟨V, hV⟩ : ∃ V, V = (w.alloc (Go.Obj.cells #[.slice sa ys.length sc, .int .i64 k] 24 (0, 0))).alloc (Go.Obj.cells #[.slice none 0 0, .int .i64 0] 24 (0, 0)) := ⟨_, rfl⟩
  rw [← hV] at x1 x2 x3 x4 x5
  have xo : Kp (Out w V) := ⟨Out.below x4⟩
  have xb : Below base w V := x4.mono hbw
  replace x5 := Kp.mk x5
  have y0 : V.cell? ⟨w.heap.size, 0, none⟩ = some (.slice sa ys.length sc) := at_cells x1 rfl
  have y1 : V.cell? ⟨w.heap.size, 1, none⟩ = some (.int .i64 k) := at_cells x1 rfl
  have f0 := rw_cells x1
  have hne := u8_ne x3 x1 (by decide)
  clear hown x4
  by_cases h8 : k % 8 = 0
  · have e8 : ((k : Int) % 8 == 0) = true := by simp; omega
    have hlt8 : Kp (k / 8 = ys.length) := ⟨by omega⟩
    have hq8 : k / 8 < ys.length + 1 := by omega
    have hyl : ys.length ≤ 35184372088840 := by omega
    have sV : w.heap.size + 2 ≤ V.heap.size := by have := (Array.getElem?_eq_some_iff.1 x2).1; omega
    have hall := Kp.mk (x3.alloc (Go.Obj.cells #[.int .u8 0] 5 (0, 0)))
    have hpe0 : pushB ys k bit = (ys ++ [0]).set (k / 8) (0 + bit * 2 ^ (k % 8)) := by unfold pushB; simp [h8]
    have hor := Kp.mk (or8one 0 (k % 8) (by omega) (by omega) (by rw [h8]; decide))
    have hlem : Kp (∀ v2 w2, w2.ownsRow base 5 1 v2 (ys.length + 1) (ys.map (Value.int .u8) ++ [.int .u8 0]) → (V.alloc (Go.Obj.cells #[.int .u8 0] 5 (0, 0))).grownBy w2 (Value.slice sa ys.length sc).ownBlock → ∃ g cap, v2 = .slice (some ⟨g, 0, none⟩) (ys.length + 1) cap ∧ (base ≤ g) ∧ Kp (OwnB w2 base (.slice (some ⟨g, 0, none⟩) (ys ++ [0]).length cap) (ys ++ [0])) ∧ Kp (Below base w w2) ∧ Kp (Out w w2) ∧ Kp (w2.heap[w.heap.size]? = some (Go.Obj.cells #[.slice sa ys.length sc, .int .i64 k] 24 (0, 0))) ∧ Kp (w2.heap[w.heap.size + 1]? = some (Go.Obj.cells #[.slice none 0 0, .int .i64 0] 24 (0, 0)))) := ⟨fun v2 w2 h1 h2 => by
      have hO : OwnB w2 base v2 (ys ++ [0]) := by unfold OwnB; simpa using h1
      obtain ⟨g, cap, rfl, hg1, hg2, hg3⟩ := hO.shape (by simp)
      have o1 : Out w w2 := (xo.out.trans (Out.below (bel_alloc _ _))).grown hall.out h2
      refine ⟨g, cap, by simp, hg1, ⟨hO⟩, ⟨own_bel (xb.alloc (by omega) _) hall.out h2 (by simp; omega)⟩, ⟨o1⟩, ⟨?_⟩, ⟨?_⟩⟩
      · rw [h2.block _ (by simp; omega) (fun e => hne e.symm), (MapKept.heap_alloc _ _).2 _ (by omega)]
        exact x1
      · rw [h2.block _ (by simp; omega) (fun e => u8_ne x3 x2 (by decide) e.symm), (MapKept.heap_alloc _ _).2 _ (by omega)]
        exact x2⟩
    have hset0 : ∀ (g : Nat) (cap : Nat) (w2 : World), w2.heap[w.heap.size]? = some (Go.Obj.cells #[.slice sa ys.length sc, .int .i64 k] 24 (0, 0)) → OwnB w2 base (.slice (some ⟨g, 0, none⟩) (ys ++ [0]).length cap) (ys ++ [0]) → Below base w w2 → Out w w2 → w2.heap[w.heap.size + 1]? = some (Go.Obj.cells #[.slice none 0 0, .int .i64 0] 24 (0, 0)) → ∃ W, W = w2.setCell ⟨w.heap.size, 0, none⟩ (.slice (some ⟨g, 0, none⟩) (ys.length + 1) cap) ∧ W.heap[w.heap.size]? = some (Go.Obj.cells #[.slice (some ⟨g, 0, none⟩) (ys.length + 1) cap, .int .i64 k] 24 (0, 0)) ∧ W.heap[w.heap.size + 1]? = some (Go.Obj.cells #[.slice none 0 0, .int .i64 0] 24 (0, 0)) ∧ OwnB W base (.slice (some ⟨g, 0, none⟩) (ys ++ [0]).length cap) (ys ++ [0]) ∧ Below base w W ∧ Out w W := fun g cap w2 h1 h2 h3 h4 h5 =>
      ⟨_, rfl, set_cells h1 0 _, (heap_set _ _ _ _ _ (by omega)).trans h5, h2.setOther (u8_ne h2 h1 (by decide)) _, bel_set h3 hbw _, h4.set _ _ _ (Nat.le_refl _)⟩
    replace hset0 := Kp.mk hset0
    replace h8 := Kp.mk h8
    replace hlen := Kp.mk hlen
    have el : (ys ++ [(0 : Int)]).length = ys.length + 1 := by simp
    clear hne
    by_cases hbit : bit = 1
    · subst hbit
      rw [Int.one_mul] at hpe0
      have hfin : Kp (∀ v2 w2, w2.ownsRow base 5 1 v2 (ys.length + 1) (ys.map (Value.int .u8) ++ [.int .u8 0]) → (V.alloc (Go.Obj.cells #[.int .u8 0] 5 (0, 0))).grownBy w2 (Value.slice sa ys.length sc).ownBlock → ∃ g cap, v2 = .slice (some ⟨g, 0, none⟩) (ys.length + 1) cap ∧ w2.cell? ⟨w.heap.size, 0, none⟩ = some (.slice sa ys.length sc) ∧ w2.cell? ⟨w.heap.size, 1, none⟩ = some (.int .i64 k) ∧ (∀ j, w2.frozen? ⟨w.heap.size, j, none⟩ = false) ∧ ∃ W, Kp (W = w2.setCell ⟨w.heap.size, 0, none⟩ (.slice (some ⟨g, 0, none⟩) (ys.length + 1) cap)) ∧ W.cell? ⟨w.heap.size, 0, none⟩ = some (.slice (some ⟨g, 0, none⟩) (ys.length + 1) cap) ∧ W.cell? ⟨w.heap.size, 1, none⟩ = some (.int .i64 k) ∧ W.cell? ⟨g, k / 8, none⟩ = some (.int .u8 0) ∧ W.frozen? ⟨g, k / 8, none⟩ = false ∧
        ∃ X, Kp (X = (W.setCell ⟨g, k / 8, none⟩ (.int .u8 (0 + 2 ^ (k % 8)))).drew) ∧ X.cell? ⟨w.heap.size, 0, none⟩ = some (.slice (some ⟨g, 0, none⟩) (ys.length + 1) cap) ∧ X.cell? ⟨w.heap.size, 1, none⟩ = some (.int .i64 k) ∧ (∀ j, X.frozen? ⟨w.heap.size, j, none⟩ = false) ∧ X.cell? ⟨w.heap.size + 1, 0, none⟩ = some (.slice none 0 0) ∧ X.cell? ⟨w.heap.size + 1, 1, none⟩ = some (.int .i64 0) ∧ (∀ j, X.frozen? ⟨w.heap.size + 1, j, none⟩ = false) ∧ ∃ Z, Kp (Z = ((X.setCell ⟨w.heap.size, 1, none⟩ (.int .i64 ((k : Int) + 1))).setCell ⟨w.heap.size + 1, 0, none⟩ (.slice (some ⟨g, 0, none⟩) (ys.length + 1) cap)).setCell ⟨w.heap.size + 1, 1, none⟩ (.int .i64 ((k : Int) + 1))) ∧ Z.cell? ⟨w.heap.size + 1, 0, none⟩ = some (.slice (some ⟨g, 0, none⟩) (ys.length + 1) cap) ∧ Z.cell? ⟨w.heap.size + 1, 1, none⟩ = some (.int .i64 ((k : Int) + 1)) ∧ Kp (OwnB Z base (.slice (some ⟨g, 0, none⟩) (ys.length + 1) cap) (pushB ys k 1) ∧ Below base w Z ∧ Out w Z)) := ⟨fun v2 w2 h1 h2 => by
        obtain ⟨g, cap, e, hg1, ⟨O2⟩, ⟨B2⟩, ⟨o2⟩, ⟨r1⟩, ⟨r2⟩⟩ := hlem.out v2 w2 h1 h2
        obtain ⟨W, hW, w1, w2', w3, w4, w5⟩ := hset0.out g cap w2 r1 O2 B2 o2 r2
        have hgne := u8_ne w3 w1 (by decide)
        have hgne2 := u8_ne w3 w2' (by decide)
        have ll : ((ys ++ [0]).set (k / 8) (0 + 2 ^ (k % 8))).length = ys.length + 1 := by simp
        have c1 : W.cell? ⟨g, k / 8, none⟩ = some (.int .u8 0) := by
          rw [w3.at (k / 8) (by simpa using hq8)]
          simp [hlt8.out]
        have st := w3.store (k / 8) (0 + 2 ^ (k % 8))
        obtain ⟨p0, p1, p2, p3, p4, p5, Z, hZ, z0, z1, zo⟩ := fin.out (W.setCell ⟨g, k / 8, none⟩ (.int .u8 (0 + 2 ^ (k % 8)))).drew (some ⟨g, 0, none⟩) cap ((ys ++ [0]).set (k / 8) (0 + 2 ^ (k % 8))) hpe0 (by rw [ll]; exact (heap_set _ _ _ _ _ (fun e => hgne (by simp [Value.ownBlock, e]))).trans w1) ((heap_set _ _ _ _ _ (fun e => hgne2 (by simp [Value.ownBlock, e]))).trans w2') (by rw [ll]; rw [el] at st; exact st.keep (Below.refl _ _).drew) (bel_set w4 hg1 _).drew ((w5.store w3 rfl _ _).drew)
        rw [ll] at p0 hZ z0 zo
        exact ⟨g, cap, e, at_cells r1 rfl, at_cells r1 rfl, rw_cells r1, W, ⟨hW⟩, at_cells w1 rfl, at_cells w1 rfl, c1, w3.frozenAt _, _, ⟨rfl⟩, p0, p1, p2, p3, p4, p5, Z, hZ, z0, z1, zo⟩⟩
      clear fin hlem hset0 x1 x2 x3 hpe0
      go_enter Try.func43, Try.ntmps43
      go_upto_region 1 with fail
      rw [← hV]
      clear hV
      go_upto_region 2 with fail
      go_wp2_with (at_builtin; refine wpList_append_vals _ rfl _ _ 22 rfl base 5 i0 (.int .u8 0) 1 1 Try.underlying22 hi0 hz0 hz1 hz2 rfl (by decide) _ _ _ rfl hall.out (some ⟨V.heap.size, 0, none⟩) V.heap.size 0 1 1 [.int .u8 0] rfl (fun _ => rfl) rfl (one_new V _ _) one_cell (by unfold maxLen; omega) (by omega) (by simp; omega) ?_; intro v2 w2 hown2 hgrow2; obtain ⟨g, cap, rfl, y20, y21, f20, W, hW, w10, w11, c1, c2, X, hX, p0, p1, p2, p3, p4, p5, Z, hZ, z0, z1, zo⟩ := hfin.out v2 w2 hown2 hgrow2)
      rw [← hW.out]
      clear y20 y21 f20 hW hfin y0 y1 f0
      go_region
      rw [hor.out, ← hX.out]
      clear c1 c2 w10 w11 hX
      go_wp2_with fail
      rw [← hZ.out]
      exact bodyPost_ret (v := .agg #[.slice (some ⟨g, 0, none⟩) (ys.length + 1) cap, .int .i64 ((k : Int) + 1)]) (by simp [results, Try.results43, go_sem, z0, z1]) rfl ⟨_, rfl, zo.out.1, zo.out.2.1, zo.out.2.2⟩
    · obtain rfl : bit = 0 := by omega
      have hfin : Kp (∀ v2 w2, w2.ownsRow base 5 1 v2 (ys.length + 1) (ys.map (Value.int .u8) ++ [.int .u8 0]) → (V.alloc (Go.Obj.cells #[.int .u8 0] 5 (0, 0))).grownBy w2 (Value.slice sa ys.length sc).ownBlock → ∃ g cap, v2 = .slice (some ⟨g, 0, none⟩) (ys.length + 1) cap ∧ w2.cell? ⟨w.heap.size, 0, none⟩ = some (.slice sa ys.length sc) ∧ w2.cell? ⟨w.heap.size, 1, none⟩ = some (.int .i64 k) ∧ (∀ j, w2.frozen? ⟨w.heap.size, j, none⟩ = false) ∧ w2.cell? ⟨w.heap.size + 1, 0, none⟩ = some (.slice none 0 0) ∧ w2.cell? ⟨w.heap.size + 1, 1, none⟩ = some (.int .i64 0) ∧ (∀ j, w2.frozen? ⟨w.heap.size + 1, j, none⟩ = false) ∧ ∃ Z, Kp (Z = (((w2.setCell ⟨w.heap.size, 0, none⟩ (.slice (some ⟨g, 0, none⟩) (ys.length + 1) cap)).setCell ⟨w.heap.size, 1, none⟩ (.int .i64 ((k : Int) + 1))).setCell ⟨w.heap.size + 1, 0, none⟩ (.slice (some ⟨g, 0, none⟩) (ys.length + 1) cap)).setCell ⟨w.heap.size + 1, 1, none⟩ (.int .i64 ((k : Int) + 1))) ∧ Z.cell? ⟨w.heap.size + 1, 0, none⟩ = some (.slice (some ⟨g, 0, none⟩) (ys.length + 1) cap) ∧ Z.cell? ⟨w.heap.size + 1, 1, none⟩ = some (.int .i64 ((k : Int) + 1)) ∧ Kp (OwnB Z base (.slice (some ⟨g, 0, none⟩) (ys.length + 1) cap) (pushB ys k 0) ∧ Below base w Z ∧ Out w Z)) := ⟨fun v2 w2 h1 h2 => by
        obtain ⟨g, cap, e, hg1, ⟨O2⟩, ⟨B2⟩, ⟨o2⟩, ⟨r1⟩, ⟨r2⟩⟩ := hlem.out v2 w2 h1 h2
        obtain ⟨W, rfl, w1, w2', w3, w4, w5⟩ := hset0.out g cap w2 r1 O2 B2 o2 r2
        have hp : pushB ys k 0 = ys ++ [0] := by
          rw [hpe0]
          have e0 : (0 : Int) + 0 * 2 ^ (k % 8) = 0 := by simp
          rw [e0, hlt8.out]
          simp
        obtain ⟨-, -, -, -, -, -, Z, hZ, z0, z1, zo⟩ := fin.out _ (some ⟨g, 0, none⟩) cap (ys ++ [0]) hp (by rw [el]; exact w1) w2' w3 w4 w5
        rw [el] at hZ z0 zo
        exact ⟨g, cap, e, at_cells r1 rfl, at_cells r1 rfl, rw_cells r1, at_cells r2 rfl, at_cells r2 rfl, rw_cells r2, Z, hZ, z0, z1, zo⟩⟩
      clear fin hlem hset0 x1 x2 x3 hpe0
      go_enter Try.func43, Try.ntmps43
      go_upto_region 1 with fail
      rw [← hV]
      clear hV
      go_upto_region 2 with fail
      go_wp2_with (at_builtin; refine wpList_append_vals _ rfl _ _ 22 rfl base 5 i0 (.int .u8 0) 1 1 Try.underlying22 hi0 hz0 hz1 hz2 rfl (by decide) _ _ _ rfl hall.out (some ⟨V.heap.size, 0, none⟩) V.heap.size 0 1 1 [.int .u8 0] rfl (fun _ => rfl) rfl (one_new V _ _) one_cell (by unfold maxLen; omega) (by omega) (by simp; omega) ?_; intro v2 w2 hown2 hgrow2; obtain ⟨g, cap, rfl, y20, y21, f20, y22, y23, f22, Z, hZ, z0, z1, zo⟩ := hfin.out v2 w2 hown2 hgrow2)
      rw [← hZ.out]
      exact bodyPost_ret (v := .agg #[.slice (some ⟨g, 0, none⟩) (ys.length + 1) cap, .int .i64 ((k : Int) + 1)]) (by simp [results, Try.results43, go_sem, z0, z1]) rfl ⟨_, rfl, zo.out.1, zo.out.2.1, zo.out.2.2⟩
  · have e8 : ((k : Int) % 8 == 0) = false := by simp; omega
    have hl2 : k / 8 < ys.length := by omega
    obtain ⟨g, cap, hg, hg1, hg2, hg3⟩ := x3.shape (by omega)
    injection hg with hga _ hgb
    subst hga hgb
    have hx := x3.at _ hl2
    have hx1 := hs.byte _ hl2
    have hx2 := hs.last h8 hl2
    obtain ⟨x, hxe⟩ : ∃ x, Kp (x = ys[k / 8]) := ⟨_, ⟨rfl⟩⟩
    rw [← hxe.out] at hx hx1 hx2
    have fg := x3.frozenAt (k / 8)
    by_cases hbit : bit = 1
    · subst hbit
      have hor := Kp.mk (or8one x (k % 8) (by omega) hx1.1 hx2)
      have hpe : pushB ys k 1 = ys.set (k / 8) (x + 2 ^ (k % 8)) := by unfold pushB; simp [h8, hl2, hxe.out]
      have O1 := (x3.store (k / 8) (x + 2 ^ (k % 8))).keep (Below.refl _ _).drew
      have hgne : g ≠ w.heap.size := fun e => hne (by simp [Value.ownBlock, e])
      have hgne2 : g ≠ w.heap.size + 1 := fun e => u8_ne x3 x2 (by decide) (by simp [Value.ownBlock, e])
      have x1' := (heap_set V g (k / 8) w.heap.size (.int .u8 (x + 2 ^ (k % 8))) hgne).trans x1
      have x2' := (heap_set V g (k / 8) (w.heap.size + 1) (.int .u8 (x + 2 ^ (k % 8))) hgne2).trans x2
      have xb' := (bel_set (k := k / 8) xb hg1 (.int .u8 (x + 2 ^ (k % 8)))).drew
      have xo' : Out w (V.setCell ⟨g, k / 8, none⟩ (.int .u8 (x + 2 ^ (k % 8)))).drew := (xo.out.store x3 rfl (k / 8) _).drew
      obtain ⟨X, hX⟩ : ∃ X, X = (V.setCell ⟨g, k / 8, none⟩ (.int .u8 (x + 2 ^ (k % 8)))).drew := ⟨_, rfl⟩
      have hll : (ys.set (k / 8) (x + 2 ^ (k % 8))).length = ys.length := List.length_set
      have FF := fin.out X (some ⟨g, 0, none⟩) sc (ys.set (k / 8) (x + 2 ^ (k % 8))) hpe (by rw [hX, hll]; exact x1') (by rw [hX]; exact x2') (by rw [hX, hll]; exact O1) (by rw [hX]; exact xb') (by rw [hX]; exact xo')
      rw [hll] at FF
      obtain ⟨p0, p1, p2, p3, p4, p5, Z, hZ, z0, z1, zo⟩ := FF
      clear fin x1' x2' xb' xo' O1 hpe x2 x3
      replace h8 := Kp.mk h8
      replace hlen := Kp.mk hlen
      go_enter Try.func43, Try.ntmps43
      go_upto_region 1 with fail
      rw [← hV]
      clear hV
      go_upto_region 4 with fail
      go_region
      rw [hor.out, ← hX]
      clear hX hx y0 y1 f0 fg x1
      go_wp2_with fail
      rw [← hZ.out]
      exact bodyPost_ret (v := .agg #[.slice (some ⟨g, 0, none⟩) ys.length sc, .int .i64 ((k : Int) + 1)]) (by simp [results, Try.results43, go_sem, z0, z1]) rfl ⟨_, rfl, zo.out.1, zo.out.2.1, zo.out.2.2⟩
    · obtain rfl : bit = 0 := by omega
      have hpe : pushB ys k 0 = ys := by unfold pushB; simp [h8, hl2]
      obtain ⟨p0, p1, p2, p3, p4, p5, Z, hZ, z0, z1, zo⟩ := fin.out V (some ⟨g, 0, none⟩) sc ys hpe x1 x2 x3 xb xo.out
      clear fin hpe x2 x3 hx y0 y1 f0 fg x1
      replace h8 := Kp.mk h8
      replace hlen := Kp.mk hlen
      go_enter Try.func43, Try.ntmps43
      go_upto_region 1 with fail
      rw [← hV]
      clear hV
      go_wp2_with fail
      rw [← hZ.out]
      exact bodyPost_ret (v := .agg #[.slice (some ⟨g, 0, none⟩) ys.length sc, .int .i64 ((k : Int) + 1)]) (by simp [results, Try.results43, go_sem, z0, z1]) rfl ⟨_, rfl, zo.out.1, zo.out.2.1, zo.out.2.2⟩
end Go.Proofs.Ytfagafglloopbaa
