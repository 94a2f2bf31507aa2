/- The law that compares PutVar of the program with its model. -/
import Derived.Test.YtfagafglloopbaaBi6
import Derived.Test.YtfagafglloopbaaBs7
import Derived.Test.YtfagafglloopbaaBh2
import Derived.Test.YtfagafglloopbaaBo1
namespace Go.Proofs.Ytfagafglloopbaa
open Go.ChangeShapes Go.WideShapes Go.ChangeAt Go.RowKit
open Go.Sort (grow)
set_option linter.unusedVariables false
set_option linter.unusedSimpArgs false
theorem varL_snd (m : Nat) (hm : m ≤ 31) (f : Nat) : ∀ (xs : List Int) (c : Nat) (v : Int), Snd xs c → Snd (varL m f xs c v).1 (varL m f xs c v).2 ∧ (varL m f xs c v).2 ≤ c + (f + 1) * 32 := by
  induction f with
  | zero => exact fun xs c v h => ⟨(h.put v m).push (by decide) (by decide), by simp only [varL]; omega⟩
  | succ f ih =>
    intro xs c v h
    unfold varL
    split
    · exact ⟨(h.put v m).push (by decide) (by decide), by dsimp only; omega⟩
    · have := ih (pushB (putB xs c v m) (c + m) 1) (c + m + 1) (v / 2 ^ m) ((h.put v m).push (by decide) (by decide))
      exact ⟨this.1, by have := this.2; omega⟩
theorem varR_len (xs : List Int) (c x n : Int) (hn : xs.length ≤ 1048576) (hb : ∀ i (h : i < xs.length), 0 ≤ xs[i] ∧ xs[i] < 256) : (varR (sndOf xs c).1 (sndOf xs c).2 x n).1.length ≤ 2097152 := by
  have hS := sndOf_snd (c := c) hb
  have hl : (sndOf xs c).1.length ≤ 1048576 := by
    by_cases q : okB xs c
    · rw [sndOf_yes q]; exact hn
    · rw [sndOf_no q]; decide
  unfold varR
  split
  · rename_i h
    have h1 := varL_snd (n.toNat - 1) (by omega) 64 _ _ x hS
    have h2 := hS.len
    have h3 := h1.1.len
    have h4 := h1.2
    omega
  · dsimp only; omega
theorem OwnB.apart2 {w w' : World} {base : Nat} {v u : Value} {xs : List Int} (h : OwnB w base v xs) (hq : ∀ b, b < w.heap.size → some b ≠ u.ownBlock → w'.heap[b]? = w.heap[b]?) (hne : ∀ g, v.ownBlock = some g → u.ownBlock ≠ some g) : OwnB w' base v xs :=
  h.same (fun g hg => hq g (h.lt g hg).2 (fun e => hne g hg e.symm))
set_option maxRecDepth 100000 in
set_option maxHeartbeats 4000000 in
theorem putVar_law (v : Value) (xs : List Int) (c x n : Int) (wx : (Lit.int .u64 x).wf = true) (wn : (Lit.int .i64 n).wf = true) (W : World) (h : Ints 0 .u8 W v xs) (hb : ∀ i (h : i < xs.length), 0 ≤ xs[i] ∧ xs[i] < 256) (wc : (Lit.int .i64 c).wf = true) :
    Calls Try.prog 6 #[.agg #[v, .int .i64 c], .int .u64 x, .int .i64 n] W fun e w' => e = .returned (.bool true) ∧ Below W.heap.size W w' := by
  obtain ⟨x0, x1⟩ := u64_of wx
  obtain ⟨n0, n1⟩ := i64_of wn
  obtain ⟨c0, c1⟩ := i64_of wc
  have C1 : Kp (∀ w, Ints 0 .u8 w v xs → Calls Try.prog 14 _ w _) := ⟨fun w h => szBits v xs c w h⟩
  have H := Kp.mk h
  obtain ⟨a, cap, rfl, h3⟩ := h.shape
  have xW := new_cells W (Go.Obj.cells #[.slice a xs.length cap, .int .i64 c] 36 (0, 0))
  by_cases hq : less 1048576 (xs.length : Int) < 0
  · clear h xW
    generalize less 1048576 (xs.length : Int) = r at *
    go_enter Try.func6, Try.ntmps6
    go_wp2_with fail
    refine (C1.out _ (H.out.keep (bel_alloc _ _))).mono ?_
    rintro e w1 ⟨rfl, hb1⟩
    go_wp2_with fail
    go_ret
    exact ⟨rfl, bel_trans (bel_alloc _ _) hb1⟩
  have hn : xs.length ≤ 1048576 := by unfold less at hq; split at hq <;> omega
  have hn2 : xs.length ≤ 2097152 := by omega
  have C2 : Kp (∀ w, Ints 0 .u8 w (.slice a xs.length cap) xs → Calls Try.prog 16 #[.agg #[.slice a xs.length cap, .int .i64 c]] w _) := ⟨fun w h => toBits _ xs c w h hn2⟩
  have C3 : Kp (∀ w l u, Ints l .u8 w u xs → Calls Try.prog 22 #[.agg #[u, .int .i64 c], .int .u64 x, .int .i64 n] w _) := ⟨fun w l u h => putVarS u xs c x n w h hn c0 c1 hb x0 x1 n0 n1⟩
  have C4 : Kp (∀ w l u, Ints l .u8 w u xs → Calls Try.prog 11 #[.agg #[u, .int .i64 c], .int .u64 x, .int .i64 n] w _) := ⟨fun w l u h => putVarI u xs c x n w h hn c0 c1 hb x0 x1 n0 n1⟩
  have C5 : Kp (∀ w l l2 u u2, Ints l .u8 w u xs → Ints l2 .u8 w u2 xs → Calls Try.prog 17 #[.agg #[u, .int .i64 c], .agg #[u2, .int .i64 c]] w _) := ⟨fun w l l2 u u2 h k => eqBits u u2 xs c w h k hn2⟩
  have C6 : Kp (∀ w base u, OwnB w base u xs → base ≤ w.heap.size → Calls Try.prog 18 #[.agg #[u, .int .i64 c], .int .i64 1] w _) := ⟨fun w base u h hb => markBits u xs c base w h hn2 hb⟩
  have hRl : (varR (sndOf xs c).1 (sndOf xs c).2 x n).1.length ≤ 2097152 := varR_len xs c x n hn hb
  obtain ⟨⟨zs, q⟩, hR⟩ : ∃ R, R = varR (sndOf xs c).1 (sndOf xs c).2 x n := ⟨_, rfl⟩
  rw [← hR] at C3 C4 hRl
  dsimp only at C3 C4 hRl
  have C7 : Kp (∀ w l l2 u u2, Ints l .u8 w u zs → Ints l2 .u8 w u2 zs → Calls Try.prog 17 #[.agg #[u, .int .i64 (q : Nat)], .agg #[u2, .int .i64 (q : Nat)]] w _) := ⟨fun w l l2 u u2 h k => eqBits u u2 zs q w h k hRl⟩
  have C8 : Kp (∀ w base u, OwnB w base u zs → base ≤ w.heap.size → Calls Try.prog 18 #[.agg #[u, .int .i64 (q : Nat)], .int .i64 1] w _) := ⟨fun w base u h hb => markBits u zs q base w h hRl hb⟩
  have C9 : Kp (∀ w l u ms, ms.length = zs.length → Ints l .u8 w u ms → (∀ j (hj : j < ms.length), ms[j] = (1 + j) % 256) → Calls Try.prog 19 #[.agg #[u, .int .i64 (q : Nat)], .int .i64 1] w fun e w' => e = .returned (.int .i64 (1 + zs.length)) ∧ Below w.heap.size w w') := ⟨fun w l u ms e h hm => by rw [← e]; exact heldBits u ms q w h hm (by omega)⟩
  have hn3 : zs.length ≤ 1099511627776 := by omega
  have hn4 : xs.length ≤ 1099511627776 := by omega
  clear h hR hb wx wn wc hn hn2
  generalize less 1048576 (xs.length : Int) = r at *
  go_enter Try.func6, Try.ntmps6
  go_wp2_with fail
  refine (C1.out _ (H.out.keep (bel_alloc _ _))).mono ?_
  rintro e w1 ⟨rfl, hb1⟩
  have B1 := bel_trans (bel_alloc _ _) hb1
  have x1 := keep_cells xW hb1
  have p10 : w1.cell? ⟨W.heap.size, 0, none⟩ = some (.slice a xs.length cap) := at_cells x1 rfl
  have p11 : w1.cell? ⟨W.heap.size, 1, none⟩ = some (.int .i64 c) := at_cells x1 rfl
  have G1 := Kp.mk (C2.out w1 (H.out.keep B1))
  clear C1 xW
  go_wp2_with fail
  refine G1.out.mono ?_
  rintro e w2 ⟨v2, rfl, O2, hb2⟩
  obtain ⟨a2, k2, rfl⟩ := O2.form
  have B2 := bel_trans B1 hb2
  have x2 := keep_cells x1 hb2
  have G2 := Kp.mk (C3.out w2 _ _ (O2.bytes hn4))
  clear G1 p10 p11 C3 hb1
  go_wp2_with fail
  refine G2.out.mono ?_
  rintro e w3 ⟨v3, rfl, O3, hb3⟩
  obtain ⟨a3, k3, rfl⟩ := O3.form
  have B3 := bel_trans B2 hb3
  have x3 := keep_cells x2 hb3
  obtain ⟨s3, hs3⟩ : ∃ s, s = w3.heap.size := ⟨_, rfl⟩
  have y30 := new_cells w3 (Go.Obj.cells #[.slice a3 zs.length k3, .int .i64 q] 24 (0, 0))
  have bb3 := bel_alloc w3 (Go.Obj.cells #[.slice a3 zs.length k3, .int .i64 q] 24 (0, 0))
  have O3' := O3.keep bb3
  obtain ⟨V3, hV3⟩ : ∃ V, V = w3.alloc (Go.Obj.cells #[.slice a3 zs.length k3, .int .i64 q] 24 (0, 0)) := ⟨_, rfl⟩
  rw [← hs3] at y30
  rw [← hV3] at y30 bb3 O3'
  have B3' := bel_trans B3 bb3
  have x3' := keep_cells x3 bb3
  have hWV := Kp.mk B3'.size
  have G3 := Kp.mk (C2.out V3 (H.out.keep B3'))
  have q30 : V3.cell? ⟨W.heap.size, 0, none⟩ = some (.slice a xs.length cap) := at_cells x3' rfl
  have q31 : V3.cell? ⟨W.heap.size, 1, none⟩ = some (.int .i64 c) := at_cells x3' rfl
  clear G2 O3 O2 x3 x2 x1 bb3 hb2 hb3 B1 B2 B3
  go_upto_region 6 with fail
  rw [← hV3, ← hs3]
  replace hs3 := Kp.mk hs3
  have hV3s : Kp (s3 < V3.heap.size) := ⟨(Array.getElem?_eq_some_iff.1 y30).1⟩
  clear hV3
  go_wp2_with fail
  refine G3.out.mono ?_
  rintro e w4 ⟨v4, rfl, O4, hb4⟩
  obtain ⟨a4, k4, rfl⟩ := O4.form
  have B4 := bel_trans B3' hb4
  have x4 := keep_cells x3' hb4
  have y4 := keep_cells y30 hb4
  have O34 := O3'.keep hb4
  obtain ⟨s4, hs4⟩ : ∃ s, s = w4.heap.size := ⟨_, rfl⟩
  have z40 := new_cells w4 (Go.Obj.cells #[.slice a4 xs.length k4, .int .i64 c] 24 (0, 0))
  have bb4 := bel_alloc w4 (Go.Obj.cells #[.slice a4 xs.length k4, .int .i64 c] 24 (0, 0))
  have O4' := O4.keep bb4
  have O34' := O34.keep bb4
  obtain ⟨V4, hV4⟩ : ∃ V, V = w4.alloc (Go.Obj.cells #[.slice a4 xs.length k4, .int .i64 c] 24 (0, 0)) := ⟨_, rfl⟩
  have hl4 : ∀ g, (Value.slice a4 xs.length k4).ownBlock = some g → V3.heap.size ≤ g ∧ g < s4 := fun g hg => by rw [hs4]; exact O4.lt g hg
  have hl3 : ∀ g, (Value.slice a3 zs.length k3).ownBlock = some g → g < V3.heap.size := fun g hg => (O3'.lt g hg).2
  rw [← hs4] at z40
  rw [← hV4] at z40 bb4 O4' O34'
  have B4' := bel_trans B4 bb4
  have x4' := keep_cells x4 bb4
  have y4' := keep_cells y4 bb4
  have hV4s : Kp (s4 < V4.heap.size) := ⟨(Array.getElem?_eq_some_iff.1 z40).1⟩
  have hV34 : Kp (V3.heap.size ≤ V4.heap.size) := ⟨by have := hb4.size; have := bb4.size; omega⟩
  have G4 := Kp.mk (C4.out V4 _ _ (O4'.bytes hn4))
  have q40 : V4.cell? ⟨s4, 0, none⟩ = some (.slice a4 xs.length k4) := at_cells z40 rfl
  have q41 : V4.cell? ⟨s4, 1, none⟩ = some (.int .i64 c) := at_cells z40 rfl
  replace hl4 := Kp.mk hl4
  replace hl3 := Kp.mk hl3
  clear G3 O3' O34 O4 x3' x4 y30 y4 q30 q31 bb4 hb4 B4 B3'
  go_upto_region 7 with fail
  rw [← hV4, ← hs4]
  replace hs4 := Kp.mk hs4
  clear hV4
  go_wp2_with fail
  refine G4.out.mono ?_
  rintro e w5 ⟨v5, rfl, O5, hb5⟩
  obtain ⟨a5, k5, rfl⟩ := O5.form
  have B5 := bel_trans B4' hb5
  have x5 := keep_cells x4' hb5
  have y5 := keep_cells y4' hb5
  have z5 := keep_cells z40 hb5
  have O35 := O34'.keep hb5
  have O45 := O4'.keep hb5
  obtain ⟨s5, hs5⟩ : ∃ s, s = w5.heap.size := ⟨_, rfl⟩
  have u50 := new_cells w5 (Go.Obj.cells #[.slice a5 zs.length k5, .int .i64 q] 24 (0, 0))
  have bb5 := bel_alloc w5 (Go.Obj.cells #[.slice a5 zs.length k5, .int .i64 q] 24 (0, 0))
  have O5' := O5.keep bb5
  have O35' := O35.keep bb5
  have O45' := O45.keep bb5
  obtain ⟨V5, hV5⟩ : ∃ V, V = w5.alloc (Go.Obj.cells #[.slice a5 zs.length k5, .int .i64 q] 24 (0, 0)) := ⟨_, rfl⟩
  have hl5 : Kp (∀ g, (Value.slice a5 zs.length k5).ownBlock = some g → V4.heap.size ≤ g) := ⟨fun g hg => (O5.lt g hg).1⟩
  rw [← hs5] at u50
  rw [← hV5] at u50 bb5 O5' O35' O45'
  have B5' := bel_trans B5 bb5
  have x5' := keep_cells x5 bb5
  have y5' := keep_cells y5 bb5
  have z5' := keep_cells z5 bb5
  have hV5s : Kp (V4.heap.size ≤ V5.heap.size) := ⟨by have := hb5.size; have := bb5.size; omega⟩
  have G5 := Kp.mk (C7.out V5 _ _ _ _ (O5'.bytes hn3) (O35'.bytes hn3))
  have q50 : V5.cell? ⟨s5, 0, none⟩ = some (.slice a5 zs.length k5) := at_cells u50 rfl
  have q51 : V5.cell? ⟨s5, 1, none⟩ = some (.int .i64 q) := at_cells u50 rfl
  have q30 : V5.cell? ⟨s3, 0, none⟩ = some (.slice a3 zs.length k3) := at_cells y5' rfl
  have q31 : V5.cell? ⟨s3, 1, none⟩ = some (.int .i64 q) := at_cells y5' rfl
  clear G4 O5 O34' O35 O45 O4' x4' x5 y4' y5 z40 z5 q40 q41 bb5 hb5 B5 B4'
  go_upto_region 8 with fail
  rw [← hV5, ← hs5]
  replace hs5 := Kp.mk hs5
  clear hV5
  go_wp2_with (go_at_call 17; refine G5.out.mono ?_; rintro e w6 ⟨rfl, hb6⟩)
  have B6 := bel_trans B5' hb6
  have x6 := keep_cells x5' hb6
  have y6 := keep_cells y5' hb6
  have z6 := keep_cells z5' hb6
  have u6 := keep_cells u50 hb6
  have O36 := O35'.keep hb6
  have O46 := O45'.keep hb6
  have O56 := O5'.keep hb6
  have hV6s : Kp (V5.heap.size ≤ w6.heap.size) := ⟨hb6.size⟩
  clear G5 O5' O35' O45' x5' y5' z5' u50 q50 q51 q30 q31 B5' hb6
  have q40 : w6.cell? ⟨s4, 0, none⟩ = some (.slice a4 xs.length k4) := at_cells z6 rfl
  have q41 : w6.cell? ⟨s4, 1, none⟩ = some (.int .i64 c) := at_cells z6 rfl
  have q00 : w6.cell? ⟨W.heap.size, 0, none⟩ = some (.slice a xs.length cap) := at_cells x6 rfl
  have q01 : w6.cell? ⟨W.heap.size, 1, none⟩ = some (.int .i64 c) := at_cells x6 rfl
  have hBD := (Below.refl w6.heap.size w6).drew
  have G6 := Kp.mk (C2.out w6.drew (H.out.keep (bel_trans B6 hBD)))
  have G7 := Kp.mk (fun w7 (h : Below w6.heap.size w6 w7) a7 k7 (O7 : OwnB w7 w6.heap.size (.slice a7 xs.length k7) xs) => C5.out w7 _ _ _ _ ((O46.keep h).bytes hn4) (O7.bytes hn4))
  have ZK := Kp.mk (fun w7 (h : Below w6.heap.size w6 w7) => (⟨at_cells (keep_cells z6 h) rfl, at_cells (keep_cells z6 h) rfl⟩ : w7.cell? ⟨s4, 0, none⟩ = some (.slice a4 xs.length k4) ∧ w7.cell? ⟨s4, 1, none⟩ = some (.int .i64 c)))
  go_region_with (first
    | (go_at_call 16; refine G6.out.mono ?_; rintro e w7 ⟨v7, rfl, O7, hb7⟩; obtain ⟨a7, k7, rfl⟩ := O7.form; have hb77 := hBD.trans hb7; obtain ⟨r0, r1⟩ := ZK.out w7 hb77)
    | (go_at_call 17; refine (G7.out w7 hb77 _ _ O7).mono ?_; rintro e w8 ⟨rfl, hb8⟩))
  all_goals
    have hb78 := bel_trans hb77 hb8
    have B8 := bel_trans B6 hb78
    have x8 := keep_cells x6 hb78
    have y8 := keep_cells y6 hb78
    have z8 := keep_cells z6 hb78
    have u8 := keep_cells u6 hb78
    have O38 := O36.keep hb78
    have O48 := O46.keep hb78
    have O58 := O56.keep hb78
    have h68 := hb78.size
    have e1 := hV3s.out
    have e2 := hV4s.out
    have e3 := hV34.out
    have e4 := hV5s.out
    have e5 := hV6s.out
    have G8 := Kp.mk (C6.out w8 _ _ O48 (by omega))
    have p0 : w8.cell? ⟨s4, 0, none⟩ = some (.slice a4 xs.length k4) := at_cells z8 rfl
    have p1 : w8.cell? ⟨s4, 1, none⟩ = some (.int .i64 c) := at_cells z8 rfl
    have hne3 : ∀ g, (Value.slice a3 zs.length k3).ownBlock = some g → (Value.slice a4 xs.length k4).ownBlock ≠ some g := fun g h1 h2 => by have := hl3.out g h1; have := hl4.out g h2; omega
    have hne5 : ∀ g, (Value.slice a5 zs.length k5).ownBlock = some g → (Value.slice a4 xs.length k4).ownBlock ≠ some g := fun g h1 h2 => by have := hl5.out g h1; have := hl4.out g h2; omega
    have hnx := u8_ne O48 x8 (by decide)
    have hny := u8_ne O48 y8 (by decide)
    have hnu := u8_ne O48 u8 (by decide)
    have ix := (Array.getElem?_eq_some_iff.1 x8).1
    have iy := (Array.getElem?_eq_some_iff.1 y8).1
    have iu := (Array.getElem?_eq_some_iff.1 u8).1
    replace h68 := Kp.mk h68
    clear e1 e2 e3 e4 e5 hb77 hb78 hb7 hb8 r0 r1 O7 q40 q41 q00 q01 G6 G7 ZK hBD x6 y6 z6 u6 O36 O46 O56 B6
    go_wp2_with (go_at_call 18; refine G8.out.mono ?_; rintro e w9 ⟨rfl, ms9, -, -, -, bel9, sz9, ap9⟩; replace sz9 := Kp.mk sz9; replace ap9 := Kp.mk ap9; have x9 := (ap9.out _ ix (fun e => hnx e.symm)).trans x8; have y9 := (ap9.out _ iy (fun e => hny e.symm)).trans y8; have u9 := (ap9.out _ iu (fun e => hnu e.symm)).trans u8; have O39 := O38.apart2 ap9.out hne3; have O59 := O58.apart2 ap9.out hne5; have G9 := Kp.mk (C7.out w9 _ _ _ _ (O59.bytes hn3) (O39.bytes hn3)); have p50 : w9.cell? ⟨s5, 0, none⟩ = some (.slice a5 zs.length k5) := at_cells u9 rfl; have p51 : w9.cell? ⟨s5, 1, none⟩ = some (.int .i64 q) := at_cells u9 rfl; have p30 : w9.cell? ⟨s3, 0, none⟩ = some (.slice a3 zs.length k3) := at_cells y9 rfl; have p31 : w9.cell? ⟨s3, 1, none⟩ = some (.int .i64 q) := at_cells y9 rfl)
    have B9 := B8.trans (bel9.mono hWV.out)
    clear G8 p0 p1 hnx hny hnu ix iy iu ap9 bel9 O38 O48 O58 x8 y8 z8 u8 B8 hne3 hne5
    go_wp2_with (go_at_call 17; refine G9.out.mono ?_; rintro e w10 ⟨rfl, hb10⟩; have B10 := bel_trans B9 hb10; have x10 := keep_cells x9 hb10; have y10 := keep_cells y9 hb10; have u10 := keep_cells u9 hb10; have O310 := O39.keep hb10; have O510 := O59.keep hb10; have sz10 := Kp.mk hb10.size; have p50 : w10.cell? ⟨s5, 0, none⟩ = some (.slice a5 zs.length k5) := at_cells u10 rfl; have p51 : w10.cell? ⟨s5, 1, none⟩ = some (.int .i64 q) := at_cells u10 rfl)
    have G10 := Kp.mk (C8.out w10 _ _ O510 (by have := hV3s.out; have := hV34.out; have := hV4s.out; have := hV5s.out; have := hV6s.out; have := sz9.out; have := sz10.out; have := hs3.out; have := h68.out; omega))
    have hne3 : ∀ g, (Value.slice a3 zs.length k3).ownBlock = some g → (Value.slice a5 zs.length k5).ownBlock ≠ some g := fun g h1 h2 => by have := hl3.out g h1; have := hl5.out g h2; have := hV34.out; omega
    have hnx := u8_ne O510 x10 (by decide)
    have hny := u8_ne O510 y10 (by decide)
    have hnu := u8_ne O510 u10 (by decide)
    have ix := (Array.getElem?_eq_some_iff.1 x10).1
    have iy := (Array.getElem?_eq_some_iff.1 y10).1
    have iu := (Array.getElem?_eq_some_iff.1 u10).1
    have hpos : decide ((1 : Int) + zs.length < 0) = false := by simp; omega
    refine G10.out.mono ?_
    rintro e w11 ⟨rfl, ms, hml, OM, hmm, bel11, sz11, ap11⟩
    have x11 := (ap11 _ ix (fun e => hnx e.symm)).trans x10
    have y11 := (ap11 _ iy (fun e => hny e.symm)).trans y10
    have u11 := (ap11 _ iu (fun e => hnu e.symm)).trans u10
    have O311 := O310.apart2 ap11 hne3
    have B11 := B10.trans (bel11.mono (Nat.le_trans hWV.out hV34.out))
    have OMb := OM.bytes (by omega)
    have G11 := Kp.mk (C9.out w11 _ _ ms hml OMb hmm)
    have r50 : w11.cell? ⟨s5, 0, none⟩ = some (.slice a5 zs.length k5) := at_cells u11 rfl
    have r51 : w11.cell? ⟨s5, 1, none⟩ = some (.int .i64 q) := at_cells u11 rfl
    clear G9 G10 p50 p51 hnx hny hnu ix iy iu ap11 bel11 O310 O510 x10 y10 u10 B10 B9 hne3 sz11 OM x9 y9 u9 O39 O59 hb10
    replace hml := Kp.mk hml
    replace hmm := Kp.mk hmm
    go_wp2_with (go_at_call 19; refine G11.out.mono ?_; rintro e w12 ⟨rfl, hb12⟩; have B12 := bel_trans B11 hb12; have x12 := keep_cells x11 hb12; have y12 := keep_cells y11 hb12; have u12 := keep_cells u11 hb12; have O312 := O311.keep hb12; have OM12 := OMb.keep hb12; have r00 : w12.cell? ⟨W.heap.size, 0, none⟩ = some (.slice a xs.length cap) := at_cells x12 rfl; have r01 : w12.cell? ⟨W.heap.size, 1, none⟩ = some (.int .i64 c) := at_cells x12 rfl; have G12 := Kp.mk (C2.out w12 (H.out.keep B12)))
    clear G11 r50 r51 O311 OMb x11 y11 u11 B11 hb12
    refine G12.out.mono ?_
    rintro e w13 ⟨v13, rfl, O13, hb13⟩
    obtain ⟨a13, k13, rfl⟩ := O13.form
    have B13 := bel_trans B12 hb13
    have y13 := keep_cells y12 hb13
    have u13 := keep_cells u12 hb13
    have O313 := O312.keep hb13
    have OM13 := OM12.keep hb13
    have G13 := Kp.mk (C4.out w13 _ _ (O13.bytes hn4))
    clear G12 r00 r01 O312 OM12 x12 y12 u12 B12 hb13
    go_wp2_with fail
    refine G13.out.mono ?_
    rintro e w14 ⟨v14, rfl, O14, hb14⟩
    obtain ⟨a14, k14, rfl⟩ := O14.form
    have B14 := bel_trans B13 hb14
    have y14 := keep_cells y13 hb14
    have u14 := keep_cells u13 hb14
    have O314 := O313.keep hb14
    have OM14 := OM13.keep hb14
    obtain ⟨s14, hs14⟩ : ∃ s, s = w14.heap.size := ⟨_, rfl⟩
    have t14 := new_cells w14 (Go.Obj.cells #[.slice a14 zs.length k14, .int .i64 q] 24 (0, 0))
    have bb14 := bel_alloc w14 (Go.Obj.cells #[.slice a14 zs.length k14, .int .i64 q] 24 (0, 0))
    have O14' := O14.keep bb14
    have O314' := O314.keep bb14
    have OM14' := OM14.keep bb14
    have y14' := keep_cells y14 bb14
    have u14' := keep_cells u14 bb14
    have B14' := bel_trans B14 bb14
    obtain ⟨V14, hV14⟩ : ∃ V, V = w14.alloc (Go.Obj.cells #[.slice a14 zs.length k14, .int .i64 q] 24 (0, 0)) := ⟨_, rfl⟩
    rw [← hs14] at t14
    rw [← hV14] at t14 O14' O314' OM14' y14' u14' B14'
    have G14 := Kp.mk (C7.out V14 _ _ _ _ (O14'.bytes hn3) (O314'.bytes hn3))
    have r40 : V14.cell? ⟨s14, 0, none⟩ = some (.slice a14 zs.length k14) := at_cells t14 rfl
    have r41 : V14.cell? ⟨s14, 1, none⟩ = some (.int .i64 q) := at_cells t14 rfl
    have r30 : V14.cell? ⟨s3, 0, none⟩ = some (.slice a3 zs.length k3) := at_cells y14' rfl
    have r31 : V14.cell? ⟨s3, 1, none⟩ = some (.int .i64 q) := at_cells y14' rfl
    clear G13 O313 OM13 O13 y13 u13 B13 hb14 O14 O314 OM14 y14 u14 B14 bb14
    go_upto_region 25 with fail
    rw [← hV14, ← hs14]
    clear hV14 hs14
    go_wp2_with (go_at_call 17; refine G14.out.mono ?_; rintro e w15 ⟨rfl, hb15⟩; have B15 := bel_trans B14' hb15; have u15 := keep_cells u14' hb15; have OM15 := OM14'.keep hb15; have r50 : w15.cell? ⟨s5, 0, none⟩ = some (.slice a5 zs.length k5) := at_cells u15 rfl; have r51 : w15.cell? ⟨s5, 1, none⟩ = some (.int .i64 q) := at_cells u15 rfl; have G15 := Kp.mk (C9.out w15 _ _ ms hml.out OM15 hmm.out))
    clear G14 r40 r41 r30 r31 O14' O314' OM14' y14' u14' B14' hb15
    refine G15.out.mono ?_
    rintro e w16 ⟨rfl, hb16⟩
    have B16 := bel_trans B15 hb16
    clear G15 OM15 u15 B15 hb16
    go_wp2_with fail
    go_ret
    exact ⟨rfl, B16⟩
end Go.Proofs.Ytfagafglloopbaa
