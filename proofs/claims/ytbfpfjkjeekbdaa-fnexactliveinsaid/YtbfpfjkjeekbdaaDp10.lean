/- Contracts of the laws' helpers that compare instructions, where both sides hold the same. -/
import Derived.Test.YtbfpfjkjeekbdaaDp9
namespace Go.Proofs.Ytbfpfjkjeekbdaa
open Go.ChangeShapes Go.WideShapes Go.ChangeAt Go.RowKit
open Go.Sort (grow)
set_option linter.unusedVariables false
set_option linter.unusedSimpArgs false
/-- Two objects of a call's own. -/
theorem two (w : World) (X Y : Array Value) (tx ty : TypeId) {W : World} (h : W = (w.alloc (Obj.cells X tx)).alloc (Obj.cells Y ty)) :
    Below w.heap.size w W ∧ (∀ j v, X[j]? = some v → At W w.heap.size j v) ∧ (∀ j v, Y[j]? = some v → At W (w.heap.size + 1) j v) := by
  have s1 : (w.alloc (Obj.cells X tx)).heap.size = w.heap.size + 1 := World.size_alloc ..
  subst h
  refine ⟨bel_trans (bel_alloc _ _) (bel_alloc _ _), fun j v e => at_keep (al_at _ _ _ e) (bel_alloc _ _), fun j v e => ?_⟩
  have := al_at (w.alloc (Obj.cells X tx)) Y ty e
  rw [s1] at this
  exact this
set_option maxRecDepth 100000 in
set_option maxHeartbeats 2000000 in
theorem eqIn (d : InD) (va vb vw ua ub uw : Value) (w : World) {lo l2 : Nat} (h : InV lo w va vb vw d) (k : InV l2 w ua ub uw d) (hn : inN d ≤ 1048576) :
    Calls Try.prog 101 #[inV d va vb vw, inV d ua ub uw] w fun e w' => e = .returned (.bool true) ∧ Below w.heap.size w w' := by
  unfold inN at hn
  obtain ⟨a1, k1, a2, k2, a3, k3, rfl, rfl, rfl⟩ := h.shape
  obtain ⟨b1, l1, b2, l2, b3, l3, rfl, rfl, rfl⟩ := k.shape
  obtain ⟨op, ty, fl, pr, ca, sz, args, bl, ws⟩ := d
  dsimp only [inV] at *
  have n1 : args.length ≤ 1048576 := by omega
  have n2 : bl.length ≤ 1048576 := by omega
  have n3 : ws.length ≤ 1048576 := by omega
  have H := Kp.mk h
  have K := Kp.mk k
  clear h k hn
  go_enter Try.func101, Try.ntmps101
  go_wp2_with fail
  obtain ⟨W0, hW⟩ : ∃ W0 : World, W0 = ((w.alloc (Obj.cells #[.int .i64 op, .int .i64 ty, .int .i64 fl, .int .i64 pr, .int .i64 ca, .int .i64 sz, .slice a1 args.length k1, .slice a2 bl.length k2, .slice a3 ws.length k3] 112)).alloc (Obj.cells #[.int .i64 op, .int .i64 ty, .int .i64 fl, .int .i64 pr, .int .i64 ca, .int .i64 sz, .slice b1 args.length l1, .slice b2 bl.length l2, .slice b3 ws.length l3] 112)) := ⟨_, rfl⟩
  rw [← hW]
  obtain ⟨B0, hx, hy⟩ := two w _ _ _ _ hW
  have x7 := hx 7 _ rfl
  have x8 := hx 8 _ rfl
  have y7 := hy 7 _ rfl
  have y8 := hy 8 _ rfl
  clear hW hx hy
  refine (eqOps _ _ args W0 (H.out.a.keep B0) (K.out.a.keep B0) n1).mono ?_
  rintro e w1 ⟨rfl, hb1⟩
  have x7 := at_keep x7 hb1
  have x8 := at_keep x8 hb1
  have y7 := at_keep y7 hb1
  have y8 := at_keep y8 hb1
  have B1 := bel_trans B0 hb1
  clear hb1 B0
  go_wp2_with fail
  refine (eqInts _ _ bl w1 (H.out.b.keep B1) (K.out.b.keep B1) n2).mono ?_
  rintro e w2 ⟨rfl, hb1⟩
  have x8 := at_keep x8 hb1
  have y8 := at_keep y8 hb1
  have B2 := bel_trans B1 hb1
  clear hb1 B1 x7 y7
  go_wp2_with fail
  refine (eqWords _ _ ws w2 (H.out.c.keep B2) (K.out.c.keep B2) n3).mono ?_
  rintro e w3 ⟨rfl, hb1⟩
  have B3 := bel_trans B2 hb1
  clear hb1 B2 x8 y8
  go_wp2_with fail
  go_ret
  exact ⟨rfl, B3⟩
set_option maxRecDepth 100000 in
set_option maxHeartbeats 2000000 in
theorem eqInss (v u : Value) (xs : List InD) (w : World) {lo l2 : Nat} (h : Ins lo w v xs) (k : Ins l2 w u xs) (hn : blN xs ≤ 1048576) :
    Calls Try.prog 76 #[v, u] w fun e w' => e = .returned (.bool true) ∧ Below w.heap.size w w' := by
  obtain ⟨b, o, ⟨⟨a, cap, rfl, h1, h2⟩, h3⟩, -, hc⟩ := h.ex
  obtain ⟨b', o', ⟨⟨a', cap', rfl, h1', h2'⟩, h3'⟩, -, hc'⟩ := k.ex
  unfold blN at hn
  have Hn := insN_of xs
  have hnn := Hn.2
  have hN : Kp (∀ i (h : i < xs.length), inN xs[i] ≤ 1048576) := ⟨fun i h => by have := Hn.1 i h; omega⟩
  have g1 : (xs.length : Int) ≤ 1048576 := by omega
  have HC : Kp (∀ i (h : i < xs.length), (∃ va vb vw, InAt lo w b (o + i * 9) xs[i] va vb vw) ∧ ∃ va vb vw, InAt l2 w b' (o' + i * 9) xs[i] va vb vw) := ⟨fun i h => ⟨hc i h, hc' i h⟩⟩
  have H2 : Kp (0 < xs.length → a = some ⟨b, o, none⟩ ∧ a' = some ⟨b', o', none⟩) := ⟨fun q => ⟨h2 q, h2' q⟩⟩
  clear hc hc' h k h2 h2' Hn hnn hn
  go_enter Try.func76, Try.ntmps76
  go_wp2_with fail
  go_loopw [5] (fun s wr => ∃ i : Nat, i ≤ xs.length ∧ s = .int .i64 i ∧ Below w.heap.size w wr) (fun s _ => xs.length - (intOf s).toNat)
  case atStart => exact ⟨0, Nat.zero_le _, rfl, Below.refl _ _⟩
  case round =>
    obtain ⟨i, hi, rfl, hB⟩ := hrel
    by_cases hlt : i < xs.length
    · obtain ⟨rfl, rfl⟩ := H2.out (by omega)
      obtain ⟨⟨va, vb, vw, hq⟩, ⟨ua, ub, uw, hr⟩⟩ := HC.out i hlt
      have nd := hN.out i hlt
      obtain ⟨c0, c1, c2, c3, c4, c5, c6, c7, c8, hv⟩ := hq.keep hB
      obtain ⟨d0, d1, d2, d3, d4, d5, d6, d7, d8, hu⟩ := hr.keep hB
      clear hq hr
      obtain ⟨d, hd⟩ : ∃ d, Kp (xs[i] = d) := ⟨_, ⟨rfl⟩⟩
      rw [hd.out] at c0 c1 c2 c3 c4 c5 hv nd d0 d1 d2 d3 d4 d5 hu
      obtain ⟨a1, k1, a2, k2, a3, k3, rfl, rfl, rfl⟩ := hv.shape
      obtain ⟨b1, l1, b2, l2, b3, l3, rfl, rfl, rfl⟩ := hu.shape
      have C := Kp.mk (fun dq osq => Calls.regrown_of (eqIn d _ _ _ _ _ _ (grow (redrawn wr dq) osq) (hv.keep (below_regrown wr dq osq)) (hu.keep (below_regrown wr dq osq)) nd))
      clear hv hu nd
      go_upto_region 6 with fail
      replace c0 := cell_regrown c0
      replace c1 := cell_regrown c1
      replace c2 := cell_regrown c2
      replace c3 := cell_regrown c3
      replace c4 := cell_regrown c4
      replace c5 := cell_regrown c5
      replace c6 := cell_regrown c6
      replace c7 := cell_regrown c7
      replace c8 := cell_regrown c8
      replace d0 := cell_regrown d0
      replace d1 := cell_regrown d1
      replace d2 := cell_regrown d2
      replace d3 := cell_regrown d3
      replace d4 := cell_regrown d4
      replace d5 := cell_regrown d5
      replace d6 := cell_regrown d6
      replace d7 := cell_regrown d7
      replace d8 := cell_regrown d8
      refine wp_region_quiet_below (by kernel_rfl) (by kernel_rfl) ?_
      repeat (quiet_step (fail))
      quiet_step (exact C.out _ _)
      repeat (quiet_step (fail))
      refine wpQuiet_nil ?_
      intro _ hw'
      obtain ⟨⟨dq, osq⟩, hw''⟩ := hw'
      subst hw''
      have hB2 := bel_trans hB (below_regrown wr dq osq)
      clear c0 c1 c2 c3 c4 c5 c6 c7 c8 d0 d1 d2 d3 d4 d5 d6 d7 d8 C
      generalize grow (redrawn wr dq) osq = V at *
      go_wp2_with fail
      exact ⟨⟨i + 1, by omega, by go_num, hB2⟩, by simp [intOf]; omega⟩
    · go_wp2_with fail
      go_ret
      exact ⟨rfl, hB⟩
end Go.Proofs.Ytbfpfjkjeekbdaa
