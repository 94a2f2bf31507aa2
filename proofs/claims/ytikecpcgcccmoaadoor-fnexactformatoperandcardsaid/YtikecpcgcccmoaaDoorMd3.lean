/- Contracts of the laws' helpers that compare, count and copy a module. -/
import Derived.Test.YtikecpcgcccmoaaDoorDp11
import Derived.Test.YtikecpcgcccmoaaDoorMd2
namespace Go.Proofs.YtikecpcgcccmoaaDoor
open Go.ChangeShapes Go.WideShapes Go.ChangeAt Go.RowKit
open Go.Sort (grow)
set_option linter.unusedVariables false
set_option linter.unusedSimpArgs false
theorem Gls.mono {lo l2 : Nat} {w w' : World} {v : Value} {xs : List GlD} (h : Gls lo w v xs) (hl : l2 ≤ lo) (hk : Keeps lo w w') : Gls l2 w' v xs := by
  obtain ⟨b, o, s, l, c⟩ := h.ex
  refine ⟨b, o, s, by omega, fun i hi => ?_⟩
  obtain ⟨vb, q⟩ := c i hi
  have q' := q.mono l (Nat.le_refl _) hk
  exact ⟨vb, q'.n, q'.c0, q'.c1, q'.c2, q'.c3, q'.c4, q'.y.mono hl (fun _ _ _ _ h => h)⟩
theorem Fns.mono {lo l2 : Nat} {w w' : World} {v : Value} {xs : List FnD} (h : Fns lo w v xs) (hl : l2 ≤ lo) (hk : Keeps lo w w') : Fns l2 w' v xs := by
  obtain ⟨b, o, s, l, c⟩ := h.ex
  refine ⟨b, o, s, by omega, fun i hi => ?_⟩
  obtain ⟨vp, vb, q⟩ := c i hi
  have q' := q.mono l (Nat.le_refl _) hk
  exact ⟨vp, vb, q'.c0, q'.c1, q'.c2, q'.c3, q'.c4, q'.f.mono hl (fun _ _ _ _ h => h)⟩
set_option maxRecDepth 100000 in
set_option maxHeartbeats 2000000 in
theorem eqBytes (v u : Value) (xs : List Int) (w : World) {lo l2 : Nat} (h : Ints lo .u8 w v xs) (k : Ints l2 .u8 w u xs) (hn : xs.length ≤ 1048576) :
    Calls Tryd.prog 49 #[v, u] w fun e w' => e = .returned (.bool true) ∧ Below w.heap.size w w' := by
  obtain ⟨b, o, ⟨⟨a, cap, rfl, h1, h2⟩, h3⟩, -, hc⟩ := h.ex
  obtain ⟨b', o', ⟨⟨a', cap', rfl, h1', h2'⟩, h3'⟩, -, hc'⟩ := k.ex
  have g1 : (xs.length : Int) ≤ 1048576 := by omega
  have HC : Kp (∀ i (h : i < xs.length), At w b (o + i) (.int .u8 xs[i]) ∧ At w b' (o' + i) (.int .u8 xs[i])) := ⟨fun i h => ⟨hc i h, hc' i h⟩⟩
  have H2 : Kp (0 < xs.length → a = some ⟨b, o, none⟩ ∧ a' = some ⟨b', o', none⟩) := ⟨fun q => ⟨h2 q, h2' q⟩⟩
  clear hc hc' h k h2 h2'
  go_enter Tryd.func49, Tryd.ntmps49
  go_wp2_with fail
  go_loopw [5] (fun s wr => ∃ i : Nat, i ≤ xs.length ∧ s = .int .i64 i ∧ Below w.heap.size w wr) (fun s _ => xs.length - (intOf s).toNat)
  case atStart => exact ⟨0, Nat.zero_le _, rfl, Below.refl _ _⟩
  case round =>
    obtain ⟨i, hi, rfl, hB⟩ := hrel
    by_cases hlt : i < xs.length
    · obtain ⟨rfl, rfl⟩ := H2.out (by omega)
      have c1 := at_keep (HC.out i hlt).1 hB
      have c2 := at_keep (HC.out i hlt).2 hB
      generalize xs[i] = x at c1 c2
      go_upto_region 6 with fail
      have k1 := cell_regrown c1
      have k2 := cell_regrown c2
      refine wp_region_quiet_below (by kernel_rfl) (by kernel_rfl) ?_
      repeat (quiet_step (fail))
      refine wpQuiet_nil ?_
      intro _ hw'
      obtain ⟨⟨dq, osq⟩, hw''⟩ := hw'
      subst hw''
      have hB2 := bel_trans hB (below_regrown wr dq osq)
      clear k1 k2 c1 c2
      generalize grow (redrawn wr dq) osq = V at *
      go_wp2_with fail
      exact ⟨⟨i + 1, by omega, by go_num, hB2⟩, by simp [intOf]; omega⟩
    · go_wp2_with fail
      go_ret
      exact ⟨rfl, hB⟩
set_option maxRecDepth 100000 in
set_option maxHeartbeats 2000000 in
theorem eqGl (d : GlD) (vb ub : Value) (w : World) {lo l2 : Nat} (h : Ints lo .u8 w vb d.bytes) (k : Ints l2 .u8 w ub d.bytes) (hn : glN d ≤ 1048576) :
    Calls Tryd.prog 33 #[glV d vb, glV d ub] w fun e w' => e = .returned (.bool true) ∧ Below w.heap.size w w' := by
  unfold glN at hn
  obtain ⟨name, link, fx, size, bytes⟩ := d
  dsimp only [glV] at *
  have n1 : bytes.length ≤ 1048576 := by omega
  obtain ⟨a1, k1, rfl⟩ := h.shape
  obtain ⟨b1, l1, rfl⟩ := k.shape
  replace h := Kp.mk h
  replace k := Kp.mk k
  clear hn
  go_enter Tryd.func33, Tryd.ntmps33
  go_wp2_with fail
  obtain ⟨W0, hW⟩ : ∃ W0 : World, W0 = ((w.alloc (Obj.cells #[.string name, .int .i64 link, .bool fx, .int .i64 size, .slice a1 bytes.length k1] 46)).alloc (Obj.cells #[.string name, .int .i64 link, .bool fx, .int .i64 size, .slice b1 bytes.length l1] 46)) := ⟨_, rfl⟩
  rw [← hW]
  obtain ⟨B0, -, -⟩ := two w _ _ _ _ hW
  clear hW
  refine (eqBytes _ _ bytes W0 (h.out.keep B0) (k.out.keep B0) n1).mono ?_
  rintro e w1 ⟨rfl, hb1⟩
  have B1 := bel_trans B0 hb1
  go_wp2_with fail
  go_ret
  exact ⟨rfl, B1⟩
set_option maxRecDepth 100000 in
set_option maxHeartbeats 2000000 in
theorem eqGls (v u : Value) (xs : List GlD) (w : World) {lo l2 : Nat} (h : Gls lo w v xs) (k : Gls l2 w u xs) (hn : xs.length + glsN xs ≤ 1048576) :
    Calls Tryd.prog 19 #[v, u] w fun e w' => e = .returned (.bool true) ∧ Below w.heap.size w w' := by
  obtain ⟨b, o, ⟨⟨a, cap, rfl, h1, h2⟩, h3⟩, -, hc⟩ := h.ex
  obtain ⟨b', o', ⟨⟨a', cap', rfl, h1', h2'⟩, h3'⟩, -, hc'⟩ := k.ex
  have Hn := glsN_of xs
  have hnn := Hn.2
  have hN : Kp (∀ i (h : i < xs.length), glN xs[i] ≤ 1048576) := ⟨fun i h => by have := Hn.1 i h; omega⟩
  have g1 : (xs.length : Int) ≤ 1048576 := by omega
  have HC : Kp (∀ i (h : i < xs.length), (∃ vb, GlAt lo w b (o + i * 5) xs[i] vb) ∧ ∃ vb, GlAt l2 w b' (o' + i * 5) xs[i] vb) := ⟨fun i h => ⟨hc i h, hc' i h⟩⟩
  have H2 : Kp (0 < xs.length → a = some ⟨b, o, none⟩ ∧ a' = some ⟨b', o', none⟩) := ⟨fun q => ⟨h2 q, h2' q⟩⟩
  clear hc hc' h k h2 h2' Hn hnn hn
  go_enter Tryd.func19, Tryd.ntmps19
  go_wp2_with fail
  go_loopw [5] (fun s wr => ∃ i : Nat, i ≤ xs.length ∧ s = .int .i64 i ∧ Below w.heap.size w wr) (fun s _ => xs.length - (intOf s).toNat)
  case atStart => exact ⟨0, Nat.zero_le _, rfl, Below.refl _ _⟩
  case round =>
    obtain ⟨i, hi, rfl, hB⟩ := hrel
    by_cases hlt : i < xs.length
    · obtain ⟨rfl, rfl⟩ := H2.out (by omega)
      obtain ⟨⟨vb, hq⟩, ⟨ub, hr⟩⟩ := HC.out i hlt
      have nd := hN.out i hlt
      obtain ⟨-, c0, c1, c2, c3, c4, hv⟩ := hq.keep hB
      obtain ⟨-, d0, d1, d2, d3, d4, hu⟩ := hr.keep hB
      clear hq hr
      obtain ⟨d, hd⟩ : ∃ d, xs[i] = d := ⟨_, rfl⟩
      rw [hd] at hv nd hu c0 c1 c3 d0 d1 d3 c2 d2
      clear hd
      obtain ⟨a1, k1, rfl⟩ := hv.shape
      obtain ⟨b1, l1, rfl⟩ := hu.shape
      have C := Kp.mk (fun dq osq => Calls.regrown_of (eqGl d _ _ (grow (redrawn wr dq) osq) (hv.keep (below_regrown wr dq osq)) (hu.keep (below_regrown wr dq osq)) nd))
      clear hv hu nd
      go_upto_region 6 with fail
      replace c0 := cell_regrown c0
      replace c1 := cell_regrown c1
      replace c2 := cell_regrown c2
      replace c3 := cell_regrown c3
      replace c4 := cell_regrown c4
      replace d0 := cell_regrown d0
      replace d1 := cell_regrown d1
      replace d2 := cell_regrown d2
      replace d3 := cell_regrown d3
      replace d4 := cell_regrown d4
      refine wp_region_quiet_below (by kernel_rfl) (by kernel_rfl) ?_
      repeat (quiet_step (fail))
      quiet_step (exact C.out _ _)
      repeat (quiet_step (fail))
      refine wpQuiet_nil ?_
      intro _ hw'
      obtain ⟨⟨dq, osq⟩, hw''⟩ := hw'
      subst hw''
      have hB2 := bel_trans hB (below_regrown wr dq osq)
      clear c0 c1 c2 c3 c4 d0 d1 d2 d3 d4 C
      generalize grow (redrawn wr dq) osq = V at *
      go_wp2_with fail
      exact ⟨⟨i + 1, by omega, by go_num, hB2⟩, by simp [intOf]; omega⟩
    · go_wp2_with fail
      go_ret
      exact ⟨rfl, hB⟩
set_option maxRecDepth 100000 in
set_option maxHeartbeats 2000000 in
theorem eqFns (v u : Value) (xs : List FnD) (w : World) {lo l2 : Nat} (h : Fns lo w v xs) (k : Fns l2 w u xs) (hn : xs.length + fnsN xs ≤ 1048576) :
    Calls Tryd.prog 20 #[v, u] w fun e w' => e = .returned (.bool true) ∧ Below w.heap.size w w' := by
  obtain ⟨b, o, ⟨⟨a, cap, rfl, h1, h2⟩, h3⟩, -, hc⟩ := h.ex
  obtain ⟨b', o', ⟨⟨a', cap', rfl, h1', h2'⟩, h3'⟩, -, hc'⟩ := k.ex
  have Hn := fnsN_of xs
  have hnn := Hn.2
  have hN : Kp (∀ i (h : i < xs.length), fnN xs[i] ≤ 1048576) := ⟨fun i h => by have := Hn.1 i h; omega⟩
  have g1 : (xs.length : Int) ≤ 1048576 := by omega
  have HC : Kp (∀ i (h : i < xs.length), (∃ vp vb, FcAt lo w b (o + i * 5) xs[i] vp vb) ∧ ∃ vp vb, FcAt l2 w b' (o' + i * 5) xs[i] vp vb) := ⟨fun i h => ⟨hc i h, hc' i h⟩⟩
  have H2 : Kp (0 < xs.length → a = some ⟨b, o, none⟩ ∧ a' = some ⟨b', o', none⟩) := ⟨fun q => ⟨h2 q, h2' q⟩⟩
  clear hc hc' h k h2 h2' Hn hnn hn
  go_enter Tryd.func20, Tryd.ntmps20
  go_wp2_with fail
  go_loopw [5] (fun s wr => ∃ i : Nat, i ≤ xs.length ∧ s = .int .i64 i ∧ Below w.heap.size w wr) (fun s _ => xs.length - (intOf s).toNat)
  case atStart => exact ⟨0, Nat.zero_le _, rfl, Below.refl _ _⟩
  case round =>
    obtain ⟨i, hi, rfl, hB⟩ := hrel
    by_cases hlt : i < xs.length
    · obtain ⟨rfl, rfl⟩ := H2.out (by omega)
      obtain ⟨⟨vp, vb, hq⟩, ⟨up, ub, hr⟩⟩ := HC.out i hlt
      have nd := hN.out i hlt
      obtain ⟨c0, c1, c2, c3, c4, hv⟩ := hq.keep hB
      obtain ⟨d0, d1, d2, d3, d4, hu⟩ := hr.keep hB
      clear hq hr
      obtain ⟨d, hd⟩ : ∃ d, xs[i] = d := ⟨_, rfl⟩
      rw [hd] at hv nd hu c0 c1 c3 d0 d1 d3
      clear hd
      obtain ⟨a1, k1, rfl⟩ := hv.p.shape
      obtain ⟨a2, k2, rfl⟩ := hv.b.shape
      obtain ⟨b1, l1, rfl⟩ := hu.p.shape
      obtain ⟨b2, l2, rfl⟩ := hu.b.shape
      have C := Kp.mk (fun dq osq => Calls.regrown_of (eqFn d _ _ _ _ (grow (redrawn wr dq) osq) (hv.keep (below_regrown wr dq osq)) (hu.keep (below_regrown wr dq osq)) nd))
      clear hv hu nd
      go_upto_region 6 with fail
      replace c0 := cell_regrown c0
      replace c1 := cell_regrown c1
      replace c2 := cell_regrown c2
      replace c3 := cell_regrown c3
      replace c4 := cell_regrown c4
      replace d0 := cell_regrown d0
      replace d1 := cell_regrown d1
      replace d2 := cell_regrown d2
      replace d3 := cell_regrown d3
      replace d4 := cell_regrown d4
      refine wp_region_quiet_below (by kernel_rfl) (by kernel_rfl) ?_
      repeat (quiet_step (fail))
      quiet_step (exact C.out _ _)
      repeat (quiet_step (fail))
      refine wpQuiet_nil ?_
      intro _ hw'
      obtain ⟨⟨dq, osq⟩, hw''⟩ := hw'
      subst hw''
      have hB2 := bel_trans hB (below_regrown wr dq osq)
      clear c0 c1 c2 c3 c4 d0 d1 d2 d3 d4 C
      generalize grow (redrawn wr dq) osq = V at *
      go_wp2_with fail
      exact ⟨⟨i + 1, by omega, by go_num, hB2⟩, by simp [intOf]; omega⟩
    · go_wp2_with fail
      go_ret
      exact ⟨rfl, hB⟩
/-- A module as a value. -/
abbrev moV (vg vf : Value) : Value := .agg #[vg, vf]
set_option maxRecDepth 100000 in
set_option maxHeartbeats 2000000 in
theorem eqMo (gs : List GlD) (fs : List FnD) (vg vf ug uf : Value) (w : World) {lo l2 : Nat} (h : MoAt lo w gs fs vg vf) (k : MoAt l2 w gs fs ug uf) (hn : moN gs fs ≤ 1048576) :
    Calls Tryd.prog 9 #[moV vg vf, moV ug uf] w fun e w' => e = .returned (.bool true) ∧ Below w.heap.size w w' := by
  unfold moN at hn
  have g0 := glsN_nn gs
  have f0 := fnsN_nn fs
  have n1 : gs.length + glsN gs ≤ 1048576 := by omega
  have n2 : fs.length + fnsN fs ≤ 1048576 := by omega
  obtain ⟨a1, k1, rfl⟩ := h.g.shape
  obtain ⟨a2, k2, rfl⟩ := h.f.shape
  obtain ⟨b1, l1, rfl⟩ := k.g.shape
  obtain ⟨b2, l2, rfl⟩ := k.f.shape
  replace h := Kp.mk h
  replace k := Kp.mk k
  clear hn g0 f0
  go_enter Tryd.func9, Tryd.ntmps9
  go_wp2_with fail
  obtain ⟨W0, hW⟩ : ∃ W0 : World, W0 = ((w.alloc (Obj.cells #[.slice a1 gs.length k1, .slice a2 fs.length k2] 34)).alloc (Obj.cells #[.slice b1 gs.length l1, .slice b2 fs.length l2] 34)) := ⟨_, rfl⟩
  rw [← hW]
  obtain ⟨B0, hx, hy⟩ := two w _ _ _ _ hW
  have x1 := hx 1 _ rfl
  have y1 := hy 1 _ rfl
  clear hW hx hy
  refine (eqGls _ _ gs W0 (h.out.keep B0).g (k.out.keep B0).g n1).mono ?_
  rintro e w1 ⟨rfl, hb1⟩
  replace x1 := at_keep x1 hb1
  replace y1 := at_keep y1 hb1
  have B1 := bel_trans B0 hb1
  clear hb1 B0
  go_wp2_with fail
  refine (eqFns _ _ fs w1 (h.out.keep B1).f (k.out.keep B1).f n2).mono ?_
  rintro e w2 ⟨rfl, hb1⟩
  have B2 := bel_trans B1 hb1
  clear hb1 B1 x1 y1
  go_wp2_with fail
  go_ret
  exact ⟨rfl, B2⟩
set_option maxRecDepth 100000 in
set_option maxHeartbeats 2000000 in
theorem szMo (gs : List GlD) (fs : List FnD) (vg vf : Value) (l : Int) (w : World) {lo : Nat} (h : MoAt lo w gs fs vg vf) (l0 : 0 ≤ l) (l1 : l ≤ 1048576) :
    Calls Tryd.prog 4 #[moV vg vf, .int .i64 l] w fun e w' => e = .returned (.int .i64 (less l (moN gs fs))) ∧ Below w.heap.size w w' := by
  have z1 : (0 : Int) ≤ gs.length + glsN gs := by have := glsN_nn gs; omega
  have z2 : (0 : Int) ≤ fs.length + fnsN fs := by have := fnsN_nn fs; omega
  have d1 := less_bd z1 l0
  have C1 : Kp (∀ w, MoAt lo w gs fs vg vf → Calls Tryd.prog 10 #[vg, .int .i64 l] w fun e w' => e = .returned (.int .i64 (less l (gs.length + glsN gs))) ∧ Below w.heap.size w w') := ⟨fun w h => szGls vg gs l w h.g l0 l1⟩
  have H := Kp.mk h
  obtain ⟨a1, k1, rfl⟩ := h.g.shape
  obtain ⟨a2, k2, rfl⟩ := h.f.shape
  clear h
  by_cases q1 : less l (gs.length + glsN gs) < 0
  · have e : Kp (less l (moN gs fs) = -1) := ⟨less_neg z1 z2 q1 l0⟩
    generalize less l (gs.length + glsN gs) = r1 at *
    go_enter Tryd.func4, Tryd.ntmps4
    go_wp2_with fail
    refine (C1.out _ (H.out.keep (bel_alloc _ _))).mono ?_
    rintro e w1 ⟨rfl, hb1⟩
    go_wp2_with fail
    go_ret
    exact ⟨by rw [e.out]; rfl, bel_trans (bel_alloc _ _) hb1⟩
  · have k1' : 0 ≤ less l (gs.length + glsN gs) := by omega
    have L2 := less_less (l := l) z1 z2 k1'
    have C2 : Kp (∀ w, MoAt lo w gs fs (.slice a1 gs.length k1) (.slice a2 fs.length k2) → Calls Tryd.prog 11 #[.slice a2 fs.length k2, .int .i64 (less l (gs.length + glsN gs))] w fun e w' => e = .returned (.int .i64 (less l (moN gs fs))) ∧ Below w.heap.size w w') := ⟨fun w h => by
      have q := szFns _ fs (less l (gs.length + glsN gs)) w h.f k1' (by omega)
      rw [L2] at q
      exact q⟩
    have d2 := less_bd (a := moN gs fs) (by unfold moN; omega) l0
    clear L2
    generalize less l (moN gs fs) = r2 at *
    generalize less l (gs.length + glsN gs) = r1 at *
    have run : ∀ (Q : Prop), Q → Q := fun _ q => q
    by_cases q2 : r2 < 0
    · obtain rfl : r2 = -1 := by omega
      go_enter Tryd.func4, Tryd.ntmps4
      go_wp2_with fail
      refine (C1.out _ (H.out.keep (bel_alloc _ _))).mono ?_
      rintro e w1 ⟨rfl, hb1⟩
      have x1 : At w1 w.heap.size 1 (.slice a2 fs.length k2) := at_keep (al_at w #[.slice a1 gs.length k1, .slice a2 fs.length k2] 25 rfl) hb1
      have B1 := bel_trans (bel_alloc _ _) hb1
      go_wp2_with fail
      refine (C2.out _ (H.out.keep B1)).mono ?_
      rintro e w2 ⟨rfl, hb2⟩
      go_wp2_with fail
      go_ret
      exact ⟨rfl, bel_trans B1 hb2⟩
    · go_enter Tryd.func4, Tryd.ntmps4
      go_wp2_with fail
      refine (C1.out _ (H.out.keep (bel_alloc _ _))).mono ?_
      rintro e w1 ⟨rfl, hb1⟩
      have x1 : At w1 w.heap.size 1 (.slice a2 fs.length k2) := at_keep (al_at w #[.slice a1 gs.length k1, .slice a2 fs.length k2] 25 rfl) hb1
      have B1 := bel_trans (bel_alloc _ _) hb1
      go_wp2_with fail
      refine (C2.out _ (H.out.keep B1)).mono ?_
      rintro e w2 ⟨rfl, hb2⟩
      go_wp2_with fail
      go_ret
      exact ⟨rfl, bel_trans B1 hb2⟩
set_option maxRecDepth 100000 in
set_option maxHeartbeats 2000000 in
theorem toMo (gs : List GlD) (fs : List FnD) (vg vf : Value) (w : World) {lo : Nat} (h : MoAt lo w gs fs vg vf) (hn : moN gs fs ≤ 1048576) :
    Calls Tryd.prog 6 #[moV vg vf] w fun e w' => ∃ vg' vf', e = .returned (moV vg' vf') ∧ MoAt w.heap.size w' gs fs vg' vf' ∧ Below w.heap.size w w' ∧ Unf w.heap.size w' := by
  unfold moN at hn
  have g0 := glsN_nn gs
  have f0 := fnsN_nn fs
  have n1 : gs.length + glsN gs ≤ 1048576 := by omega
  have n2 : fs.length + fnsN fs ≤ 1048576 := by omega
  obtain ⟨a1, k1, rfl⟩ := h.g.shape
  obtain ⟨a2, k2, rfl⟩ := h.f.shape
  replace h := Kp.mk h
  clear hn g0 f0
  go_enter Tryd.func6, Tryd.ntmps6
  go_wp2_with fail
  obtain ⟨W0, hW⟩ : ∃ W0 : World, W0 = (((w.alloc (Obj.cells #[.slice a1 gs.length k1, .slice a2 fs.length k2] 25)).alloc (Obj.cells #[.slice none 0 0, .slice none 0 0] 34)).alloc (Obj.cells #[.slice none 0 0, .slice none 0 0] 34)) := ⟨_, rfl⟩
  rw [← hW]
  obtain ⟨B0, z0, r1, r2, u0, hx, hz⟩ := three w _ _ _ _ _ _ hW
  have x1 := hx 1 _ rfl
  clear hW hx hz
  refine (toGls _ gs W0 (h.out.keep B0).g n1).mono ?_
  rintro e w1 ⟨v', rfl, hA, hb1, hu1⟩
  rw [z0] at hA
  obtain ⟨a3, k3, rfl⟩ := hA.shape
  have U1 := Kp.mk ((u0.call hb1 hu1).set (w.heap.size + 1 + 1) 0 (.slice a3 gs.length k3))
  clear u0 hu1
  replace r1 : Rw w1 (w.heap.size + 1) 2 := r1.keep hb1
  replace r2 : Rw w1 (w.heap.size + 1 + 1) 2 := r2.keep hb1
  replace x1 := at_keep x1 hb1
  obtain ⟨_, c0, e0⟩ := r2.at (j := 0) (by omega)
  have l2 : w.heap.size ≤ w.heap.size + 1 + 1 := by omega
  have l1 : w.heap.size ≤ w.heap.size + 1 := by omega
  have B1 := Kp.mk (bel_set (k := 0) (bel_trans B0 hb1) l2 (.slice a3 gs.length k3))
  have K1 : Keeps (w.heap.size + 1 + 1 + 1) w1 (w1.setCell ⟨w.heap.size + 1 + 1, 0, none⟩ (.slice a3 gs.length k3)) := keeps_set (by omega)
  have HG := Kp.mk (hA.mono (Nat.le_refl _) K1)
  have R1 := Kp.mk (r1.sets (w.heap.size + 1 + 1) 0 (.slice a3 gs.length k3))
  have R2 := Kp.mk (r2.sets (w.heap.size + 1 + 1) 0 (.slice a3 gs.length k3))
  have O0 := Kp.mk (set_same r2 (k := 0) (by omega) (.slice a3 gs.length k3))
  have X1 := Kp.mk (set_other (x := .slice a3 gs.length k3) (B := w.heap.size + 1 + 1) (k := 0) x1 (.inl (by omega)))
  clear hA r1 r2 z0 B0 hb1 K1
  go_wp2_with fail
  generalize w1.setCell ⟨w.heap.size + 1 + 1, 0, none⟩ (.slice a3 gs.length k3) = W1 at *
  clear x1 c0 e0
  have x1 := X1.out
  have z1 : w.heap.size + 1 + 1 + 1 ≤ W1.heap.size := R2.out.lt
  refine (toFns _ fs W1 (h.out.keep B1.out).f n2).mono ?_
  rintro e w2 ⟨v', rfl, hI, hb2, hu2⟩
  obtain ⟨a4, k4, rfl⟩ := hI.shape
  have U2 := Kp.mk (U1.out.call hb2 hu2)
  have HG2 := Kp.mk (HG.out.keep hb2)
  have HF2 := Kp.mk (hI.mono z1 (fun _ _ _ _ h => h))
  have B2 := Kp.mk (bel_trans B1.out hb2)
  have r1 := R1.out.keep hb2
  have r2 := R2.out.keep hb2
  have o0 : At w2 (w.heap.size + 1 + 1) 0 (.slice a3 gs.length k3) := at_keep O0.out hb2
  obtain ⟨_, c1, e1⟩ := r2.at (j := 1) (by omega)
  obtain ⟨_, d0, g0⟩ := r1.at (j := 0) (by omega)
  obtain ⟨_, d1, g1⟩ := r1.at (j := 1) (by omega)
  clear hI hb2 hu2 U1 HG B1 R1 R2 O0 X1 x1 z1 h
  go_wp2_with fail
  have K2 : Keeps (w.heap.size + 1 + 1 + 1) w2 (((w2.setCell ⟨w.heap.size + 1 + 1, 1, none⟩ (.slice a4 fs.length k4)).setCell ⟨w.heap.size + 1, 0, none⟩ (.slice a3 gs.length k3)).setCell ⟨w.heap.size + 1, 1, none⟩ (.slice a4 fs.length k4)) := ((keeps_set (by omega)).trans (keeps_set (by omega))).trans (keeps_set (by omega))
  refine bodyPost_ret (v := .agg #[.slice a3 gs.length k3, .slice a4 fs.length k4]) ?_ rfl ⟨_, _, rfl, ⟨HG2.out.mono (by omega) K2, HF2.out.mono (by omega) K2⟩, bel_set (bel_set (bel_set B2.out l2 _) l1 _) l1 _, ((U2.out.set _ _ _).set _ _ _).set _ _ _⟩
  clear K2 HG2 HF2 B2 U2 e1 r2
  simp [results, Tryd.results6, go_sem, d0, d1]
end Go.Proofs.YtikecpcgcccmoaaDoor
