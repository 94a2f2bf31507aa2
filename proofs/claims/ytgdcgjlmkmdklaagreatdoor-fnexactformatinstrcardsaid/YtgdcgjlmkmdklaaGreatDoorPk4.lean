/- Texts of one claim. -/
import Derived.Test.YtgdcgjlmkmdklaaGreatDoorPk0
import Derived.Test.YtgdcgjlmkmdklaaGreatDoorPk3
namespace Go.Proofs.YtgdcgjlmkmdklaaGreatDoor
open Go.ChangeShapes Go.WideShapes Go.ChangeAt Go.RowKit
open Go.Sort (grow)
set_option linter.unusedVariables false
set_option linter.unusedSimpArgs false
theorem Gls.mono {lo l2 : Nat} {w w' : World} {v : Value} {xs : List GlD} (h : Gls lo w v xs) (hl : l2 ≤ lo) (hk : Keeps lo w w') : Gls l2 w' v xs := by
 obtain ⟨b, o, s, l, c⟩ := h.ex
 refine ⟨b, o, s, by omega, fun i hi => ?_⟩
 obtain ⟨vb, q⟩ := c i hi
 have q' := q.mono l (Nat.le_refl _) hk
 exact ⟨vb, q'.n, q'.c0, q'.c1, q'.c2, q'.c3, q'.c4, q'.y.mono hl (fun _ _ _ _ h => h)⟩
theorem Fns.mono {lo l2 : Nat} {w w' : World} {v : Value} {xs : List FnD} (h : Fns lo w v xs) (hl : l2 ≤ lo) (hk : Keeps lo w w') : Fns l2 w' v xs := by
 obtain ⟨b, o, s, l, c⟩ := h.ex
 refine ⟨b, o, s, by omega, fun i hi => ?_⟩
 obtain ⟨vp, vb, q⟩ := c i hi
 have q' := q.mono l (Nat.le_refl _) hk
 exact ⟨vp, vb, q'.c0, q'.c1, q'.c2, q'.c3, q'.c4, q'.f.mono hl (fun _ _ _ _ h => h)⟩
set_option maxRecDepth 100000 in
set_option maxHeartbeats 2000000 in
theorem eqBytes (v u : Value) (xs : List Int) (w : World) {lo l2 : Nat} (h : Ints lo .u8 w v xs) (k : Ints l2 .u8 w u xs) (hn : xs.length ≤ 1048576) :
  Calls Tryz.prog 110 #[v, u] w fun e w' => e = .returned (.bool true) ∧ Below w.heap.size w w' := by
 obtain ⟨b, o, ⟨⟨a, cap, rfl, h1, h2⟩, h3⟩, -, hc⟩ := h.ex
 obtain ⟨b', o', ⟨⟨a', cap', rfl, h1', h2'⟩, h3'⟩, -, hc'⟩ := k.ex
 have g1 : (xs.length : Int) ≤ 1048576 := by omega
 have HC : Kp (∀ i (h : i < xs.length), At w b (o + i) (.int .u8 xs[i]) ∧ At w b' (o' + i) (.int .u8 xs[i])) := ⟨fun i h => ⟨hc i h, hc' i h⟩⟩
 have H2 : Kp (0 < xs.length → a = some ⟨b, o, none⟩ ∧ a' = some ⟨b', o', none⟩) := ⟨fun q => ⟨h2 q, h2' q⟩⟩
 clear hc hc' h k h2 h2'
 go_enter Tryz.func110, Tryz.ntmps110
 exact tl13
set_option maxRecDepth 100000 in
set_option maxHeartbeats 2000000 in
theorem eqGl (d : GlD) (vb ub : Value) (w : World) {lo l2 : Nat} (h : Ints lo .u8 w vb d.bytes) (k : Ints l2 .u8 w ub d.bytes) (hn : glN d ≤ 1048576) :
  Calls Tryz.prog 61 #[glV d vb, glV d ub] w fun e w' => e = .returned (.bool true) ∧ Below w.heap.size w w' := by
 unfold glN at hn
 obtain ⟨name, link, fx, size, bytes⟩ := d
 dsimp only [glV] at *
 have n1 : bytes.length ≤ 1048576 := by omega
 obtain ⟨a1, k1, rfl⟩ := h.shape
 obtain ⟨b1, l1, rfl⟩ := k.shape
 replace h := Kp.mk h
 replace k := Kp.mk k
 clear hn
 go_enter Tryz.func61, Tryz.ntmps61
 go_wp2_with fail
 obtain ⟨W0, hW⟩ : ∃ W0 : World, W0 = ((w.alloc (Obj.cells #[.string name, .int .i64 link, .bool fx, .int .i64 size, .slice a1 bytes.length k1] 77)).alloc (Obj.cells #[.string name, .int .i64 link, .bool fx, .int .i64 size, .slice b1 bytes.length l1] 77)) := ⟨_, rfl⟩
 rw [← hW]
 obtain ⟨B0, -, -⟩ := two w _ _ _ _ hW
 clear hW
 refine (eqBytes _ _ bytes W0 (h.out.keep B0) (k.out.keep B0) n1).mono ?_
 rintro e w1 ⟨rfl, hb1⟩
 have B1 := bel_trans B0 hb1
 go_wp2_with fail
 go_ret
 exact ⟨rfl, B1⟩
set_option maxRecDepth 100000 in
set_option maxHeartbeats 2000000 in
theorem eqGls (v u : Value) (xs : List GlD) (w : World) {lo l2 : Nat} (h : Gls lo w v xs) (k : Gls l2 w u xs) (hn : xs.length + glsN xs ≤ 1048576) :
  Calls Tryz.prog 26 #[v, u] w fun e w' => e = .returned (.bool true) ∧ Below w.heap.size w w' := by
 obtain ⟨b, o, ⟨⟨a, cap, rfl, h1, h2⟩, h3⟩, -, hc⟩ := h.ex
 obtain ⟨b', o', ⟨⟨a', cap', rfl, h1', h2'⟩, h3'⟩, -, hc'⟩ := k.ex
 have Hn := glsN_of xs
 have hnn := Hn.2
 have hN : Kp (∀ i (h : i < xs.length), glN xs[i] ≤ 1048576) := ⟨fun i h => by have := Hn.1 i h; omega⟩
 have g1 : (xs.length : Int) ≤ 1048576 := by omega
 have HC : Kp (∀ i (h : i < xs.length), (∃ vb, GlAt lo w b (o + i * 5) xs[i] vb) ∧ ∃ vb, GlAt l2 w b' (o' + i * 5) xs[i] vb) := ⟨fun i h => ⟨hc i h, hc' i h⟩⟩
 have H2 : Kp (0 < xs.length → a = some ⟨b, o, none⟩ ∧ a' = some ⟨b', o', none⟩) := ⟨fun q => ⟨h2 q, h2' q⟩⟩
 clear hc hc' h k h2 h2' Hn hnn hn
 go_enter Tryz.func26, Tryz.ntmps26
 go_wp2_with fail
 go_loopw [5] (fun s wr => ∃ i : Nat, i ≤ xs.length ∧ s = .int .i64 i ∧ Below w.heap.size w wr) (fun s _ => xs.length - (intOf s).toNat)
 case atStart => exact ⟨0, Nat.zero_le _, rfl, Below.refl _ _⟩
 case round =>
  obtain ⟨i, hi, rfl, hB⟩ := hrel
  by_cases hlt : i < xs.length
  ·obtain ⟨rfl, rfl⟩ := H2.out (by omega)
   obtain ⟨⟨vb, hq⟩, ⟨ub, hr⟩⟩ := HC.out i hlt
   have nd := hN.out i hlt
   obtain ⟨-, c0, c1, c2, c3, c4, hv⟩ := hq.keep hB
   obtain ⟨-, d0, d1, d2, d3, d4, hu⟩ := hr.keep hB
   clear hq hr
   obtain ⟨d, hd⟩ : ∃ d, xs[i] = d := ⟨_, rfl⟩
   rw [hd] at hv nd hu c0 c1 c3 d0 d1 d3 c2 d2
   clear hd
   obtain ⟨a1, k1, rfl⟩ := hv.shape
   obtain ⟨b1, l1, rfl⟩ := hu.shape
   have C := Kp.mk (fun dq osq => Calls.regrown_of (eqGl d _ _ (grow (redrawn wr dq) osq) (hv.keep (below_regrown wr dq osq)) (hu.keep (below_regrown wr dq osq)) nd))
   exact tl28
  ·go_wp2_with fail
   go_ret
   exact ⟨rfl, hB⟩
set_option maxRecDepth 100000 in
set_option maxHeartbeats 2000000 in
theorem eqFns (v u : Value) (xs : List FnD) (w : World) {lo l2 : Nat} (h : Fns lo w v xs) (k : Fns l2 w u xs) (hn : xs.length + fnsN xs ≤ 1048576) :
  Calls Tryz.prog 27 #[v, u] w fun e w' => e = .returned (.bool true) ∧ Below w.heap.size w w' := by
 obtain ⟨b, o, ⟨⟨a, cap, rfl, h1, h2⟩, h3⟩, -, hc⟩ := h.ex
 obtain ⟨b', o', ⟨⟨a', cap', rfl, h1', h2'⟩, h3'⟩, -, hc'⟩ := k.ex
 have Hn := fnsN_of xs
 have hnn := Hn.2
 have hN : Kp (∀ i (h : i < xs.length), fnN xs[i] ≤ 1048576) := ⟨fun i h => by have := Hn.1 i h; omega⟩
 have g1 : (xs.length : Int) ≤ 1048576 := by omega
 have HC : Kp (∀ i (h : i < xs.length), (∃ vp vb, FcAt lo w b (o + i * 5) xs[i] vp vb) ∧ ∃ vp vb, FcAt l2 w b' (o' + i * 5) xs[i] vp vb) := ⟨fun i h => ⟨hc i h, hc' i h⟩⟩
 have H2 : Kp (0 < xs.length → a = some ⟨b, o, none⟩ ∧ a' = some ⟨b', o', none⟩) := ⟨fun q => ⟨h2 q, h2' q⟩⟩
 clear hc hc' h k h2 h2' Hn hnn hn
 go_enter Tryz.func27, Tryz.ntmps27
 go_wp2_with fail
 go_loopw [5] (fun s wr => ∃ i : Nat, i ≤ xs.length ∧ s = .int .i64 i ∧ Below w.heap.size w wr) (fun s _ => xs.length - (intOf s).toNat)
 case atStart => exact ⟨0, Nat.zero_le _, rfl, Below.refl _ _⟩
 case round =>
  obtain ⟨i, hi, rfl, hB⟩ := hrel
  by_cases hlt : i < xs.length
  ·obtain ⟨rfl, rfl⟩ := H2.out (by omega)
   obtain ⟨⟨vp, vb, hq⟩, ⟨up, ub, hr⟩⟩ := HC.out i hlt
   have nd := hN.out i hlt
   obtain ⟨c0, c1, c2, c3, c4, hv⟩ := hq.keep hB
   obtain ⟨d0, d1, d2, d3, d4, hu⟩ := hr.keep hB
   clear hq hr
   obtain ⟨d, hd⟩ : ∃ d, xs[i] = d := ⟨_, rfl⟩
   rw [hd] at hv nd hu c0 c1 c3 d0 d1 d3
   clear hd
   obtain ⟨a1, k1, rfl⟩ := hv.p.shape
   obtain ⟨a2, k2, rfl⟩ := hv.b.shape
   obtain ⟨b1, l1, rfl⟩ := hu.p.shape
   obtain ⟨b2, l2, rfl⟩ := hu.b.shape
   have C := Kp.mk (fun dq osq => Calls.regrown_of (eqFn d _ _ _ _ (grow (redrawn wr dq) osq) (hv.keep (below_regrown wr dq osq)) (hu.keep (below_regrown wr dq osq)) nd))
   exact tl28
  ·go_wp2_with fail
   go_ret
   exact ⟨rfl, hB⟩
abbrev moV (vg vf : Value) : Value := .agg #[vg, vf]
set_option maxRecDepth 100000 in
set_option maxHeartbeats 2000000 in
theorem eqMo (gs : List GlD) (fs : List FnD) (vg vf ug uf : Value) (w : World) {lo l2 : Nat} (h : MoAt lo w gs fs vg vf) (k : MoAt l2 w gs fs ug uf) (hn : moN gs fs ≤ 1048576) :
  Calls Tryz.prog 11 #[moV vg vf, moV ug uf] w fun e w' => e = .returned (.bool true) ∧ Below w.heap.size w w' := by
 unfold moN at hn
 have g0 := glsN_nn gs
 have f0 := fnsN_nn fs
 have n1 : gs.length + glsN gs ≤ 1048576 := by omega
 have n2 : fs.length + fnsN fs ≤ 1048576 := by omega
 obtain ⟨a1, k1, rfl⟩ := h.g.shape
 obtain ⟨a2, k2, rfl⟩ := h.f.shape
 obtain ⟨b1, l1, rfl⟩ := k.g.shape
 obtain ⟨b2, l2, rfl⟩ := k.f.shape
 replace h := Kp.mk h
 replace k := Kp.mk k
 clear hn g0 f0
 go_enter Tryz.func11, Tryz.ntmps11
 go_wp2_with fail
 obtain ⟨W0, hW⟩ : ∃ W0 : World, W0 = ((w.alloc (Obj.cells #[.slice a1 gs.length k1, .slice a2 fs.length k2] 33)).alloc (Obj.cells #[.slice b1 gs.length l1, .slice b2 fs.length l2] 33)) := ⟨_, rfl⟩
 rw [← hW]
 obtain ⟨B0, hx, hy⟩ := two w _ _ _ _ hW
 have x1 := hx 1 _ rfl
 have y1 := hy 1 _ rfl
 clear hW hx hy
 refine (eqGls _ _ gs W0 (h.out.keep B0).g (k.out.keep B0).g n1).mono ?_
 rintro e w1 ⟨rfl, hb1⟩
 replace x1 := at_keep x1 hb1
 replace y1 := at_keep y1 hb1
 have B1 := bel_trans B0 hb1
 clear hb1 B0
 go_wp2_with fail
 refine (eqFns _ _ fs w1 (h.out.keep B1).f (k.out.keep B1).f n2).mono ?_
 rintro e w2 ⟨rfl, hb1⟩
 have B2 := bel_trans B1 hb1
 clear hb1 B1 x1 y1
 go_wp2_with fail
 go_ret
 exact ⟨rfl, B2⟩
set_option maxRecDepth 100000 in
set_option maxHeartbeats 2000000 in
theorem szMo (gs : List GlD) (fs : List FnD) (vg vf : Value) (l : Int) (w : World) {lo : Nat} (h : MoAt lo w gs fs vg vf) (l0 : 0 ≤ l) (l1 : l ≤ 1048576) :
  Calls Tryz.prog 6 #[moV vg vf, .int .i64 l] w fun e w' => e = .returned (.int .i64 (less l (moN gs fs))) ∧ Below w.heap.size w w' := by
 have z1 : (0 : Int) ≤ gs.length + glsN gs := by have := glsN_nn gs; omega
 have z2 : (0 : Int) ≤ fs.length + fnsN fs := by have := fnsN_nn fs; omega
 have d1 := less_bd z1 l0
 have C1 : Kp (∀ w, MoAt lo w gs fs vg vf → Calls Tryz.prog 16 #[vg, .int .i64 l] w fun e w' => e = .returned (.int .i64 (less l (gs.length + glsN gs))) ∧ Below w.heap.size w w') := ⟨fun w h => szGls vg gs l w h.g l0 l1⟩
 have H := Kp.mk h
 obtain ⟨a1, k1, rfl⟩ := h.g.shape
 obtain ⟨a2, k2, rfl⟩ := h.f.shape
 clear h
 by_cases q1 : less l (gs.length + glsN gs) < 0
 ·have e : Kp (less l (moN gs fs) = -1) := ⟨less_neg z1 z2 q1 l0⟩
  generalize less l (gs.length + glsN gs) = r1 at *
  go_enter Tryz.func6, Tryz.ntmps6
  go_wp2_with fail
  refine (C1.out _ (H.out.keep (bel_alloc _ _))).mono ?_
  rintro e w1 ⟨rfl, hb1⟩
  go_wp2_with fail
  go_ret
  exact ⟨by rw [e.out]; rfl, bel_trans (bel_alloc _ _) hb1⟩
 ·have k1' : 0 ≤ less l (gs.length + glsN gs) := by omega
  have L2 := less_less (l := l) z1 z2 k1'
  have C2 : Kp (∀ w, MoAt lo w gs fs (.slice a1 gs.length k1) (.slice a2 fs.length k2) → Calls Tryz.prog 17 #[.slice a2 fs.length k2, .int .i64 (less l (gs.length + glsN gs))] w fun e w' => e = .returned (.int .i64 (less l (moN gs fs))) ∧ Below w.heap.size w w') := ⟨fun w h => by
   have q := szFns _ fs (less l (gs.length + glsN gs)) w h.f k1' (by omega)
   rw [L2] at q
   exact q⟩
  have d2 := less_bd (a := moN gs fs) (by unfold moN; omega) l0
  clear L2
  generalize less l (moN gs fs) = r2 at *
  generalize less l (gs.length + glsN gs) = r1 at *
  have run : ∀ (Q : Prop), Q → Q := fun _ q => q
  by_cases q2 : r2 < 0
  ·obtain rfl : r2 = -1 := by omega
   exact tl51
  ·exact tl51
set_option maxRecDepth 100000 in
set_option maxHeartbeats 2000000 in
theorem toMo (gs : List GlD) (fs : List FnD) (vg vf : Value) (w : World) {lo : Nat} (h : MoAt lo w gs fs vg vf) (hn : moN gs fs ≤ 1048576) :
  Calls Tryz.prog 8 #[moV vg vf] w fun e w' => ∃ vg' vf', e = .returned (moV vg' vf') ∧ MoAt w.heap.size w' gs fs vg' vf' ∧ Below w.heap.size w w' ∧ Unf w.heap.size w' := by
 unfold moN at hn
 have g0 := glsN_nn gs
 have f0 := fnsN_nn fs
 have n1 : gs.length + glsN gs ≤ 1048576 := by omega
 have n2 : fs.length + fnsN fs ≤ 1048576 := by omega
 obtain ⟨a1, k1, rfl⟩ := h.g.shape
 obtain ⟨a2, k2, rfl⟩ := h.f.shape
 replace h := Kp.mk h
 clear hn g0 f0
 go_enter Tryz.func8, Tryz.ntmps8
 go_wp2_with fail
 obtain ⟨W0, hW⟩ : ∃ W0 : World, W0 = (((w.alloc (Obj.cells #[.slice a1 gs.length k1, .slice a2 fs.length k2] 25)).alloc (Obj.cells #[.slice none 0 0, .slice none 0 0] 33)).alloc (Obj.cells #[.slice none 0 0, .slice none 0 0] 33)) := ⟨_, rfl⟩
 rw [← hW]
 obtain ⟨B0, z0, r1, r2, u0, hx, hz⟩ := three w _ _ _ _ _ _ hW
 have x1 := hx 1 _ rfl
 clear hW hx hz
 refine (toGls _ gs W0 (h.out.keep B0).g n1).mono ?_
 rintro e w1 ⟨v', rfl, hA, hb1, hu1⟩
 rw [z0] at hA
 obtain ⟨a3, k3, rfl⟩ := hA.shape
 have U1 := Kp.mk ((u0.call hb1 hu1).set (w.heap.size + 1 + 1) 0 (.slice a3 gs.length k3))
 clear u0 hu1
 replace r1 : Rw w1 (w.heap.size + 1) 2 := r1.keep hb1
 replace r2 : Rw w1 (w.heap.size + 1 + 1) 2 := r2.keep hb1
 replace x1 := at_keep x1 hb1
 obtain ⟨_, c0, e0⟩ := r2.at (j := 0) (by omega)
 have l2 : w.heap.size ≤ w.heap.size + 1 + 1 := by omega
 have l1 : w.heap.size ≤ w.heap.size + 1 := by omega
 have B1 := Kp.mk (bel_set (k := 0) (bel_trans B0 hb1) l2 (.slice a3 gs.length k3))
 have K1 : Keeps (w.heap.size + 1 + 1 + 1) w1 (w1.setCell ⟨w.heap.size + 1 + 1, 0, none⟩ (.slice a3 gs.length k3)) := keeps_set (by omega)
 have HG := Kp.mk (hA.mono (Nat.le_refl _) K1)
 have R1 := Kp.mk (r1.sets (w.heap.size + 1 + 1) 0 (.slice a3 gs.length k3))
 have R2 := Kp.mk (r2.sets (w.heap.size + 1 + 1) 0 (.slice a3 gs.length k3))
 have O0 := Kp.mk (set_same r2 (k := 0) (by omega) (.slice a3 gs.length k3))
 have X1 := Kp.mk (set_other (x := .slice a3 gs.length k3) (B := w.heap.size + 1 + 1) (k := 0) x1 (.inl (by omega)))
 clear hA r1 r2 z0 B0 hb1 K1
 go_wp2_with fail
 generalize w1.setCell ⟨w.heap.size + 1 + 1, 0, none⟩ (.slice a3 gs.length k3) = W1 at *
 clear x1 c0 e0
 have x1 := X1.out
 have z1 : w.heap.size + 1 + 1 + 1 ≤ W1.heap.size := R2.out.lt
 refine (toFns _ fs W1 (h.out.keep B1.out).f n2).mono ?_
 rintro e w2 ⟨v', rfl, hI, hb2, hu2⟩
 obtain ⟨a4, k4, rfl⟩ := hI.shape
 have U2 := Kp.mk (U1.out.call hb2 hu2)
 have HG2 := Kp.mk (HG.out.keep hb2)
 have HF2 := Kp.mk (hI.mono z1 (fun _ _ _ _ h => h))
 have B2 := Kp.mk (bel_trans B1.out hb2)
 have r1 := R1.out.keep hb2
 have r2 := R2.out.keep hb2
 have o0 : At w2 (w.heap.size + 1 + 1) 0 (.slice a3 gs.length k3) := at_keep O0.out hb2
 obtain ⟨_, c1, e1⟩ := r2.at (j := 1) (by omega)
 obtain ⟨_, d0, g0⟩ := r1.at (j := 0) (by omega)
 obtain ⟨_, d1, g1⟩ := r1.at (j := 1) (by omega)
 clear hI hb2 hu2 U1 HG B1 R1 R2 O0 X1 x1 z1 h
 go_wp2_with fail
 have K2 : Keeps (w.heap.size + 1 + 1 + 1) w2 (((w2.setCell ⟨w.heap.size + 1 + 1, 1, none⟩ (.slice a4 fs.length k4)).setCell ⟨w.heap.size + 1, 0, none⟩ (.slice a3 gs.length k3)).setCell ⟨w.heap.size + 1, 1, none⟩ (.slice a4 fs.length k4)) := ((keeps_set (by omega)).trans (keeps_set (by omega))).trans (keeps_set (by omega))
 refine bodyPost_ret (v := .agg #[.slice a3 gs.length k3, .slice a4 fs.length k4]) ?_ rfl ⟨_, _, rfl, ⟨HG2.out.mono (by omega) K2, HF2.out.mono (by omega) K2⟩, bel_set (bel_set (bel_set B2.out l2 _) l1 _) l1 _, ((U2.out.set _ _ _).set _ _ _).set _ _ _⟩
 clear K2 HG2 HF2 B2 U2 e1 r2
 simp [results, Tryz.results8, go_sem, d0, d1]
end Go.Proofs.YtgdcgjlmkmdklaaGreatDoor

namespace Go.Proofs.YtgdcgjlmkmdklaaGreatDoor
open Go.ChangeShapes Go.WideShapes Go.ChangeAt Go.RowKit
open Go.Sort (grow)
set_option linter.unusedVariables false
set_option linter.unusedSimpArgs false
def inPl (b i : Nat) : List InD → List (Nat × Nat × Int)
 | [] => []
 | d :: r => (b, i, d.ty) :: inPl b (i + 1) r
def blPl (b : Nat) : List (List InD) → List (Nat × Nat × Int)
 | [] => []
 | x :: r => inPl b 0 x ++ blPl (b + 1) r
def dAt (v n : Int) : List (Nat × Nat × Int) → Int × Int
 | [] => (-1, -1)
 | (b, i, t) :: r => if t = 0 then dAt v n r else if n = v then (b, i) else dAt v (n + 1) r
theorem inPl_drop (b i : Nat) (xs : List InD) (h : i < xs.length) : inPl b i (xs.drop i) = (b, i, (xs[i]).ty) :: inPl b (i + 1) (xs.drop (i + 1)) := by
 rw [List.drop_eq_getElem_cons h]; rfl
theorem inPl_end (b i : Nat) (xs : List InD) (h : xs.length ≤ i) : inPl b i (xs.drop i) = [] := by
 rw [List.drop_eq_nil_of_le h]; rfl
theorem blPl_drop (b : Nat) (xs : List (List InD)) (h : b < xs.length) : blPl b (xs.drop b) = inPl b 0 ((xs[b]).drop 0) ++ blPl (b + 1) (xs.drop (b + 1)) := by
 rw [List.drop_eq_getElem_cons h]; rfl
theorem blPl_end (b : Nat) (xs : List (List InD)) (h : xs.length ≤ b) : blPl b (xs.drop b) = [] := by
 rw [List.drop_eq_nil_of_le h]; rfl
theorem inPl_len (b i : Nat) (xs : List InD) : (inPl b i xs).length = xs.length := by
 induction xs generalizing i with
 | nil => rfl
 | cons d r ih => simp only [inPl, List.length_cons, ih]
theorem blPl_len (b : Nat) (xs : List (List InD)) : ((blPl b xs).length : Int) ≤ blsN xs := by
 induction xs generalizing b with
 | nil => exact Int.le_refl _
 | cons d r ih =>
  have := ih (b + 1)
  have e : blsN (d :: r) = blN d + blsN r := by simp [blsN]
  have n0 := insN_nn d
  unfold blN at e
  simp only [blPl, List.length_append, inPl_len]
  omega
end Go.Proofs.YtgdcgjlmkmdklaaGreatDoor

namespace Go.Proofs.YtgdcgjlmkmdklaaGreatDoor
open Go.ChangeShapes Go.WideShapes Go.ChangeAt Go.RowKit
open Go.Sort (grow)
set_option linter.unusedVariables false
set_option linter.unusedSimpArgs false
structure Own64 (w : World) (v : Value) (n B o : Nat) : Prop where
 s : Sl v n B o
 r : ∃ m, Rw w B m ∧ o + n ≤ m
end Go.Proofs.YtgdcgjlmkmdklaaGreatDoor

namespace Go.Proofs.YtgdcgjlmkmdklaaGreatDoor
open Go.ChangeShapes Go.WideShapes Go.ChangeAt Go.RowKit
open Go.Sort (grow)
set_option linter.unusedVariables false
set_option linter.unusedSimpArgs false
set_option maxRecDepth 100000 in
set_option maxHeartbeats 2000000 in
theorem l2AtS (d : FnD) (vp vb : Value) (B I : Int) (w : World) {lo : Nat} (h : FnAt lo w d vp vb) (hn : fnN d ≤ 1048576) :
  Calls Tryz.prog 28 #[fnV d vp vb, .int .i64 B, .int .i64 I] w fun e w' => e = .returned (.bool (decide (0 ≤ B ∧ B < d.blocks.length ∧ 0 ≤ I ∧ I < (d.blocks.getD B.toNat []).length))) ∧ Below w.heap.size w w' := by
 unfold fnN at hn
 obtain ⟨name, link, params, res, blocks⟩ := d
 obtain ⟨-, hp, hb⟩ := h
 dsimp only [fnV] at *
 have nn := blsN_nn blocks
 have n2 : (blocks.length : Int) ≤ 1048576 := by omega
 obtain ⟨a1, k1, rfl⟩ := hp.shape
 obtain ⟨b, o, ⟨⟨a2, k2, rfl, h1, h2⟩, h3⟩, -, hc⟩ := hb.ex
 replace hb := Kp.mk hb
 replace hp := Kp.mk hp
 clear hn nn
 obtain ⟨R, hR⟩ : ∃ R : Bool, decide (0 ≤ B ∧ B < blocks.length ∧ 0 ≤ I ∧ I < ((blocks.getD B.toNat []).length : Int)) = R := ⟨_, rfl⟩
 rw [hR]
 by_cases q0 : 0 ≤ B
 ·by_cases q1 : B < blocks.length
  ·by_cases q2 : 0 ≤ I
   ·obtain ⟨n, rfl⟩ : ∃ n : Nat, B = n := ⟨B.toNat, by omega⟩
    obtain rfl := h2 (by omega)
    have hn' : n < blocks.length := by omega
    obtain ⟨vi, c0, hv⟩ := hc n hn'
    have e : blocks.getD ((n : Int)).toNat [] = blocks[n] := by simp [List.getD, hn']
    obtain ⟨xs, hxs⟩ : ∃ xs, blocks[n] = xs := ⟨_, rfl⟩
    rw [e, hxs] at hR
    rw [hxs] at hv
    obtain ⟨a3, k3, rfl⟩ := hv.shape
    have c1 := fun O => at_keep c0 (bel_alloc w O)
    have q1' : n < blocks.length := hn'
    clear hc hv e hxs h2
    by_cases q3 : I < xs.length
    ·obtain rfl : R = true := by rw [← hR]; simp [q2, q3]; omega
     clear hR
     exact tl64
    ·obtain rfl : R = false := by rw [← hR]; simp; omega
     clear hR
     exact tl64
   ·exact tl154
  ·exact tl154
 ·exact tl154
end Go.Proofs.YtgdcgjlmkmdklaaGreatDoor

namespace Go.Proofs.YtgdcgjlmkmdklaaGreatDoor
open Go.ChangeShapes Go.WideShapes Go.ChangeAt Go.RowKit
open Go.Sort (grow)
set_option linter.unusedVariables false
set_option linter.unusedSimpArgs false
def rOf (B I n : Int) : List (Nat × Nat × Int) → Int
 | [] => -1
 | (b, i, t) :: r => if (b : Int) = B ∧ (i : Int) = I then (if t = 0 then -1 else n) else rOf B I (if t = 0 then n else n + 1) r
theorem rOf_none (B I : Int) (L : List (Nat × Nat × Int)) (n : Int) (h : ∀ e, e ∈ L → (e.1 : Int) = B → (e.2.1 : Int) = I → e.2.2 = 0) : rOf B I n L = -1 := by
 induction L generalizing n with
 | nil => rfl
 | cons x r ih =>
  obtain ⟨b, i, t⟩ := x
  unfold rOf
  split
  ·rename_i hh
   rw [if_pos (h (b, i, t) (List.mem_cons_self ..) hh.1 hh.2)]
  ·exact ih _ (fun e he => h e (List.mem_cons_of_mem _ he))
theorem inPl_mem (b i : Nat) (xs : List InD) (e : Nat × Nat × Int) (h : e ∈ inPl b i xs) : e.1 = b ∧ i ≤ e.2.1 ∧ ∃ q : e.2.1 - i < xs.length, e.2.2 = (xs[e.2.1 - i]).ty := by
 induction xs generalizing i with
 | nil => cases h
 | cons d r ih =>
  rcases List.mem_cons.1 h with rfl | h
  ·exact ⟨rfl, Nat.le_refl _, by simp, by simp⟩
  ·obtain ⟨h1, h2, h3, h4⟩ := ih (i + 1) h
   refine ⟨h1, by omega, by simp only [List.length_cons]; omega, ?_⟩
   rw [h4]
   have e : e.2.1 - i = (e.2.1 - (i + 1)) + 1 := by omega
   simp only [e, List.getElem_cons_succ]
theorem blPl_mem (b : Nat) (xs : List (List InD)) (e : Nat × Nat × Int) (h : e ∈ blPl b xs) : b ≤ e.1 ∧ ∃ q : e.1 - b < xs.length, ∃ q2 : e.2.1 < (xs[e.1 - b]).length, e.2.2 = ((xs[e.1 - b])[e.2.1]).ty := by
 induction xs generalizing b with
 | nil => cases h
 | cons d r ih =>
  rcases List.mem_append.1 h with h | h
  ·obtain ⟨h1, h2, h3, h4⟩ := inPl_mem b 0 d e h
   refine ⟨by omega, by simp only [List.length_cons]; omega, ?_⟩
   have e0 : e.1 - b = 0 := by omega
   simp only [e0, List.getElem_cons_zero]
   exact ⟨by simpa using h3, by simpa using h4⟩
  ·obtain ⟨h1, h2, h3, h4⟩ := ih (b + 1) h
   have e0 : e.1 - b = (e.1 - (b + 1)) + 1 := by omega
   refine ⟨by omega, by simp only [List.length_cons]; omega, ?_⟩
   simp only [e0, List.getElem_cons_succ]
   exact ⟨h3, h4⟩
end Go.Proofs.YtgdcgjlmkmdklaaGreatDoor

namespace Go.Proofs.YtgdcgjlmkmdklaaGreatDoor
open Go.ChangeShapes Go.WideShapes Go.ChangeAt Go.RowKit
open Go.Sort (grow)
set_option linter.unusedVariables false
set_option linter.unusedSimpArgs false
set_option maxRecDepth 100000 in
set_option maxHeartbeats 2000000 in
theorem resOfS (d : FnD) (vp vb : Value) (B I : Int) (w : World) {lo : Nat} (h : FnAt lo w d vp vb) (hn : fnN d ≤ 1048576) :
  Calls Tryz.prog 30 #[fnV d vp vb, .int .i64 B, .int .i64 I] w fun e w' => e = .returned (.int .i64 (rOf B I d.params.length (blPl 0 d.blocks))) ∧ Below w.heap.size w w' := by
 have HL : Kp (∀ W, Below w.heap.size w W → Calls Tryz.prog 28 #[fnV d vp vb, .int .i64 B, .int .i64 I] W fun e w' => e = .returned (.bool (decide (0 ≤ B ∧ B < d.blocks.length ∧ 0 ≤ I ∧ I < (d.blocks.getD B.toNat []).length))) ∧ Below W.heap.size W w') := ⟨fun W hb => l2AtS d vp vb B I W (h.keep hb) hn⟩
 unfold fnN at hn
 obtain ⟨name, link, params, res, blocks⟩ := d
 obtain ⟨-, hp, hb⟩ := h
 dsimp only [fnV] at *
 have nn := blsN_nn blocks
 have n1 : (params.length : Int) ≤ 1048576 := by omega
 have n2 : (blocks.length : Int) ≤ 1048576 := by omega
 have n3 : (params.length : Int) + blsN blocks ≤ 1048576 := by omega
 obtain ⟨a1, k1, rfl⟩ := hp.shape
 obtain ⟨b, o, ⟨⟨a2, k2, rfl, h1, h2⟩, h3⟩, -, hc⟩ := hb.ex
 replace hb := Kp.mk hb
 replace hp := Kp.mk hp
 clear hn nn
 obtain ⟨R, hR⟩ : ∃ R : Bool, decide (0 ≤ B ∧ B < blocks.length ∧ 0 ≤ I ∧ I < ((blocks.getD B.toNat []).length : Int)) = R := ⟨_, rfl⟩
 rw [hR] at HL
 cases R with
 | false =>
  have hA : rOf B I params.length (blPl 0 blocks) = -1 := rOf_none B I _ _ (fun e he q1 q2 => by
   exfalso
   obtain ⟨h1, h2, h3, h4⟩ := blPl_mem 0 blocks e he
   rw [decide_eq_false_iff_not] at hR
   apply hR
   have e1 : B.toNat = e.1 - 0 := by omega
   refine ⟨by omega, by omega, by omega, ?_⟩
   rw [e1, List.getD, List.getElem?_eq_getElem h2]
   simp only [Option.getD_some]
   omega)
  rw [hA]
  clear hA hR h2 hc
  go_enter Tryz.func30, Tryz.ntmps30
  go_wp2_with fail
  refine (HL.out _ (bel_alloc _ _)).mono ?_
  exact tl47
 | true =>
  obtain ⟨q0, q1, q2, q3⟩ := of_decide_eq_true hR
  obtain ⟨B, rfl⟩ : ∃ n : Nat, B = n := ⟨B.toNat, by omega⟩
  obtain ⟨I, rfl⟩ : ∃ n : Nat, I = n := ⟨I.toNat, by omega⟩
  have hB : B < blocks.length := by omega
  have eB : blocks.getD ((B : Int)).toNat [] = blocks[B] := by simp [List.getD, hB]
  rw [eB] at q3
  have hI : I < (blocks[B]).length := by omega
  obtain rfl := h2 (by omega)
  clear q0 q1 q2 q3 hR eB h2
  obtain ⟨A, hA⟩ : ∃ A, rOf B I params.length (blPl 0 blocks) = A := ⟨_, rfl⟩
  rw [hA]
  obtain ⟨W0, hW⟩ : ∃ W0 : World, W0 = w.alloc (Obj.cells #[.string name, .int .i64 link, .slice a1 params.length k1, .int .i64 res, .slice (some ⟨b, o, none⟩) blocks.length k2] 53) := ⟨_, rfl⟩
  have B0 : Below w.heap.size w W0 := by rw [hW]; exact bel_alloc _ _
  have x2 : At W0 w.heap.size 2 (.slice a1 params.length k1) := by rw [hW]; exact al_at _ _ _ rfl
  have x4 : At W0 w.heap.size 4 (.slice (some ⟨b, o, none⟩) blocks.length k2) := by rw [hW]; exact al_at _ _ _ rfl
  go_enter Tryz.func30, Tryz.ntmps30
  go_wp2_with fail
  rw [← hW]
  clear hW
  refine (HL.out _ B0).mono ?_
  rintro e w1 ⟨rfl, hb1⟩
  replace x2 := at_keep x2 hb1
  replace x4 := at_keep x4 hb1
  have B1 := bel_trans B0 hb1
  clear hb1 B0 HL
  have HX : Kp (∀ n (hn : n < blocks.length), ∃ a k bb oo, At w1 b (o + n) (.slice a (blocks[n]).length k) ∧ (0 < (blocks[n]).length → a = some ⟨bb, oo, none⟩) ∧ ∀ i (hi : i < (blocks[n]).length), At w1 bb (oo + i * 9 + 1) (.int .i64 ((blocks[n])[i]).ty)) := ⟨fun n hn => by
   obtain ⟨vi, c0, hv⟩ := hc n hn
   obtain ⟨bb, oo, ⟨⟨a, k, rfl, i1, i2⟩, i3⟩, -, ic⟩ := hv.ex
   exact ⟨a, k, bb, oo, at_keep c0 B1, i2, fun i hi => by
    obtain ⟨_, _, _, q⟩ := ic i hi
    exact at_keep q.c1 B1⟩⟩
  clear hc
  obtain ⟨aa, ka, ba, oa, c0, i2, ic⟩ := HX.out B hB
  obtain rfl := i2 (by omega)
  have c1 := ic I hI
  clear i2 ic
  by_cases ht : ((blocks[B])[I]).ty = 0
  ·have hA2 : A = -1 := by
    rw [← hA]
    refine rOf_none _ _ _ _ (fun e he q1 q2 => ?_)
    obtain ⟨h1, h2, h3, h4⟩ := blPl_mem 0 blocks e he
    rw [h4]
    have e1 : e.1 - 0 = B := by omega
    have e2 : e.2.1 = I := by omega
    simp only [e1, e2]
    exact ht
   subst hA2
   rw [ht] at c1
   clear HX hA ht
   go_wp2_with fail
   go_ret
   exact ⟨rfl, B1⟩
  ·have hl := Kp.mk hI
   have hA := Kp.mk hA
   have H1 : Kp (((blocks[B])[I]).ty ≠ 0) := ⟨ht⟩
   obtain ⟨t, ht2⟩ : ∃ t, ((blocks[B])[I]).ty = t := ⟨_, rfl⟩
   rw [ht2] at c1 ht
   clear ht2
   go_wp2_with fail
   clear c0 c1 ht
   go_loopw [7, 8] (fun s r wr => wr = w1 ∧ ∃ (b2 : Nat) (n : Int), b2 ≤ B ∧ r = .int .i64 b2 ∧ s = .int .i64 n ∧ 0 ≤ n ∧ n + (blPl b2 (blocks.drop b2)).length ≤ 2097152 ∧ Kp (rOf B I n (blPl b2 (blocks.drop b2)) = A)) (fun _ r _ => blocks.length - (intOf r).toNat)
   case atStart => exact ⟨rfl, 0, params.length, Nat.zero_le _, rfl, rfl, by omega, by have := blPl_len 0 blocks; simp only [List.drop_zero]; omega, hA⟩
   case round =>
    obtain ⟨rfl, b2, n, hb2, rfl, rfl, hn0, hn1, hd⟩ := hrel
    have hlt : b2 < blocks.length := by omega
    have hb2' : (b2 : Int) ≤ B := by omega
    obtain ⟨aa, ka, ba, oa, c0, i2, ic⟩ := HX.out b2 hlt
    have hdr := Kp.mk (blPl_drop b2 blocks hlt)
    obtain ⟨xs, hxs⟩ : ∃ xs, xs = blocks[b2] := ⟨_, rfl⟩
    have hIb : Kp (b2 = B → I < xs.length) := ⟨fun e => by subst hxs; subst e; exact hI⟩
    have hTy : Kp (b2 = B → ∀ (q : I < xs.length), (xs[I]).ty ≠ 0) := ⟨fun e q => by subst hxs; subst e; exact H1.out⟩
    have ic2 : Kp (∀ i (hi : i < xs.length), At wr ba (oa + i * 9 + 1) (.int .i64 (xs[i]).ty)) := ⟨fun i hi => by subst hxs; exact ic i hi⟩
    clear ic
    have ic := ic2
    clear ic2
    rw [← hxs] at c0 i2
    rw [← hxs] at hdr
    rw [hdr.out] at hn1 hd
    replace i2 := Kp.mk i2
    have g2 : (xs.length : Int) ≤ 2097152 := by
     rw [List.length_append, List.drop_zero, inPl_len] at hn1
     omega
    clear hdr hxs
    rw [List.length_append] at hn1
    go_wp2_with fail
    go_loopw [7, 9] (fun s r wq => wq = wr ∧ ∃ (i : Nat) (n : Int), i ≤ xs.length ∧ (b2 = B → i ≤ I) ∧ r = .int .i64 i ∧ s = .int .i64 n ∧ 0 ≤ n ∧ n + ((inPl b2 i (xs.drop i)).length + (blPl (b2 + 1) (blocks.drop (b2 + 1))).length) ≤ 2097152 ∧ Kp (rOf B I n (inPl b2 i (xs.drop i) ++ blPl (b2 + 1) (blocks.drop (b2 + 1))) = A)) (fun _ r _ => xs.length - (intOf r).toNat)
    case atStart => exact ⟨rfl, 0, n, Nat.zero_le _, fun _ => Nat.zero_le _, rfl, rfl, hn0, by omega, hd⟩
    case round =>
     clear hd hn0 hn1
     obtain ⟨rfl, i, n, hi, hiI, rfl, rfl, hn0, hn1, hd⟩ := hrel
     replace hiI := Kp.mk hiI
     by_cases hlt2 : i < xs.length
     ·obtain rfl := i2.out (by omega)
      have c1 := ic.out i hlt2
      have hdr := inPl_drop b2 i xs hlt2
      have hT2 : Kp (b2 = B → i = I → (xs[i]).ty ≠ 0) := ⟨fun e1 e2 => by subst e2; exact hTy.out e1 hlt2⟩
      rw [hdr, List.cons_append] at hd
      rw [hdr, List.length_cons] at hn1
      obtain ⟨t, ht⟩ : ∃ t, (xs[i]).ty = t := ⟨_, rfl⟩
      rw [ht] at c1 hd hT2
      clear hdr ht
      by_cases e1 : b2 = B
      ·subst e1
       by_cases e2 : i = I
       ·subst e2
        have t0 := hT2.out rfl rfl
        have hA2 : n = A := by rw [← hd.out]; simp only [rOf, and_self, if_true, if_neg t0]
        subst hA2
        clear hd hA hT2
        go_wp2_with fail
        go_ret
        exact ⟨rfl, B1⟩
       ·have e3 : (i : Int) ≠ I := by omega
        have e4 : ¬ ((b2 : Int) = b2 ∧ (i : Int) = I) := by omega
        have hii : b2 = b2 → i + 1 ≤ I := fun _ => by have := hiI.out rfl; omega
        by_cases t0 : t = 0
        ·subst t0
         go_wp2_with fail
         exact ⟨⟨trivial, i + 1, n, by omega, by simpa using hii, by go_num, rfl, hn0, by omega, ⟨by rw [← hd.out, rOf, if_neg e4, if_pos rfl]⟩⟩, by simp [intOf]; omega⟩
        ·go_wp2_with fail
         exact ⟨⟨trivial, i + 1, n + 1, by omega, by simpa using hii, by go_num, rfl, by omega, by omega, ⟨by rw [← hd.out, rOf, if_neg e4, if_neg t0]⟩⟩, by simp [intOf]; omega⟩
      ·have e3 : (b2 : Int) ≠ B := by omega
       have e4 : ¬ ((b2 : Int) = B ∧ (i : Int) = I) := fun q => e3 q.1
       by_cases t0 : t = 0
       ·subst t0
        go_wp2_with fail
        exact ⟨⟨_, .int .i64 n, .int .i64 ((i + 1 : Nat) : Int), ⟨i + 1, by omega, rfl, n, rfl, hn0, by omega, ⟨by rw [← hd.out, rOf, if_neg e4, if_pos rfl]⟩⟩, rfl, rfl, by go_num⟩, by simp [intOf]; omega⟩
       ·go_wp2_with fail
        exact ⟨⟨_, .int .i64 (n + 1), .int .i64 ((i + 1 : Nat) : Int), ⟨i + 1, by omega, rfl, n + 1, rfl, by omega, by omega, ⟨by rw [← hd.out, rOf, if_neg e4, if_neg t0]⟩⟩, rfl, rfl, by go_num⟩, by simp [intOf]; omega⟩
     ·have hne : b2 ≠ B := fun e => by have := hIb.out e; have := hiI.out e; omega
      have hb3 : b2 + 1 ≤ B := by omega
      rw [inPl_end b2 i xs (by omega), List.nil_append] at hd
      rw [inPl_end b2 i xs (by omega)] at hn1
      go_wp2_with fail
      exact ⟨⟨trivial, b2 + 1, n, hb3, by go_num, rfl, hn0, by simp at hn1; omega, hd⟩, by simp [intOf]; omega⟩
end Go.Proofs.YtgdcgjlmkmdklaaGreatDoor
