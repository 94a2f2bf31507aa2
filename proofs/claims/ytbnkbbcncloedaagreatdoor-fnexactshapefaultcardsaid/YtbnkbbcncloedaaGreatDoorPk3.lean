/- The packed texts Dp10, Dp11, Md1. -/
import Derived.Test.YtbnkbbcncloedaaGreatDoorRows
import Derived.WalkKit
import Derived.ProofKit
import Derived.OpenShut
import Derived.WalkLawsBesides
import Derived.Below
import Derived.BigQuiet
import Derived.Lib.QuietBelow
import Derived.Lib.AtoiErrMem
import Derived.Deep.OwnRows
import Derived.Deep.DeepCutAuto
import Derived.Test.YtbnkbbcncloedaaGreatDoorPk1
import Derived.Test.YtbnkbbcncloedaaGreatDoorPk2
namespace Go.Proofs.YtbnkbbcncloedaaGreatDoor
section
open Go.ChangeShapes Go.WideShapes Go.ChangeAt Go.RowKit

open Go.Sort (grow)

set_option linter.unusedVariables false

set_option linter.unusedSimpArgs false

theorem two (w : World) (X Y : Array Value) (tx ty : TypeId) {W : World} (h : W = (w.alloc (Obj.cells X tx)).alloc (Obj.cells Y ty)) :
    Below w.heap.size w W ∧ (∀ j v, X[j]? = some v → At W w.heap.size j v) ∧ (∀ j v, Y[j]? = some v → At W (w.heap.size + 1) j v) := by
  have s1 : (w.alloc (Obj.cells X tx)).heap.size = w.heap.size + 1 := World.size_alloc ..
  subst h
  refine ⟨bel_trans (bel_alloc _ _) (bel_alloc _ _), fun j v e => at_keep (al_at _ _ _ e) (bel_alloc _ _), fun j v e => ?_⟩
  have := al_at (w.alloc (Obj.cells X tx)) Y ty e
  rw [s1] at this
  exact this

set_option maxRecDepth 100000 in
set_option maxHeartbeats 2000000 in
theorem eqIn (d : InD) (va vb vw ua ub uw : Value) (w : World) {lo l2 : Nat} (h : InV lo w va vb vw d) (k : InV l2 w ua ub uw d) (hn : inN d ≤ 1048576) :
    Calls Tryz.prog 221 #[inV d va vb vw, inV d ua ub uw] w fun e w' => e = .returned (.bool true) ∧ Below w.heap.size w w' := by
  unfold inN at hn
  obtain ⟨a1, k1, a2, k2, a3, k3, rfl, rfl, rfl⟩ := h.shape
  obtain ⟨b1, l1, b2, l2, b3, l3, rfl, rfl, rfl⟩ := k.shape
  obtain ⟨op, ty, fl, pr, ca, sz, args, bl, ws⟩ := d
  dsimp only [inV] at *
  have n1 : args.length ≤ 1048576 := by omega
  have n2 : bl.length ≤ 1048576 := by omega
  have n3 : ws.length ≤ 1048576 := by omega
  have H := Kp.mk h
  have K := Kp.mk k
  clear h k hn
  go_enter Tryz.func221, Tryz.ntmps221
  go_wp2_with fail
  obtain ⟨W0, hW⟩ : ∃ W0 : World, W0 = ((w.alloc (Obj.cells #[.int .i64 op, .int .i64 ty, .int .i64 fl, .int .i64 pr, .int .i64 ca, .int .i64 sz, .slice a1 args.length k1, .slice a2 bl.length k2, .slice a3 ws.length k3] 82)).alloc (Obj.cells #[.int .i64 op, .int .i64 ty, .int .i64 fl, .int .i64 pr, .int .i64 ca, .int .i64 sz, .slice b1 args.length l1, .slice b2 bl.length l2, .slice b3 ws.length l3] 82)) := ⟨_, rfl⟩
  rw [← hW]
  obtain ⟨B0, hx, hy⟩ := two w _ _ _ _ hW
  have x7 := hx 7 _ rfl
  have x8 := hx 8 _ rfl
  have y7 := hy 7 _ rfl
  have y8 := hy 8 _ rfl
  clear hW hx hy
  refine (eqOps _ _ args W0 (H.out.a.keep B0) (K.out.a.keep B0) n1).mono ?_
  rintro e w1 ⟨rfl, hb1⟩
  have x7 := at_keep x7 hb1
  have x8 := at_keep x8 hb1
  have y7 := at_keep y7 hb1
  have y8 := at_keep y8 hb1
  have B1 := bel_trans B0 hb1
  clear hb1 B0
  go_wp2_with fail
  refine (eqInts _ _ bl w1 (H.out.b.keep B1) (K.out.b.keep B1) n2).mono ?_
  rintro e w2 ⟨rfl, hb1⟩
  have x8 := at_keep x8 hb1
  have y8 := at_keep y8 hb1
  have B2 := bel_trans B1 hb1
  clear hb1 B1 x7 y7
  go_wp2_with fail
  refine (eqWords _ _ ws w2 (H.out.c.keep B2) (K.out.c.keep B2) n3).mono ?_
  rintro e w3 ⟨rfl, hb1⟩
  have B3 := bel_trans B2 hb1
  clear hb1 B2 x8 y8
  go_wp2_with fail
  go_ret
  exact ⟨rfl, B3⟩

set_option maxRecDepth 100000 in
set_option maxHeartbeats 2000000 in
theorem eqInss (v u : Value) (xs : List InD) (w : World) {lo l2 : Nat} (h : Ins lo w v xs) (k : Ins l2 w u xs) (hn : blN xs ≤ 1048576) :
    Calls Tryz.prog 207 #[v, u] w fun e w' => e = .returned (.bool true) ∧ Below w.heap.size w w' := by
  obtain ⟨b, o, ⟨⟨a, cap, rfl, h1, h2⟩, h3⟩, -, hc⟩ := h.ex
  obtain ⟨b', o', ⟨⟨a', cap', rfl, h1', h2'⟩, h3'⟩, -, hc'⟩ := k.ex
  unfold blN at hn
  have Hn := insN_of xs
  have hnn := Hn.2
  have hN : Kp (∀ i (h : i < xs.length), inN xs[i] ≤ 1048576) := ⟨fun i h => by have := Hn.1 i h; omega⟩
  have g1 : (xs.length : Int) ≤ 1048576 := by omega
  have HC : Kp (∀ i (h : i < xs.length), (∃ va vb vw, InAt lo w b (o + i * 9) xs[i] va vb vw) ∧ ∃ va vb vw, InAt l2 w b' (o' + i * 9) xs[i] va vb vw) := ⟨fun i h => ⟨hc i h, hc' i h⟩⟩
  have H2 : Kp (0 < xs.length → a = some ⟨b, o, none⟩ ∧ a' = some ⟨b', o', none⟩) := ⟨fun q => ⟨h2 q, h2' q⟩⟩
  clear hc hc' h k h2 h2' Hn hnn hn
  go_enter Tryz.func207, Tryz.ntmps207
  go_wp2_with fail
  go_loopw [5] (fun s wr => ∃ i : Nat, i ≤ xs.length ∧ s = .int .i64 i ∧ Below w.heap.size w wr) (fun s _ => xs.length - (intOf s).toNat)
  case atStart => exact ⟨0, Nat.zero_le _, rfl, Below.refl _ _⟩
  case round =>
    obtain ⟨i, hi, rfl, hB⟩ := hrel
    by_cases hlt : i < xs.length
    · obtain ⟨rfl, rfl⟩ := H2.out (by omega)
      obtain ⟨⟨va, vb, vw, hq⟩, ⟨ua, ub, uw, hr⟩⟩ := HC.out i hlt
      have nd := hN.out i hlt
      obtain ⟨c0, c1, c2, c3, c4, c5, c6, c7, c8, hv⟩ := hq.keep hB
      obtain ⟨d0, d1, d2, d3, d4, d5, d6, d7, d8, hu⟩ := hr.keep hB
      clear hq hr
      obtain ⟨d, hd⟩ : ∃ d, Kp (xs[i] = d) := ⟨_, ⟨rfl⟩⟩
      rw [hd.out] at c0 c1 c2 c3 c4 c5 hv nd d0 d1 d2 d3 d4 d5 hu
      obtain ⟨a1, k1, a2, k2, a3, k3, rfl, rfl, rfl⟩ := hv.shape
      obtain ⟨b1, l1, b2, l2, b3, l3, rfl, rfl, rfl⟩ := hu.shape
      have C := Kp.mk (fun dq osq => Calls.regrown_of (eqIn d _ _ _ _ _ _ (grow (redrawn wr dq) osq) (hv.keep (below_regrown wr dq osq)) (hu.keep (below_regrown wr dq osq)) nd))
      clear hv hu nd
      go_upto_region 6 with fail
      replace c0 := cell_regrown c0
      replace c1 := cell_regrown c1
      replace c2 := cell_regrown c2
      replace c3 := cell_regrown c3
      replace c4 := cell_regrown c4
      replace c5 := cell_regrown c5
      replace c6 := cell_regrown c6
      replace c7 := cell_regrown c7
      replace c8 := cell_regrown c8
      replace d0 := cell_regrown d0
      replace d1 := cell_regrown d1
      replace d2 := cell_regrown d2
      replace d3 := cell_regrown d3
      replace d4 := cell_regrown d4
      replace d5 := cell_regrown d5
      replace d6 := cell_regrown d6
      replace d7 := cell_regrown d7
      replace d8 := cell_regrown d8
      refine wp_region_quiet_below (by kernel_rfl) (by kernel_rfl) ?_
      repeat (quiet_step (fail))
      quiet_step (exact C.out _ _)
      repeat (quiet_step (fail))
      refine wpQuiet_nil ?_
      intro _ hw'
      obtain ⟨⟨dq, osq⟩, hw''⟩ := hw'
      subst hw''
      have hB2 := bel_trans hB (below_regrown wr dq osq)
      clear c0 c1 c2 c3 c4 c5 c6 c7 c8 d0 d1 d2 d3 d4 d5 d6 d7 d8 C
      generalize grow (redrawn wr dq) osq = V at *
      go_wp2_with fail
      exact ⟨⟨i + 1, by omega, by go_num, hB2⟩, by simp [intOf]; omega⟩
    · go_wp2_with fail
      go_ret
      exact ⟨rfl, hB⟩
end
section
open Go.ChangeShapes Go.WideShapes Go.ChangeAt Go.RowKit

open Go.Sort (grow)

set_option linter.unusedVariables false

set_option linter.unusedSimpArgs false

set_option maxRecDepth 100000 in
set_option maxHeartbeats 2000000 in
theorem eqBl (xs : List InD) (vi ui : Value) (w : World) {lo l2 : Nat} (h : Ins lo w vi xs) (k : Ins l2 w ui xs) (hn : blN xs ≤ 1048576) :
    Calls Tryz.prog 192 #[.agg #[vi], .agg #[ui]] w fun e w' => e = .returned (.bool true) ∧ Below w.heap.size w w' := by
  obtain ⟨a1, k1, rfl⟩ := h.shape
  obtain ⟨b1, l1, rfl⟩ := k.shape
  have H := Kp.mk h
  have K := Kp.mk k
  clear h k
  go_enter Tryz.func192, Tryz.ntmps192
  go_wp2_with fail
  obtain ⟨W0, hW⟩ : ∃ W0 : World, W0 = ((w.alloc (Obj.cells #[.slice a1 xs.length k1] 78)).alloc (Obj.cells #[.slice b1 xs.length l1] 78)) := ⟨_, rfl⟩
  rw [← hW]
  obtain ⟨B0, -, -⟩ := two w _ _ _ _ hW
  clear hW
  refine (eqInss _ _ xs W0 (H.out.keep B0) (K.out.keep B0) hn).mono ?_
  rintro e w1 ⟨rfl, hb1⟩
  have B1 := bel_trans B0 hb1
  clear hb1 B0
  go_wp2_with fail
  go_ret
  exact ⟨rfl, B1⟩

set_option maxRecDepth 100000 in
set_option maxHeartbeats 2000000 in
theorem eqBls (v u : Value) (xs : List (List InD)) (w : World) {lo l2 : Nat} (h : Bls lo w v xs) (k : Bls l2 w u xs) (hn : xs.length + blsN xs ≤ 1048576) :
    Calls Tryz.prog 153 #[v, u] w fun e w' => e = .returned (.bool true) ∧ Below w.heap.size w w' := by
  obtain ⟨b, o, ⟨⟨a, cap, rfl, h1, h2⟩, h3⟩, -, hc⟩ := h.ex
  obtain ⟨b', o', ⟨⟨a', cap', rfl, h1', h2'⟩, h3'⟩, -, hc'⟩ := k.ex
  have Hn := blsN_of xs
  have hnn := Hn.2
  have hN : Kp (∀ i (h : i < xs.length), blN xs[i] ≤ 1048576) := ⟨fun i h => by have := Hn.1 i h; omega⟩
  have g1 : (xs.length : Int) ≤ 1048576 := by omega
  have HC : Kp (∀ i (h : i < xs.length), (∃ vi, At w b (o + i) vi ∧ Ins lo w vi xs[i]) ∧ ∃ vi, At w b' (o' + i) vi ∧ Ins l2 w vi xs[i]) := ⟨fun i h => ⟨hc i h, hc' i h⟩⟩
  have H2 : Kp (0 < xs.length → a = some ⟨b, o, none⟩ ∧ a' = some ⟨b', o', none⟩) := ⟨fun q => ⟨h2 q, h2' q⟩⟩
  clear hc hc' h k h2 h2' Hn hnn hn
  go_enter Tryz.func153, Tryz.ntmps153
  go_wp2_with fail
  go_loopw [5] (fun s wr => ∃ i : Nat, i ≤ xs.length ∧ s = .int .i64 i ∧ Below w.heap.size w wr) (fun s _ => xs.length - (intOf s).toNat)
  case atStart => exact ⟨0, Nat.zero_le _, rfl, Below.refl _ _⟩
  case round =>
    obtain ⟨i, hi, rfl, hB⟩ := hrel
    by_cases hlt : i < xs.length
    · obtain ⟨rfl, rfl⟩ := H2.out (by omega)
      obtain ⟨⟨vi, c0, hq⟩, ⟨ui, d0, hr⟩⟩ := HC.out i hlt
      have nd := hN.out i hlt
      replace c0 := at_keep c0 hB
      replace d0 := at_keep d0 hB
      have hv := hq.keep hB
      have hu := hr.keep hB
      clear hq hr
      obtain ⟨d, hd⟩ : ∃ d, Kp (xs[i] = d) := ⟨_, ⟨rfl⟩⟩
      rw [hd.out] at hv nd hu
      obtain ⟨a1, k1, rfl⟩ := hv.shape
      obtain ⟨b1, l1, rfl⟩ := hu.shape
      have C := Kp.mk (fun dq osq => Calls.regrown_of (eqBl d _ _ (grow (redrawn wr dq) osq) (hv.keep (below_regrown wr dq osq)) (hu.keep (below_regrown wr dq osq)) nd))
      clear hv hu nd
      go_upto_region 6 with fail
      replace c0 := cell_regrown c0
      replace d0 := cell_regrown d0
      refine wp_region_quiet_below (by kernel_rfl) (by kernel_rfl) ?_
      repeat (quiet_step (fail))
      quiet_step (exact C.out _ _)
      repeat (quiet_step (fail))
      refine wpQuiet_nil ?_
      intro _ hw'
      obtain ⟨⟨dq, osq⟩, hw''⟩ := hw'
      subst hw''
      have hB2 := bel_trans hB (below_regrown wr dq osq)
      clear c0 d0 C
      generalize grow (redrawn wr dq) osq = V at *
      go_wp2_with fail
      exact ⟨⟨i + 1, by omega, by go_num, hB2⟩, by simp [intOf]; omega⟩
    · go_wp2_with fail
      go_ret
      exact ⟨rfl, hB⟩

set_option maxRecDepth 100000 in
set_option maxHeartbeats 2000000 in
theorem eqFn (d : FnD) (vp vb up ub : Value) (w : World) {lo l2 : Nat} (h : FnAt lo w d vp vb) (k : FnAt l2 w d up ub) (hn : fnN d ≤ 1048576) :
    Calls Tryz.prog 86 #[fnV d vp vb, fnV d up ub] w fun e w' => e = .returned (.bool true) ∧ Below w.heap.size w w' := by
  unfold fnN at hn
  obtain ⟨name, link, params, res, blocks⟩ := d
  obtain ⟨-, hp, hb⟩ := h
  obtain ⟨-, kp, kb⟩ := k
  dsimp only [fnV] at *
  have nn := blsN_nn blocks
  have n1 : params.length ≤ 1048576 := by omega
  have n2 : blocks.length + blsN blocks ≤ 1048576 := by omega
  obtain ⟨a1, k1, rfl⟩ := hp.shape
  obtain ⟨a2, k2, rfl⟩ := hb.shape
  obtain ⟨b1, l1, rfl⟩ := kp.shape
  obtain ⟨b2, l2, rfl⟩ := kb.shape
  replace hp := Kp.mk hp
  replace hb := Kp.mk hb
  replace kp := Kp.mk kp
  replace kb := Kp.mk kb
  clear hn nn
  go_enter Tryz.func86, Tryz.ntmps86
  go_wp2_with fail
  obtain ⟨W0, hW⟩ : ∃ W0 : World, W0 = ((w.alloc (Obj.cells #[.string name, .int .i64 link, .slice a1 params.length k1, .int .i64 res, .slice a2 blocks.length k2] 74)).alloc (Obj.cells #[.string name, .int .i64 link, .slice b1 params.length l1, .int .i64 res, .slice b2 blocks.length l2] 74)) := ⟨_, rfl⟩
  rw [← hW]
  obtain ⟨B0, hx, hy⟩ := two w _ _ _ _ hW
  have x3 := hx 3 _ rfl
  have x4 := hx 4 _ rfl
  have y3 := hy 3 _ rfl
  have y4 := hy 4 _ rfl
  clear hW hx hy
  refine (eqInts _ _ params W0 (hp.out.keep B0) (kp.out.keep B0) n1).mono ?_
  rintro e w1 ⟨rfl, hb1⟩
  replace x3 := at_keep x3 hb1
  replace x4 := at_keep x4 hb1
  replace y3 := at_keep y3 hb1
  replace y4 := at_keep y4 hb1
  have B1 := bel_trans B0 hb1
  clear hb1 B0
  go_wp2_with fail
  refine (eqBls _ _ blocks w1 (hb.out.keep B1) (kb.out.keep B1) n2).mono ?_
  rintro e w2 ⟨rfl, hb1⟩
  have B2 := bel_trans B1 hb1
  clear hb1 B1 x3 x4 y3 y4
  go_wp2_with fail
  go_ret
  exact ⟨rfl, B2⟩
end
section
open Go.ChangeShapes Go.WideShapes Go.ChangeAt Go.RowKit

set_option linter.unusedVariables false

set_option linter.unusedSimpArgs false

structure GlD where
  name : ByteArray
  link : Int
  fx : Bool
  size : Int
  bytes : List Int

abbrev glV (d : GlD) (vb : Value) : Value := .agg #[.string d.name, .int .i64 d.link, .bool d.fx, .int .i64 d.size, vb]

structure GlAt (lo : Nat) (w : World) (b o : Nat) (d : GlD) (vb : Value) : Prop where
  n : d.name.size ≤ 140737488355328
  c0 : At w b o (.string d.name)
  c1 : At w b (o + 1) (.int .i64 d.link)
  c2 : At w b (o + 2) (.bool d.fx)
  c3 : At w b (o + 3) (.int .i64 d.size)
  c4 : At w b (o + 4) vb
  y : Ints lo .u8 w vb d.bytes

theorem GlAt.mono {lo l2 : Nat} {w w' : World} {b o : Nat} {d : GlD} {vb : Value} (h : GlAt lo w b o d vb) (l : l2 ≤ b) (hl : l2 ≤ lo) (hk : Keeps l2 w w') : GlAt l2 w' b o d vb :=
  ⟨h.n, hk _ _ _ l h.c0, hk _ _ _ l h.c1, hk _ _ _ l h.c2, hk _ _ _ l h.c3, hk _ _ _ l h.c4, h.y.mono hl (fun b o v q => hk b o v (Nat.le_trans hl q))⟩

theorem GlAt.keep {lo : Nat} {w w' : World} {b o : Nat} {d : GlD} {vb : Value} (h : GlAt lo w b o d vb) (hb : Below w.heap.size w w') : GlAt lo w' b o d vb :=
  ⟨h.n, at_keep h.c0 hb, at_keep h.c1 hb, at_keep h.c2 hb, at_keep h.c3 hb, at_keep h.c4 hb, h.y.keep hb⟩

structure FcAt (lo : Nat) (w : World) (b o : Nat) (d : FnD) (vp vb : Value) : Prop where
  c0 : At w b o (.string d.name)
  c1 : At w b (o + 1) (.int .i64 d.link)
  c2 : At w b (o + 2) vp
  c3 : At w b (o + 3) (.int .i64 d.res)
  c4 : At w b (o + 4) vb
  f : FnAt lo w d vp vb

theorem FcAt.mono {lo l2 : Nat} {w w' : World} {b o : Nat} {d : FnD} {vp vb : Value} (h : FcAt lo w b o d vp vb) (l : l2 ≤ b) (hl : l2 ≤ lo) (hk : Keeps l2 w w') : FcAt l2 w' b o d vp vb :=
  ⟨hk _ _ _ l h.c0, hk _ _ _ l h.c1, hk _ _ _ l h.c2, hk _ _ _ l h.c3, hk _ _ _ l h.c4, h.f.mono hl (fun b o v q => hk b o v (Nat.le_trans hl q))⟩

theorem FcAt.keep {lo : Nat} {w w' : World} {b o : Nat} {d : FnD} {vp vb : Value} (h : FcAt lo w b o d vp vb) (hb : Below w.heap.size w w') : FcAt lo w' b o d vp vb :=
  ⟨at_keep h.c0 hb, at_keep h.c1 hb, at_keep h.c2 hb, at_keep h.c3 hb, at_keep h.c4 hb, h.f.keep hb⟩

structure Gls (lo : Nat) (w : World) (v : Value) (xs : List GlD) : Prop where
  ex : ∃ b o, Sl v xs.length b o ∧ lo ≤ b ∧ ∀ i (h : i < xs.length), ∃ vb, GlAt lo w b (o + i * 5) xs[i] vb

theorem Gls.keep {lo : Nat} {w w' : World} {v : Value} {xs : List GlD} (h : Gls lo w v xs) (hb : Below w.heap.size w w') : Gls lo w' v xs := by
  obtain ⟨b, o, s, l, c⟩ := h.ex
  exact ⟨b, o, s, l, fun i hi => by obtain ⟨vb, q⟩ := c i hi; exact ⟨vb, q.keep hb⟩⟩

theorem Gls.shape {lo : Nat} {w : World} {v : Value} {xs : List GlD} (h : Gls lo w v xs) : ∃ a c, v = .slice a xs.length c := by
  obtain ⟨b, o, ⟨⟨a, c, rfl, _⟩, _⟩, _⟩ := h.ex
  exact ⟨a, c, rfl⟩

structure Fns (lo : Nat) (w : World) (v : Value) (xs : List FnD) : Prop where
  ex : ∃ b o, Sl v xs.length b o ∧ lo ≤ b ∧ ∀ i (h : i < xs.length), ∃ vp vb, FcAt lo w b (o + i * 5) xs[i] vp vb

theorem Fns.keep {lo : Nat} {w w' : World} {v : Value} {xs : List FnD} (h : Fns lo w v xs) (hb : Below w.heap.size w w') : Fns lo w' v xs := by
  obtain ⟨b, o, s, l, c⟩ := h.ex
  exact ⟨b, o, s, l, fun i hi => by obtain ⟨vp, vb, q⟩ := c i hi; exact ⟨vp, vb, q.keep hb⟩⟩

theorem Fns.shape {lo : Nat} {w : World} {v : Value} {xs : List FnD} (h : Fns lo w v xs) : ∃ a c, v = .slice a xs.length c := by
  obtain ⟨b, o, ⟨⟨a, c, rfl, _⟩, _⟩, _⟩ := h.ex
  exact ⟨a, c, rfl⟩

structure MoAt (lo : Nat) (w : World) (gs : List GlD) (fs : List FnD) (vg vf : Value) : Prop where
  g : Gls lo w vg gs
  f : Fns lo w vf fs

theorem MoAt.keep {lo : Nat} {w w' : World} {gs : List GlD} {fs : List FnD} {vg vf : Value} (h : MoAt lo w gs fs vg vf) (hb : Below w.heap.size w w') : MoAt lo w' gs fs vg vf := ⟨h.g.keep hb, h.f.keep hb⟩

def glN (d : GlD) : Int := d.name.size + d.bytes.length

def glsN (xs : List GlD) : Int := (xs.map glN).sum

def fnsN (xs : List FnD) : Int := (xs.map fnN).sum

def moN (gs : List GlD) (fs : List FnD) : Int := (gs.length + glsN gs) + (fs.length + fnsN fs)

theorem glN_nn (d : GlD) : 0 ≤ glN d := by unfold glN; omega

theorem fnN_pos (d : FnD) : 0 ≤ fnN d := by have := blsN_nn d.blocks; unfold fnN; omega

theorem glsN_nn (xs : List GlD) : 0 ≤ glsN xs := by
  unfold glsN
  induction xs with
  | nil => simp
  | cons d r ih => have := glN_nn d; simp only [List.map_cons, List.sum_cons]; omega

theorem glsN_snoc (xs : List GlD) (i : Nat) (h : i < xs.length) : glsN (xs.take (i + 1)) = glsN (xs.take i) + glN xs[i] := by
  unfold glsN
  rw [List.take_succ_eq_append_getElem h, List.map_append, List.sum_append]; simp

theorem glsN_le (xs : List GlD) (i : Nat) : glsN (xs.take i) ≤ glsN xs := by
  have e := congrArg glsN (List.take_append_drop i xs)
  have := glsN_nn (xs.drop i)
  unfold glsN at *
  rw [List.map_append, List.sum_append] at e
  omega

theorem fnsN_nn (xs : List FnD) : 0 ≤ fnsN xs := by
  unfold fnsN
  induction xs with
  | nil => simp
  | cons d r ih => have := fnN_pos d; simp only [List.map_cons, List.sum_cons]; omega

theorem fnsN_snoc (xs : List FnD) (i : Nat) (h : i < xs.length) : fnsN (xs.take (i + 1)) = fnsN (xs.take i) + fnN xs[i] := by
  unfold fnsN
  rw [List.take_succ_eq_append_getElem h, List.map_append, List.sum_append]; simp

theorem fnsN_le (xs : List FnD) (i : Nat) : fnsN (xs.take i) ≤ fnsN xs := by
  have e := congrArg fnsN (List.take_append_drop i xs)
  have := fnsN_nn (xs.drop i)
  unfold fnsN at *
  rw [List.map_append, List.sum_append] at e
  omega

set_option maxHeartbeats 1000000 in
theorem szBytes (v : Value) (n b o : Nat) (l : Int) (w : World) (h : Sl v n b o) (l0 : 0 ≤ l) (l1 : l ≤ 1048576) :
    Calls Tryz.prog 124 #[v, .int .i64 l] w fun e w' => e = .returned (.int .i64 (less l n)) ∧ w' = w := by
  obtain ⟨⟨a, cap, rfl, h1, h2⟩, h3⟩ := h
  have g1 : (n : Int) ≤ 140737488355328 := by omega
  by_cases hl : l < n
  · have e : Kp (less l n = -1) := ⟨by unfold less; rw [if_pos hl]⟩
    have q : l - (n : Int) < 0 := by omega
    clear h2
    go_enter Tryz.func124, Tryz.ntmps124
    go_wp2
    go_ret
    exact ⟨by rw [e.out]; rfl, rfl⟩
  · have e : Kp (less l n = l - n) := ⟨by unfold less; rw [if_neg hl]⟩
    have q : ¬ l - (n : Int) < 0 := by omega
    clear h2
    go_enter Tryz.func124, Tryz.ntmps124
    go_wp2
    go_ret
    exact ⟨by rw [e.out]; rfl, rfl⟩

set_option maxRecDepth 100000 in
set_option maxHeartbeats 2000000 in
theorem szGl (d : GlD) (vb : Value) (l : Int) (w : World) {lo : Nat} (hn : d.name.size ≤ 140737488355328) (h : Ints lo .u8 w vb d.bytes) (l0 : 0 ≤ l) (l1 : l ≤ 1048576) :
    Calls Tryz.prog 67 #[glV d vb, .int .i64 l] w fun e w' => e = .returned (.int .i64 (less l (glN d))) ∧ Below w.heap.size w w' := by
  obtain ⟨b1, o1, s1, -, -⟩ := h.ex
  obtain ⟨name, link, fx, size, bytes⟩ := d
  unfold glN
  dsimp only [glV] at *
  have hn' : (name.size : Int) ≤ 140737488355328 := by omega
  by_cases q0 : l < name.size
  · have e : Kp (less l (name.size + bytes.length) = -1) := ⟨by unfold less; rw [if_pos (by omega)]⟩
    have q : l - (name.size : Int) < 0 := by omega
    obtain ⟨a, c, rfl, -, -⟩ := s1.ex
    clear s1 h
    go_enter Tryz.func67, Tryz.ntmps67
    go_wp2_with fail
    go_ret
    exact ⟨by rw [e.out]; rfl, bel_alloc _ _⟩
  · have q : ¬ l - (name.size : Int) < 0 := by omega
    have e1 : less (l - name.size) bytes.length = less l (name.size + bytes.length) := by unfold less; (repeat' split) <;> omega
    have C1 : Kp (∀ w, Calls Tryz.prog 124 #[vb, .int .i64 (l - name.size)] w fun e w' => e = .returned (.int .i64 (less l (name.size + bytes.length))) ∧ w' = w) := ⟨fun w => by
      have := szBytes vb _ b1 o1 (l - name.size) w s1 (by omega) (by omega)
      rw [e1] at this
      exact this⟩
    have dd := less_bd (a := (name.size : Int) + bytes.length) (by omega) l0
    obtain ⟨a, c, rfl, -, -⟩ := s1.ex
    clear s1 h e1
    generalize less l (name.size + bytes.length) = r at *
    by_cases qr : r < 0
    · obtain rfl : r = -1 := by omega
      go_enter Tryz.func67, Tryz.ntmps67
      go_wp2_with fail
      refine (C1.out _).mono ?_
      rintro e w' ⟨rfl, rfl⟩
      go_wp2_with fail
      go_ret
      exact ⟨rfl, bel_alloc _ _⟩
    · go_enter Tryz.func67, Tryz.ntmps67
      go_wp2_with fail
      refine (C1.out _).mono ?_
      rintro e w' ⟨rfl, rfl⟩
      go_wp2_with fail
      go_ret
      exact ⟨rfl, bel_alloc _ _⟩

set_option maxRecDepth 100000 in
set_option maxHeartbeats 2000000 in
theorem szGls (v : Value) (xs : List GlD) (l : Int) (w : World) {lo : Nat} (h : Gls lo w v xs) (l0 : 0 ≤ l) (l1 : l ≤ 1048576) :
    Calls Tryz.prog 26 #[v, .int .i64 l] w fun e w' => e = .returned (.int .i64 (less l (xs.length + glsN xs))) ∧ Below w.heap.size w w' := by
  obtain ⟨b, o, ⟨⟨a, cap, rfl, h1, h2⟩, h3⟩, -, hc⟩ := h.ex
  have g1 : (xs.length : Int) ≤ 140737488355328 := by omega
  have n0 := glsN_nn xs
  by_cases hl : l < xs.length
  · have e : Kp (less l (xs.length + glsN xs) = -1) := ⟨by unfold less; rw [if_pos (by omega)]⟩
    have q : l - (xs.length : Int) < 0 := by omega
    clear h2 hc
    go_enter Tryz.func26, Tryz.ntmps26
    go_wp2
    go_ret
    exact ⟨by rw [e.out]; rfl, Below.refl _ _⟩
  · have q : ¬ l - (xs.length : Int) < 0 := by omega
    go_enter Tryz.func26, Tryz.ntmps26
    go_wp2_with fail
    go_loopw [1, 5] (fun r s wr => ∃ i : Nat, i ≤ xs.length ∧ s = .int .i64 i ∧ r = .int .i64 (l - xs.length - glsN (xs.take i)) ∧ glsN (xs.take i) ≤ l - xs.length ∧ Below w.heap.size w wr) (fun _ s _ => xs.length - (intOf s).toNat)
    case atStart => exact ⟨0, Nat.zero_le _, rfl, by simp [glsN], by simp [glsN]; omega, Below.refl _ _⟩
    case round =>
      obtain ⟨i, hi, rfl, rfl, hle, hB⟩ := hrel
      by_cases hlt : i < xs.length
      · have ha := h2 (by omega)
        subst ha
        obtain ⟨vb, H⟩ := hc i hlt
        have hv := H.keep hB
        obtain ⟨hnm, c0, c1, c2, c3, c4, hv⟩ := hv
        clear H
        have hs := glsN_snoc xs i hlt
        have nn := glN_nn xs[i]
        have n1 := glsN_nn (xs.take i)
        have htk := glsN_le xs (i + 1)
        have C : Kp (∀ w, Ints lo .u8 w vb xs[i].bytes → ∀ l', 0 ≤ l' → l' ≤ 1048576 → Calls Tryz.prog 67 #[glV xs[i] vb, .int .i64 l'] w fun e w' => e = .returned (.int .i64 (less l' (glN xs[i]))) ∧ Below w.heap.size w w') := ⟨fun w h l' a b => szGl _ vb l' w hnm h a b⟩
        have H2 : Kp (glsN (xs.take (i + 1)) = glsN (xs.take i) + glN xs[i]) := ⟨hs⟩
        by_cases hlt2 : l - xs.length - glsN (xs.take i) < glN xs[i]
        · have e1 : less (l - xs.length - glsN (xs.take i)) (glN xs[i]) = -1 := by unfold less; rw [if_pos hlt2]
          have e : Kp (less l (xs.length + glsN xs) = -1) := ⟨by unfold less; rw [if_pos (by omega)]⟩
          clear hs htk H2 hc
          generalize glsN (xs.take i) = T at *
          generalize xs[i] = D at *
          have C1 : Kp _ := ⟨C.out wr hv (l - xs.length - T) (by omega) (by omega)⟩
          rw [e1] at C1
          clear e1 C
          go_wp2_with fail
          refine C1.out.mono ?_
          rintro e w1 ⟨rfl, hb1⟩
          go_wp2_with fail
          go_ret
          exact ⟨by rw [e.out]; rfl, bel_trans hB hb1⟩
        · have e1 : less (l - xs.length - glsN (xs.take i)) (glN xs[i]) = l - xs.length - glsN (xs.take (i + 1)) := by unfold less; rw [if_neg hlt2]; omega
          have q2 : ¬ l - xs.length - glsN (xs.take (i + 1)) < 0 := by omega
          have q3 : glsN (xs.take (i + 1)) ≤ l - xs.length := by omega
          clear hs htk H2 hc hlt2
          have C1 : Kp _ := ⟨C.out wr hv (l - xs.length - glsN (xs.take i)) (by omega) (by omega)⟩
          rw [e1] at C1
          clear e1 C nn
          generalize hT2 : glsN (xs.take (i + 1)) = T2 at *
          generalize glsN (xs.take i) = T at *
          generalize xs[i] = D at *
          have HT2 : Kp _ := ⟨hT2⟩
          clear hT2
          go_wp2_with fail
          refine C1.out.mono ?_
          rintro e w1 ⟨rfl, hb1⟩
          go_wp2_with fail
          refine ⟨⟨i + 1, by omega, by go_num, ?_, ?_, bel_trans hB hb1⟩, by simp [intOf]; omega⟩
          · rw [HT2.out]
          · rw [HT2.out]; exact q3
      · have e0 : i = xs.length := by omega
        have et : glsN (xs.take i) = glsN xs := by rw [e0, List.take_length]
        have e : Kp (less l (xs.length + glsN xs) = l - xs.length - glsN xs) := ⟨by unfold less; rw [if_neg (by omega)]; omega⟩
        rw [et]
        clear et h2 hc hle n0
        go_wp2_with fail
        go_ret
        exact ⟨by rw [e.out]; rfl, hB⟩

set_option maxRecDepth 100000 in
set_option maxHeartbeats 2000000 in
theorem szFns (v : Value) (xs : List FnD) (l : Int) (w : World) {lo : Nat} (h : Fns lo w v xs) (l0 : 0 ≤ l) (l1 : l ≤ 1048576) :
    Calls Tryz.prog 27 #[v, .int .i64 l] w fun e w' => e = .returned (.int .i64 (less l (xs.length + fnsN xs))) ∧ Below w.heap.size w w' := by
  obtain ⟨b, o, ⟨⟨a, cap, rfl, h1, h2⟩, h3⟩, -, hc⟩ := h.ex
  have g1 : (xs.length : Int) ≤ 140737488355328 := by omega
  have n0 := fnsN_nn xs
  by_cases hl : l < xs.length
  · have e : Kp (less l (xs.length + fnsN xs) = -1) := ⟨by unfold less; rw [if_pos (by omega)]⟩
    have q : l - (xs.length : Int) < 0 := by omega
    clear h2 hc
    go_enter Tryz.func27, Tryz.ntmps27
    go_wp2
    go_ret
    exact ⟨by rw [e.out]; rfl, Below.refl _ _⟩
  · have q : ¬ l - (xs.length : Int) < 0 := by omega
    go_enter Tryz.func27, Tryz.ntmps27
    go_wp2_with fail
    go_loopw [1, 5] (fun r s wr => ∃ i : Nat, i ≤ xs.length ∧ s = .int .i64 i ∧ r = .int .i64 (l - xs.length - fnsN (xs.take i)) ∧ fnsN (xs.take i) ≤ l - xs.length ∧ Below w.heap.size w wr) (fun _ s _ => xs.length - (intOf s).toNat)
    case atStart => exact ⟨0, Nat.zero_le _, rfl, by simp [fnsN], by simp [fnsN]; omega, Below.refl _ _⟩
    case round =>
      obtain ⟨i, hi, rfl, rfl, hle, hB⟩ := hrel
      by_cases hlt : i < xs.length
      · have ha := h2 (by omega)
        subst ha
        obtain ⟨vp, vb, H⟩ := hc i hlt
        have hv := H.keep hB
        obtain ⟨c0, c1, c2, c3, c4, hv⟩ := hv
        clear H
        have hs := fnsN_snoc xs i hlt
        have nn := fnN_pos xs[i]
        have n1 := fnsN_nn (xs.take i)
        have htk := fnsN_le xs (i + 1)
        have C : Kp (∀ w, FnAt lo w xs[i] vp vb → ∀ l', 0 ≤ l' → l' ≤ 1048576 → Calls Tryz.prog 68 #[fnV xs[i] vp vb, .int .i64 l'] w fun e w' => e = .returned (.int .i64 (less l' (fnN xs[i]))) ∧ Below w.heap.size w w') := ⟨fun w h l' a b => szFn _ vp vb l' w h a b⟩
        have H2 : Kp (fnsN (xs.take (i + 1)) = fnsN (xs.take i) + fnN xs[i]) := ⟨hs⟩
        by_cases hlt2 : l - xs.length - fnsN (xs.take i) < fnN xs[i]
        · have e1 : less (l - xs.length - fnsN (xs.take i)) (fnN xs[i]) = -1 := by unfold less; rw [if_pos hlt2]
          have e : Kp (less l (xs.length + fnsN xs) = -1) := ⟨by unfold less; rw [if_pos (by omega)]⟩
          clear hs htk H2 hc
          generalize fnsN (xs.take i) = T at *
          generalize xs[i] = D at *
          have C1 : Kp _ := ⟨C.out wr hv (l - xs.length - T) (by omega) (by omega)⟩
          rw [e1] at C1
          clear e1 C
          go_wp2_with fail
          refine C1.out.mono ?_
          rintro e w1 ⟨rfl, hb1⟩
          go_wp2_with fail
          go_ret
          exact ⟨by rw [e.out]; rfl, bel_trans hB hb1⟩
        · have e1 : less (l - xs.length - fnsN (xs.take i)) (fnN xs[i]) = l - xs.length - fnsN (xs.take (i + 1)) := by unfold less; rw [if_neg hlt2]; omega
          have q2 : ¬ l - xs.length - fnsN (xs.take (i + 1)) < 0 := by omega
          have q3 : fnsN (xs.take (i + 1)) ≤ l - xs.length := by omega
          clear hs htk H2 hc hlt2
          have C1 : Kp _ := ⟨C.out wr hv (l - xs.length - fnsN (xs.take i)) (by omega) (by omega)⟩
          rw [e1] at C1
          clear e1 C nn
          generalize hT2 : fnsN (xs.take (i + 1)) = T2 at *
          generalize fnsN (xs.take i) = T at *
          generalize xs[i] = D at *
          have HT2 : Kp _ := ⟨hT2⟩
          clear hT2
          go_wp2_with fail
          refine C1.out.mono ?_
          rintro e w1 ⟨rfl, hb1⟩
          go_wp2_with fail
          refine ⟨⟨i + 1, by omega, by go_num, ?_, ?_, bel_trans hB hb1⟩, by simp [intOf]; omega⟩
          · rw [HT2.out]
          · rw [HT2.out]; exact q3
      · have e0 : i = xs.length := by omega
        have et : fnsN (xs.take i) = fnsN xs := by rw [e0, List.take_length]
        have e : Kp (less l (xs.length + fnsN xs) = l - xs.length - fnsN xs) := ⟨by unfold less; rw [if_neg (by omega)]; omega⟩
        rw [et]
        clear et h2 hc hle n0
        go_wp2_with fail
        go_ret
        exact ⟨by rw [e.out]; rfl, hB⟩
end
end Go.Proofs.YtbnkbbcncloedaaGreatDoor
