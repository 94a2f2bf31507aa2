/- Texts of one claim. -/
import Derived.Test.YtgdcgjlmkmdklaaGreatDoorPk0
import Derived.Test.YtgdcgjlmkmdklaaGreatDoorPk2
import Derived.Test.YtgdcgjlmkmdklaaGreatDoorPk1
namespace Go.Proofs.YtgdcgjlmkmdklaaGreatDoor
open Go.ChangeShapes Go.WideShapes Go.ChangeAt Go.RowKit
open Go.Sort (grow)
set_option linter.unusedVariables false
set_option linter.unusedSimpArgs false
theorem two (w : World) (X Y : Array Value) (tx ty : TypeId) {W : World} (h : W = (w.alloc (Obj.cells X tx)).alloc (Obj.cells Y ty)) :
  Below w.heap.size w W ∧ (∀ j v, X[j]? = some v → At W w.heap.size j v) ∧ (∀ j v, Y[j]? = some v → At W (w.heap.size + 1) j v) := by
 have s1 : (w.alloc (Obj.cells X tx)).heap.size = w.heap.size + 1 := World.size_alloc ..
 subst h
 refine ⟨bel_trans (bel_alloc _ _) (bel_alloc _ _), fun j v e => at_keep (al_at _ _ _ e) (bel_alloc _ _), fun j v e => ?_⟩
 have := al_at (w.alloc (Obj.cells X tx)) Y ty e
 rw [s1] at this
 exact this
set_option maxRecDepth 100000 in
set_option maxHeartbeats 2000000 in
theorem eqIn (d : InD) (va vb vw ua ub uw : Value) (w : World) {lo l2 : Nat} (h : InV lo w va vb vw d) (k : InV l2 w ua ub uw d) (hn : inN d ≤ 1048576) :
  Calls Tryz.prog 168 #[inV d va vb vw, inV d ua ub uw] w fun e w' => e = .returned (.bool true) ∧ Below w.heap.size w w' := by
 unfold inN at hn
 obtain ⟨a1, k1, a2, k2, a3, k3, rfl, rfl, rfl⟩ := h.shape
 obtain ⟨b1, l1, b2, l2, b3, l3, rfl, rfl, rfl⟩ := k.shape
 obtain ⟨op, ty, fl, pr, ca, sz, args, bl, ws⟩ := d
 dsimp only [inV] at *
 have n1 : args.length ≤ 1048576 := by omega
 have n2 : bl.length ≤ 1048576 := by omega
 have n3 : ws.length ≤ 1048576 := by omega
 have H := Kp.mk h
 have K := Kp.mk k
 clear h k hn
 go_enter Tryz.func168, Tryz.ntmps168
 go_wp2_with fail
 obtain ⟨W0, hW⟩ : ∃ W0 : World, W0 = ((w.alloc (Obj.cells #[.int .i64 op, .int .i64 ty, .int .i64 fl, .int .i64 pr, .int .i64 ca, .int .i64 sz, .slice a1 args.length k1, .slice a2 bl.length k2, .slice a3 ws.length k3] 73)).alloc (Obj.cells #[.int .i64 op, .int .i64 ty, .int .i64 fl, .int .i64 pr, .int .i64 ca, .int .i64 sz, .slice b1 args.length l1, .slice b2 bl.length l2, .slice b3 ws.length l3] 73)) := ⟨_, rfl⟩
 rw [← hW]
 obtain ⟨B0, hx, hy⟩ := two w _ _ _ _ hW
 have x7 := hx 7 _ rfl
 have x8 := hx 8 _ rfl
 have y7 := hy 7 _ rfl
 have y8 := hy 8 _ rfl
 clear hW hx hy
 refine (eqOps _ _ args W0 (H.out.a.keep B0) (K.out.a.keep B0) n1).mono ?_
 rintro e w1 ⟨rfl, hb1⟩
 have x7 := at_keep x7 hb1
 have x8 := at_keep x8 hb1
 have y7 := at_keep y7 hb1
 have y8 := at_keep y8 hb1
 have B1 := bel_trans B0 hb1
 clear hb1 B0
 go_wp2_with fail
 refine (eqInts _ _ bl w1 (H.out.b.keep B1) (K.out.b.keep B1) n2).mono ?_
 rintro e w2 ⟨rfl, hb1⟩
 have x8 := at_keep x8 hb1
 have y8 := at_keep y8 hb1
 have B2 := bel_trans B1 hb1
 clear hb1 B1 x7 y7
 go_wp2_with fail
 refine (eqWords _ _ ws w2 (H.out.c.keep B2) (K.out.c.keep B2) n3).mono ?_
 rintro e w3 ⟨rfl, hb1⟩
 have B3 := bel_trans B2 hb1
 clear hb1 B2 x8 y8
 go_wp2_with fail
 go_ret
 exact ⟨rfl, B3⟩
set_option maxRecDepth 100000 in
set_option maxHeartbeats 2000000 in
theorem eqInss (v u : Value) (xs : List InD) (w : World) {lo l2 : Nat} (h : Ins lo w v xs) (k : Ins l2 w u xs) (hn : blN xs ≤ 1048576) :
  Calls Tryz.prog 156 #[v, u] w fun e w' => e = .returned (.bool true) ∧ Below w.heap.size w w' := by
 obtain ⟨b, o, ⟨⟨a, cap, rfl, h1, h2⟩, h3⟩, -, hc⟩ := h.ex
 obtain ⟨b', o', ⟨⟨a', cap', rfl, h1', h2'⟩, h3'⟩, -, hc'⟩ := k.ex
 unfold blN at hn
 have Hn := insN_of xs
 have hnn := Hn.2
 have hN : Kp (∀ i (h : i < xs.length), inN xs[i] ≤ 1048576) := ⟨fun i h => by have := Hn.1 i h; omega⟩
 have g1 : (xs.length : Int) ≤ 1048576 := by omega
 have HC : Kp (∀ i (h : i < xs.length), (∃ va vb vw, InAt lo w b (o + i * 9) xs[i] va vb vw) ∧ ∃ va vb vw, InAt l2 w b' (o' + i * 9) xs[i] va vb vw) := ⟨fun i h => ⟨hc i h, hc' i h⟩⟩
 have H2 : Kp (0 < xs.length → a = some ⟨b, o, none⟩ ∧ a' = some ⟨b', o', none⟩) := ⟨fun q => ⟨h2 q, h2' q⟩⟩
 clear hc hc' h k h2 h2' Hn hnn hn
 go_enter Tryz.func156, Tryz.ntmps156
 go_wp2_with fail
 go_loopw [5] (fun s wr => ∃ i : Nat, i ≤ xs.length ∧ s = .int .i64 i ∧ Below w.heap.size w wr) (fun s _ => xs.length - (intOf s).toNat)
 case atStart => exact ⟨0, Nat.zero_le _, rfl, Below.refl _ _⟩
 case round =>
  obtain ⟨i, hi, rfl, hB⟩ := hrel
  by_cases hlt : i < xs.length
  ·obtain ⟨rfl, rfl⟩ := H2.out (by omega)
   obtain ⟨⟨va, vb, vw, hq⟩, ⟨ua, ub, uw, hr⟩⟩ := HC.out i hlt
   have nd := hN.out i hlt
   obtain ⟨c0, c1, c2, c3, c4, c5, c6, c7, c8, hv⟩ := hq.keep hB
   obtain ⟨d0, d1, d2, d3, d4, d5, d6, d7, d8, hu⟩ := hr.keep hB
   clear hq hr
   obtain ⟨d, hd⟩ : ∃ d, Kp (xs[i] = d) := ⟨_, ⟨rfl⟩⟩
   rw [hd.out] at c0 c1 c2 c3 c4 c5 hv nd d0 d1 d2 d3 d4 d5 hu
   obtain ⟨a1, k1, a2, k2, a3, k3, rfl, rfl, rfl⟩ := hv.shape
   obtain ⟨b1, l1, b2, l2, b3, l3, rfl, rfl, rfl⟩ := hu.shape
   have C := Kp.mk (fun dq osq => Calls.regrown_of (eqIn d _ _ _ _ _ _ (grow (redrawn wr dq) osq) (hv.keep (below_regrown wr dq osq)) (hu.keep (below_regrown wr dq osq)) nd))
   clear hv hu nd
   go_upto_region 6 with fail
   replace c0 := cell_regrown c0
   replace c1 := cell_regrown c1
   replace c2 := cell_regrown c2
   replace c3 := cell_regrown c3
   replace c4 := cell_regrown c4
   replace c5 := cell_regrown c5
   replace c6 := cell_regrown c6
   replace c7 := cell_regrown c7
   replace c8 := cell_regrown c8
   replace d0 := cell_regrown d0
   replace d1 := cell_regrown d1
   replace d2 := cell_regrown d2
   replace d3 := cell_regrown d3
   replace d4 := cell_regrown d4
   replace d5 := cell_regrown d5
   replace d6 := cell_regrown d6
   replace d7 := cell_regrown d7
   replace d8 := cell_regrown d8
   refine wp_region_quiet_below (by kernel_rfl) (by kernel_rfl) ?_
   repeat (quiet_step (fail))
   quiet_step (exact C.out _ _)
   repeat (quiet_step (fail))
   refine wpQuiet_nil ?_
   intro _ hw'
   obtain ⟨⟨dq, osq⟩, hw''⟩ := hw'
   subst hw''
   have hB2 := bel_trans hB (below_regrown wr dq osq)
   clear c0 c1 c2 c3 c4 c5 c6 c7 c8 d0 d1 d2 d3 d4 d5 d6 d7 d8 C
   exact tl143
  ·go_wp2_with fail
   go_ret
   exact ⟨rfl, hB⟩
end Go.Proofs.YtgdcgjlmkmdklaaGreatDoor

namespace Go.Proofs.YtgdcgjlmkmdklaaGreatDoor
open Go.ChangeShapes Go.WideShapes Go.ChangeAt Go.RowKit
open Go.Sort (grow)
set_option linter.unusedVariables false
set_option linter.unusedSimpArgs false
set_option maxRecDepth 100000 in
set_option maxHeartbeats 2000000 in
theorem eqBl (xs : List InD) (vi ui : Value) (w : World) {lo l2 : Nat} (h : Ins lo w vi xs) (k : Ins l2 w ui xs) (hn : blN xs ≤ 1048576) :
  Calls Tryz.prog 143 #[.agg #[vi], .agg #[ui]] w fun e w' => e = .returned (.bool true) ∧ Below w.heap.size w w' := by
 obtain ⟨a1, k1, rfl⟩ := h.shape
 obtain ⟨b1, l1, rfl⟩ := k.shape
 have H := Kp.mk h
 have K := Kp.mk k
 clear h k
 go_enter Tryz.func143, Tryz.ntmps143
 go_wp2_with fail
 obtain ⟨W0, hW⟩ : ∃ W0 : World, W0 = ((w.alloc (Obj.cells #[.slice a1 xs.length k1] 59)).alloc (Obj.cells #[.slice b1 xs.length l1] 59)) := ⟨_, rfl⟩
 rw [← hW]
 obtain ⟨B0, -, -⟩ := two w _ _ _ _ hW
 clear hW
 refine (eqInss _ _ xs W0 (H.out.keep B0) (K.out.keep B0) hn).mono ?_
 rintro e w1 ⟨rfl, hb1⟩
 have B1 := bel_trans B0 hb1
 clear hb1 B0
 go_wp2_with fail
 go_ret
 exact ⟨rfl, B1⟩
set_option maxRecDepth 100000 in
set_option maxHeartbeats 2000000 in
theorem eqBls (v u : Value) (xs : List (List InD)) (w : World) {lo l2 : Nat} (h : Bls lo w v xs) (k : Bls l2 w u xs) (hn : xs.length + blsN xs ≤ 1048576) :
  Calls Tryz.prog 112 #[v, u] w fun e w' => e = .returned (.bool true) ∧ Below w.heap.size w w' := by
 obtain ⟨b, o, ⟨⟨a, cap, rfl, h1, h2⟩, h3⟩, -, hc⟩ := h.ex
 obtain ⟨b', o', ⟨⟨a', cap', rfl, h1', h2'⟩, h3'⟩, -, hc'⟩ := k.ex
 have Hn := blsN_of xs
 have hnn := Hn.2
 have hN : Kp (∀ i (h : i < xs.length), blN xs[i] ≤ 1048576) := ⟨fun i h => by have := Hn.1 i h; omega⟩
 have g1 : (xs.length : Int) ≤ 1048576 := by omega
 have HC : Kp (∀ i (h : i < xs.length), (∃ vi, At w b (o + i) vi ∧ Ins lo w vi xs[i]) ∧ ∃ vi, At w b' (o' + i) vi ∧ Ins l2 w vi xs[i]) := ⟨fun i h => ⟨hc i h, hc' i h⟩⟩
 have H2 : Kp (0 < xs.length → a = some ⟨b, o, none⟩ ∧ a' = some ⟨b', o', none⟩) := ⟨fun q => ⟨h2 q, h2' q⟩⟩
 clear hc hc' h k h2 h2' Hn hnn hn
 go_enter Tryz.func112, Tryz.ntmps112
 go_wp2_with fail
 go_loopw [5] (fun s wr => ∃ i : Nat, i ≤ xs.length ∧ s = .int .i64 i ∧ Below w.heap.size w wr) (fun s _ => xs.length - (intOf s).toNat)
 case atStart => exact ⟨0, Nat.zero_le _, rfl, Below.refl _ _⟩
 case round =>
  obtain ⟨i, hi, rfl, hB⟩ := hrel
  by_cases hlt : i < xs.length
  ·obtain ⟨rfl, rfl⟩ := H2.out (by omega)
   obtain ⟨⟨vi, c0, hq⟩, ⟨ui, d0, hr⟩⟩ := HC.out i hlt
   have nd := hN.out i hlt
   replace c0 := at_keep c0 hB
   replace d0 := at_keep d0 hB
   have hv := hq.keep hB
   have hu := hr.keep hB
   clear hq hr
   obtain ⟨d, hd⟩ : ∃ d, Kp (xs[i] = d) := ⟨_, ⟨rfl⟩⟩
   rw [hd.out] at hv nd hu
   obtain ⟨a1, k1, rfl⟩ := hv.shape
   obtain ⟨b1, l1, rfl⟩ := hu.shape
   have C := Kp.mk (fun dq osq => Calls.regrown_of (eqBl d _ _ (grow (redrawn wr dq) osq) (hv.keep (below_regrown wr dq osq)) (hu.keep (below_regrown wr dq osq)) nd))
   clear hv hu nd
   go_upto_region 6 with fail
   replace c0 := cell_regrown c0
   replace d0 := cell_regrown d0
   refine wp_region_quiet_below (by kernel_rfl) (by kernel_rfl) ?_
   repeat (quiet_step (fail))
   quiet_step (exact C.out _ _)
   repeat (quiet_step (fail))
   refine wpQuiet_nil ?_
   intro _ hw'
   obtain ⟨⟨dq, osq⟩, hw''⟩ := hw'
   subst hw''
   have hB2 := bel_trans hB (below_regrown wr dq osq)
   clear c0 d0 C
   exact tl143
  ·go_wp2_with fail
   go_ret
   exact ⟨rfl, hB⟩
set_option maxRecDepth 100000 in
set_option maxHeartbeats 2000000 in
theorem eqFn (d : FnD) (vp vb up ub : Value) (w : World) {lo l2 : Nat} (h : FnAt lo w d vp vb) (k : FnAt l2 w d up ub) (hn : fnN d ≤ 1048576) :
  Calls Tryz.prog 62 #[fnV d vp vb, fnV d up ub] w fun e w' => e = .returned (.bool true) ∧ Below w.heap.size w w' := by
 unfold fnN at hn
 obtain ⟨name, link, params, res, blocks⟩ := d
 obtain ⟨-, hp, hb⟩ := h
 obtain ⟨-, kp, kb⟩ := k
 dsimp only [fnV] at *
 have nn := blsN_nn blocks
 have n1 : params.length ≤ 1048576 := by omega
 have n2 : blocks.length + blsN blocks ≤ 1048576 := by omega
 obtain ⟨a1, k1, rfl⟩ := hp.shape
 obtain ⟨a2, k2, rfl⟩ := hb.shape
 obtain ⟨b1, l1, rfl⟩ := kp.shape
 obtain ⟨b2, l2, rfl⟩ := kb.shape
 replace hp := Kp.mk hp
 replace hb := Kp.mk hb
 replace kp := Kp.mk kp
 replace kb := Kp.mk kb
 clear hn nn
 go_enter Tryz.func62, Tryz.ntmps62
 go_wp2_with fail
 obtain ⟨W0, hW⟩ : ∃ W0 : World, W0 = ((w.alloc (Obj.cells #[.string name, .int .i64 link, .slice a1 params.length k1, .int .i64 res, .slice a2 blocks.length k2] 53)).alloc (Obj.cells #[.string name, .int .i64 link, .slice b1 params.length l1, .int .i64 res, .slice b2 blocks.length l2] 53)) := ⟨_, rfl⟩
 rw [← hW]
 obtain ⟨B0, hx, hy⟩ := two w _ _ _ _ hW
 have x3 := hx 3 _ rfl
 have x4 := hx 4 _ rfl
 have y3 := hy 3 _ rfl
 have y4 := hy 4 _ rfl
 clear hW hx hy
 refine (eqInts _ _ params W0 (hp.out.keep B0) (kp.out.keep B0) n1).mono ?_
 rintro e w1 ⟨rfl, hb1⟩
 replace x3 := at_keep x3 hb1
 replace x4 := at_keep x4 hb1
 replace y3 := at_keep y3 hb1
 replace y4 := at_keep y4 hb1
 have B1 := bel_trans B0 hb1
 clear hb1 B0
 go_wp2_with fail
 refine (eqBls _ _ blocks w1 (hb.out.keep B1) (kb.out.keep B1) n2).mono ?_
 rintro e w2 ⟨rfl, hb1⟩
 have B2 := bel_trans B1 hb1
 clear hb1 B1 x3 x4 y3 y4
 go_wp2_with fail
 go_ret
 exact ⟨rfl, B2⟩
end Go.Proofs.YtgdcgjlmkmdklaaGreatDoor

namespace Go.Proofs.YtgdcgjlmkmdklaaGreatDoor
open Go.ChangeShapes Go.WideShapes Go.ChangeAt Go.RowKit
set_option linter.unusedVariables false
set_option linter.unusedSimpArgs false
structure GlD where
 name : ByteArray
 link : Int
 fx : Bool
 size : Int
 bytes : List Int
abbrev glV (d : GlD) (vb : Value) : Value := .agg #[.string d.name, .int .i64 d.link, .bool d.fx, .int .i64 d.size, vb]
structure GlAt (lo : Nat) (w : World) (b o : Nat) (d : GlD) (vb : Value) : Prop where
 n : d.name.size ≤ 140737488355328
 c0 : At w b o (.string d.name)
 c1 : At w b (o + 1) (.int .i64 d.link)
 c2 : At w b (o + 2) (.bool d.fx)
 c3 : At w b (o + 3) (.int .i64 d.size)
 c4 : At w b (o + 4) vb
 y : Ints lo .u8 w vb d.bytes
theorem GlAt.mono {lo l2 : Nat} {w w' : World} {b o : Nat} {d : GlD} {vb : Value} (h : GlAt lo w b o d vb) (l : l2 ≤ b) (hl : l2 ≤ lo) (hk : Keeps l2 w w') : GlAt l2 w' b o d vb :=
 ⟨h.n, hk _ _ _ l h.c0, hk _ _ _ l h.c1, hk _ _ _ l h.c2, hk _ _ _ l h.c3, hk _ _ _ l h.c4, h.y.mono hl (fun b o v q => hk b o v (Nat.le_trans hl q))⟩
theorem GlAt.keep {lo : Nat} {w w' : World} {b o : Nat} {d : GlD} {vb : Value} (h : GlAt lo w b o d vb) (hb : Below w.heap.size w w') : GlAt lo w' b o d vb :=
 ⟨h.n, at_keep h.c0 hb, at_keep h.c1 hb, at_keep h.c2 hb, at_keep h.c3 hb, at_keep h.c4 hb, h.y.keep hb⟩
structure FcAt (lo : Nat) (w : World) (b o : Nat) (d : FnD) (vp vb : Value) : Prop where
 c0 : At w b o (.string d.name)
 c1 : At w b (o + 1) (.int .i64 d.link)
 c2 : At w b (o + 2) vp
 c3 : At w b (o + 3) (.int .i64 d.res)
 c4 : At w b (o + 4) vb
 f : FnAt lo w d vp vb
theorem FcAt.mono {lo l2 : Nat} {w w' : World} {b o : Nat} {d : FnD} {vp vb : Value} (h : FcAt lo w b o d vp vb) (l : l2 ≤ b) (hl : l2 ≤ lo) (hk : Keeps l2 w w') : FcAt l2 w' b o d vp vb :=
 ⟨hk _ _ _ l h.c0, hk _ _ _ l h.c1, hk _ _ _ l h.c2, hk _ _ _ l h.c3, hk _ _ _ l h.c4, h.f.mono hl (fun b o v q => hk b o v (Nat.le_trans hl q))⟩
theorem FcAt.keep {lo : Nat} {w w' : World} {b o : Nat} {d : FnD} {vp vb : Value} (h : FcAt lo w b o d vp vb) (hb : Below w.heap.size w w') : FcAt lo w' b o d vp vb :=
 ⟨at_keep h.c0 hb, at_keep h.c1 hb, at_keep h.c2 hb, at_keep h.c3 hb, at_keep h.c4 hb, h.f.keep hb⟩
structure Gls (lo : Nat) (w : World) (v : Value) (xs : List GlD) : Prop where
 ex : ∃ b o, Sl v xs.length b o ∧ lo ≤ b ∧ ∀ i (h : i < xs.length), ∃ vb, GlAt lo w b (o + i * 5) xs[i] vb
theorem Gls.keep {lo : Nat} {w w' : World} {v : Value} {xs : List GlD} (h : Gls lo w v xs) (hb : Below w.heap.size w w') : Gls lo w' v xs := by
 obtain ⟨b, o, s, l, c⟩ := h.ex
 exact ⟨b, o, s, l, fun i hi => by obtain ⟨vb, q⟩ := c i hi; exact ⟨vb, q.keep hb⟩⟩
theorem Gls.shape {lo : Nat} {w : World} {v : Value} {xs : List GlD} (h : Gls lo w v xs) : ∃ a c, v = .slice a xs.length c := by
 exact tl72
structure Fns (lo : Nat) (w : World) (v : Value) (xs : List FnD) : Prop where
 ex : ∃ b o, Sl v xs.length b o ∧ lo ≤ b ∧ ∀ i (h : i < xs.length), ∃ vp vb, FcAt lo w b (o + i * 5) xs[i] vp vb
theorem Fns.keep {lo : Nat} {w w' : World} {v : Value} {xs : List FnD} (h : Fns lo w v xs) (hb : Below w.heap.size w w') : Fns lo w' v xs := by
 obtain ⟨b, o, s, l, c⟩ := h.ex
 exact ⟨b, o, s, l, fun i hi => by obtain ⟨vp, vb, q⟩ := c i hi; exact ⟨vp, vb, q.keep hb⟩⟩
theorem Fns.shape {lo : Nat} {w : World} {v : Value} {xs : List FnD} (h : Fns lo w v xs) : ∃ a c, v = .slice a xs.length c := by
 exact tl72
structure MoAt (lo : Nat) (w : World) (gs : List GlD) (fs : List FnD) (vg vf : Value) : Prop where
 g : Gls lo w vg gs
 f : Fns lo w vf fs
theorem MoAt.keep {lo : Nat} {w w' : World} {gs : List GlD} {fs : List FnD} {vg vf : Value} (h : MoAt lo w gs fs vg vf) (hb : Below w.heap.size w w') : MoAt lo w' gs fs vg vf := ⟨h.g.keep hb, h.f.keep hb⟩
def glN (d : GlD) : Int := d.name.size + d.bytes.length
def glsN (xs : List GlD) : Int := (xs.map glN).sum
def fnsN (xs : List FnD) : Int := (xs.map fnN).sum
def moN (gs : List GlD) (fs : List FnD) : Int := (gs.length + glsN gs) + (fs.length + fnsN fs)
theorem glN_nn (d : GlD) : 0 ≤ glN d := by unfold glN; omega
theorem fnN_pos (d : FnD) : 0 ≤ fnN d := by have := blsN_nn d.blocks; unfold fnN; omega
theorem glsN_nn (xs : List GlD) : 0 ≤ glsN xs := by
 unfold glsN
 induction xs with
 | nil => simp
 | cons d r ih => have := glN_nn d; simp only [List.map_cons, List.sum_cons]; omega
theorem glsN_snoc (xs : List GlD) (i : Nat) (h : i < xs.length) : glsN (xs.take (i + 1)) = glsN (xs.take i) + glN xs[i] := by
 unfold glsN
 rw [List.take_succ_eq_append_getElem h, List.map_append, List.sum_append]; simp
theorem glsN_le (xs : List GlD) (i : Nat) : glsN (xs.take i) ≤ glsN xs := by
 have e := congrArg glsN (List.take_append_drop i xs)
 have := glsN_nn (xs.drop i)
 unfold glsN at *
 rw [List.map_append, List.sum_append] at e
 omega
theorem fnsN_nn (xs : List FnD) : 0 ≤ fnsN xs := by
 unfold fnsN
 induction xs with
 | nil => simp
 | cons d r ih => have := fnN_pos d; simp only [List.map_cons, List.sum_cons]; omega
theorem fnsN_snoc (xs : List FnD) (i : Nat) (h : i < xs.length) : fnsN (xs.take (i + 1)) = fnsN (xs.take i) + fnN xs[i] := by
 unfold fnsN
 rw [List.take_succ_eq_append_getElem h, List.map_append, List.sum_append]; simp
theorem fnsN_le (xs : List FnD) (i : Nat) : fnsN (xs.take i) ≤ fnsN xs := by
 have e := congrArg fnsN (List.take_append_drop i xs)
 have := fnsN_nn (xs.drop i)
 unfold fnsN at *
 rw [List.map_append, List.sum_append] at e
 omega
set_option maxHeartbeats 1000000 in
theorem szBytes (v : Value) (n b o : Nat) (l : Int) (w : World) (h : Sl v n b o) (l0 : 0 ≤ l) (l1 : l ≤ 1048576) :
  Calls Tryz.prog 82 #[v, .int .i64 l] w fun e w' => e = .returned (.int .i64 (less l n)) ∧ w' = w := by
 obtain ⟨⟨a, cap, rfl, h1, h2⟩, h3⟩ := h
 have g1 : (n : Int) ≤ 140737488355328 := by omega
 by_cases hl : l < n
 ·have e : Kp (less l n = -1) := ⟨by unfold less; rw [if_pos hl]⟩
  have q : l - (n : Int) < 0 := by omega
  exact tl125
 ·have e : Kp (less l n = l - n) := ⟨by unfold less; rw [if_neg hl]⟩
  have q : ¬ l - (n : Int) < 0 := by omega
  exact tl125
set_option maxRecDepth 100000 in
set_option maxHeartbeats 2000000 in
theorem szGl (d : GlD) (vb : Value) (l : Int) (w : World) {lo : Nat} (hn : d.name.size ≤ 140737488355328) (h : Ints lo .u8 w vb d.bytes) (l0 : 0 ≤ l) (l1 : l ≤ 1048576) :
  Calls Tryz.prog 43 #[glV d vb, .int .i64 l] w fun e w' => e = .returned (.int .i64 (less l (glN d))) ∧ Below w.heap.size w w' := by
 obtain ⟨b1, o1, s1, -, -⟩ := h.ex
 obtain ⟨name, link, fx, size, bytes⟩ := d
 unfold glN
 dsimp only [glV] at *
 have hn' : (name.size : Int) ≤ 140737488355328 := by omega
 by_cases q0 : l < name.size
 ·have e : Kp (less l (name.size + bytes.length) = -1) := ⟨by unfold less; rw [if_pos (by omega)]⟩
  have q : l - (name.size : Int) < 0 := by omega
  obtain ⟨a, c, rfl, -, -⟩ := s1.ex
  clear s1 h
  go_enter Tryz.func43, Tryz.ntmps43
  exact tl81
 ·have q : ¬ l - (name.size : Int) < 0 := by omega
  have e1 : less (l - name.size) bytes.length = less l (name.size + bytes.length) := by unfold less; (repeat' split) <;> omega
  have C1 : Kp (∀ w, Calls Tryz.prog 82 #[vb, .int .i64 (l - name.size)] w fun e w' => e = .returned (.int .i64 (less l (name.size + bytes.length))) ∧ w' = w) := ⟨fun w => by
   have := szBytes vb _ b1 o1 (l - name.size) w s1 (by omega) (by omega)
   rw [e1] at this
   exact this⟩
  have dd := less_bd (a := (name.size : Int) + bytes.length) (by omega) l0
  obtain ⟨a, c, rfl, -, -⟩ := s1.ex
  clear s1 h e1
  generalize less l (name.size + bytes.length) = r at *
  by_cases qr : r < 0
  ·obtain rfl : r = -1 := by omega
   exact tl93
  ·exact tl93
set_option maxRecDepth 100000 in
set_option maxHeartbeats 2000000 in
theorem szGls (v : Value) (xs : List GlD) (l : Int) (w : World) {lo : Nat} (h : Gls lo w v xs) (l0 : 0 ≤ l) (l1 : l ≤ 1048576) :
  Calls Tryz.prog 16 #[v, .int .i64 l] w fun e w' => e = .returned (.int .i64 (less l (xs.length + glsN xs))) ∧ Below w.heap.size w w' := by
 obtain ⟨b, o, ⟨⟨a, cap, rfl, h1, h2⟩, h3⟩, -, hc⟩ := h.ex
 have g1 : (xs.length : Int) ≤ 140737488355328 := by omega
 have n0 := glsN_nn xs
 by_cases hl : l < xs.length
 ·have e : Kp (less l (xs.length + glsN xs) = -1) := ⟨by unfold less; rw [if_pos (by omega)]⟩
  have q : l - (xs.length : Int) < 0 := by omega
  clear h2 hc
  go_enter Tryz.func16, Tryz.ntmps16
  go_wp2
  go_ret
  exact ⟨by rw [e.out]; rfl, Below.refl _ _⟩
 ·have q : ¬ l - (xs.length : Int) < 0 := by omega
  go_enter Tryz.func16, Tryz.ntmps16
  go_wp2_with fail
  go_loopw [1, 5] (fun r s wr => ∃ i : Nat, i ≤ xs.length ∧ s = .int .i64 i ∧ r = .int .i64 (l - xs.length - glsN (xs.take i)) ∧ glsN (xs.take i) ≤ l - xs.length ∧ Below w.heap.size w wr) (fun _ s _ => xs.length - (intOf s).toNat)
  case atStart => exact ⟨0, Nat.zero_le _, rfl, by simp [glsN], by simp [glsN]; omega, Below.refl _ _⟩
  case round =>
   obtain ⟨i, hi, rfl, rfl, hle, hB⟩ := hrel
   by_cases hlt : i < xs.length
   ·have ha := h2 (by omega)
    subst ha
    obtain ⟨vb, H⟩ := hc i hlt
    have hv := H.keep hB
    obtain ⟨hnm, c0, c1, c2, c3, c4, hv⟩ := hv
    clear H
    have hs := glsN_snoc xs i hlt
    have nn := glN_nn xs[i]
    have n1 := glsN_nn (xs.take i)
    have htk := glsN_le xs (i + 1)
    have C : Kp (∀ w, Ints lo .u8 w vb xs[i].bytes → ∀ l', 0 ≤ l' → l' ≤ 1048576 → Calls Tryz.prog 43 #[glV xs[i] vb, .int .i64 l'] w fun e w' => e = .returned (.int .i64 (less l' (glN xs[i]))) ∧ Below w.heap.size w w') := ⟨fun w h l' a b => szGl _ vb l' w hnm h a b⟩
    have H2 : Kp (glsN (xs.take (i + 1)) = glsN (xs.take i) + glN xs[i]) := ⟨hs⟩
    by_cases hlt2 : l - xs.length - glsN (xs.take i) < glN xs[i]
    ·have e1 : less (l - xs.length - glsN (xs.take i)) (glN xs[i]) = -1 := by unfold less; rw [if_pos hlt2]
     have e : Kp (less l (xs.length + glsN xs) = -1) := ⟨by unfold less; rw [if_pos (by omega)]⟩
     clear hs htk H2 hc
     generalize glsN (xs.take i) = T at *
     exact tl24
    ·have e1 : less (l - xs.length - glsN (xs.take i)) (glN xs[i]) = l - xs.length - glsN (xs.take (i + 1)) := by unfold less; rw [if_neg hlt2]; omega
     have q2 : ¬ l - xs.length - glsN (xs.take (i + 1)) < 0 := by omega
     have q3 : glsN (xs.take (i + 1)) ≤ l - xs.length := by omega
     clear hs htk H2 hc hlt2
     have C1 : Kp _ := ⟨C.out wr hv (l - xs.length - glsN (xs.take i)) (by omega) (by omega)⟩
     rw [e1] at C1
     clear e1 C nn
     generalize hT2 : glsN (xs.take (i + 1)) = T2 at *
     generalize glsN (xs.take i) = T at *
     exact tl20
   ·have e0 : i = xs.length := by omega
    have et : glsN (xs.take i) = glsN xs := by rw [e0, List.take_length]
    have e : Kp (less l (xs.length + glsN xs) = l - xs.length - glsN xs) := ⟨by unfold less; rw [if_neg (by omega)]; omega⟩
    exact tl87
set_option maxRecDepth 100000 in
set_option maxHeartbeats 2000000 in
theorem szFns (v : Value) (xs : List FnD) (l : Int) (w : World) {lo : Nat} (h : Fns lo w v xs) (l0 : 0 ≤ l) (l1 : l ≤ 1048576) :
  Calls Tryz.prog 17 #[v, .int .i64 l] w fun e w' => e = .returned (.int .i64 (less l (xs.length + fnsN xs))) ∧ Below w.heap.size w w' := by
 obtain ⟨b, o, ⟨⟨a, cap, rfl, h1, h2⟩, h3⟩, -, hc⟩ := h.ex
 have g1 : (xs.length : Int) ≤ 140737488355328 := by omega
 have n0 := fnsN_nn xs
 by_cases hl : l < xs.length
 ·have e : Kp (less l (xs.length + fnsN xs) = -1) := ⟨by unfold less; rw [if_pos (by omega)]⟩
  have q : l - (xs.length : Int) < 0 := by omega
  clear h2 hc
  go_enter Tryz.func17, Tryz.ntmps17
  go_wp2
  go_ret
  exact ⟨by rw [e.out]; rfl, Below.refl _ _⟩
 ·have q : ¬ l - (xs.length : Int) < 0 := by omega
  go_enter Tryz.func17, Tryz.ntmps17
  go_wp2_with fail
  go_loopw [1, 5] (fun r s wr => ∃ i : Nat, i ≤ xs.length ∧ s = .int .i64 i ∧ r = .int .i64 (l - xs.length - fnsN (xs.take i)) ∧ fnsN (xs.take i) ≤ l - xs.length ∧ Below w.heap.size w wr) (fun _ s _ => xs.length - (intOf s).toNat)
  case atStart => exact ⟨0, Nat.zero_le _, rfl, by simp [fnsN], by simp [fnsN]; omega, Below.refl _ _⟩
  case round =>
   obtain ⟨i, hi, rfl, rfl, hle, hB⟩ := hrel
   by_cases hlt : i < xs.length
   ·have ha := h2 (by omega)
    subst ha
    obtain ⟨vp, vb, H⟩ := hc i hlt
    have hv := H.keep hB
    obtain ⟨c0, c1, c2, c3, c4, hv⟩ := hv
    clear H
    have hs := fnsN_snoc xs i hlt
    have nn := fnN_pos xs[i]
    have n1 := fnsN_nn (xs.take i)
    have htk := fnsN_le xs (i + 1)
    have C : Kp (∀ w, FnAt lo w xs[i] vp vb → ∀ l', 0 ≤ l' → l' ≤ 1048576 → Calls Tryz.prog 44 #[fnV xs[i] vp vb, .int .i64 l'] w fun e w' => e = .returned (.int .i64 (less l' (fnN xs[i]))) ∧ Below w.heap.size w w') := ⟨fun w h l' a b => szFn _ vp vb l' w h a b⟩
    have H2 : Kp (fnsN (xs.take (i + 1)) = fnsN (xs.take i) + fnN xs[i]) := ⟨hs⟩
    by_cases hlt2 : l - xs.length - fnsN (xs.take i) < fnN xs[i]
    ·have e1 : less (l - xs.length - fnsN (xs.take i)) (fnN xs[i]) = -1 := by unfold less; rw [if_pos hlt2]
     have e : Kp (less l (xs.length + fnsN xs) = -1) := ⟨by unfold less; rw [if_pos (by omega)]⟩
     clear hs htk H2 hc
     generalize fnsN (xs.take i) = T at *
     exact tl24
    ·have e1 : less (l - xs.length - fnsN (xs.take i)) (fnN xs[i]) = l - xs.length - fnsN (xs.take (i + 1)) := by unfold less; rw [if_neg hlt2]; omega
     have q2 : ¬ l - xs.length - fnsN (xs.take (i + 1)) < 0 := by omega
     have q3 : fnsN (xs.take (i + 1)) ≤ l - xs.length := by omega
     clear hs htk H2 hc hlt2
     have C1 : Kp _ := ⟨C.out wr hv (l - xs.length - fnsN (xs.take i)) (by omega) (by omega)⟩
     rw [e1] at C1
     clear e1 C nn
     generalize hT2 : fnsN (xs.take (i + 1)) = T2 at *
     generalize fnsN (xs.take i) = T at *
     exact tl20
   ·have e0 : i = xs.length := by omega
    have et : fnsN (xs.take i) = fnsN xs := by rw [e0, List.take_length]
    have e : Kp (less l (xs.length + fnsN xs) = l - xs.length - fnsN xs) := ⟨by unfold less; rw [if_neg (by omega)]; omega⟩
    exact tl87
end Go.Proofs.YtgdcgjlmkmdklaaGreatDoor

namespace Go.Proofs.YtgdcgjlmkmdklaaGreatDoor
open Go.ChangeShapes Go.WideShapes Go.ChangeAt Go.RowKit
set_option linter.unusedVariables false
set_option linter.unusedSimpArgs false
theorem glsN_of (xs : List GlD) : (∀ i (h : i < xs.length), glN xs[i] ≤ glsN xs) ∧ 0 ≤ glsN xs := ⟨fun i h => by
 have e1 := glsN_snoc xs i h
 have e2 := glsN_le xs (i + 1)
 have e3 := glsN_nn (xs.take i)
 omega, glsN_nn xs⟩
theorem fnsN_of (xs : List FnD) : (∀ i (h : i < xs.length), fnN xs[i] ≤ fnsN xs) ∧ 0 ≤ fnsN xs := ⟨fun i h => by
 have e1 := fnsN_snoc xs i h
 have e2 := fnsN_le xs (i + 1)
 have e3 := fnsN_nn (xs.take i)
 omega, fnsN_nn xs⟩
abbrev W5 (w : World) (B i : Nat) (x0 x1 x2 x3 x4 : Value) : World := (((((w.setCell ⟨B, i, none⟩ x0).setCell ⟨B, i + 1, none⟩ x1).setCell ⟨B, i + 2, none⟩ x2).setCell ⟨B, i + 3, none⟩ x3).setCell ⟨B, i + 4, none⟩ x4)
theorem put5i {w : World} {B n i : Nat} (h : Rw w B n) (hi : i + 4 < n) (x0 x1 x2 x3 x4 : Value) :
  (At (W5 w B i x0 x1 x2 x3 x4) B i x0 ∧ At (W5 w B i x0 x1 x2 x3 x4) B (i + 1) x1 ∧ At (W5 w B i x0 x1 x2 x3 x4) B (i + 2) x2 ∧ At (W5 w B i x0 x1 x2 x3 x4) B (i + 3) x3 ∧ At (W5 w B i x0 x1 x2 x3 x4) B (i + 4) x4) ∧ Rw (W5 w B i x0 x1 x2 x3 x4) B n ∧ ∀ b o v, At w b o v → (b ≠ B ∨ o < i ∨ i + 4 < o) → At (W5 w B i x0 x1 x2 x3 x4) b o v := by
 have h0 := h.set i x0
 have h1 := h0.set (i + 1) x1
 have h2 := h1.set (i + 2) x2
 have h3 := h2.set (i + 3) x3
 refine ⟨⟨?_, ?_, ?_, ?_, ?_⟩, h3.set _ _, fun b o v q hn => ?_⟩
 ·exact set_other (set_other (set_other (set_other (set_same h (by omega) _) (by omega)) (by omega)) (by omega)) (by omega)
 ·exact set_other (set_other (set_other (set_same h0 (by omega) _) (by omega)) (by omega)) (by omega)
 ·exact set_other (set_other (set_same h1 (by omega) _) (by omega)) (by omega)
 ·exact set_other (set_same h2 (by omega) _) (by omega)
 ·exact set_same h3 (by omega) _
 ·exact set_other (set_other (set_other (set_other (set_other q (by omega)) (by omega)) (by omega)) (by omega)) (by omega)
set_option maxRecDepth 100000 in
set_option maxHeartbeats 2000000 in
theorem toBytes (v : Value) (xs : List Int) (w : World) {lo : Nat} (h : Ints lo .u8 w v xs) (hn : xs.length ≤ 1048576) :
  Calls Tryz.prog 93 #[v] w fun e w' => ∃ v', e = .returned v' ∧ Ints w.heap.size .u8 w' v' xs ∧ Below w.heap.size w w' ∧ Unf w.heap.size w' := by
 obtain ⟨b, o, ⟨⟨a, cap, rfl, h1, h2⟩, h3⟩, -, hc⟩ := h.ex
 have g1 : (xs.length : Int) ≤ 1048576 := by omega
 obtain ⟨O, hmk, hrw⟩ := mk_row 74 5 (.int .u8 0) 1 1 Tryz.underlying74 (by kernel_rfl) xs.length (by omega) (by omega)
 have HR : Kp (∀ W : World, Rw (W.alloc O) W.heap.size (xs.length * 1)) := ⟨hrw⟩
 clear hrw
 go_enter Tryz.func93, Tryz.ntmps93
 go_wp2_with fail
 go_loopw [4] (fun s wr => ∃ i : Nat, i ≤ xs.length ∧ s = .int .i64 i ∧ Below w.heap.size w wr ∧ Unf w.heap.size wr ∧ Rw wr w.heap.size (xs.length * 1) ∧ ∀ j (hj : j < xs.length), j < i → At wr w.heap.size j (.int .u8 xs[j])) (fun s _ => xs.length - (intOf s).toNat)
 case atStart => exact ⟨0, Nat.zero_le _, rfl, bel_alloc _ _, Unf.new (HR.out w), HR.out w, fun j _ hj => absurd hj (Nat.not_lt_zero _)⟩
 case round =>
  exact tl15
set_option maxRecDepth 100000 in
set_option maxHeartbeats 2000000 in
theorem toGl (d : GlD) (vb : Value) (w : World) {lo : Nat} (h : Ints lo .u8 w vb d.bytes) (hn : glN d ≤ 1048576) :
  Calls Tryz.prog 51 #[glV d vb] w fun e w' => ∃ vb', e = .returned (glV d vb') ∧ Ints w.heap.size .u8 w' vb' d.bytes ∧ Below w.heap.size w w' ∧ Unf w.heap.size w' := by
 unfold glN at hn
 obtain ⟨name, link, fx, size, bytes⟩ := d
 dsimp only [glV] at *
 have n1 : bytes.length ≤ 1048576 := by omega
 obtain ⟨a0, k0, rfl⟩ := h.shape
 have HA : Kp (∀ W, Below w.heap.size w W → Ints lo .u8 W (.slice a0 bytes.length k0) bytes) := ⟨fun W q => h.keep q⟩
 clear h hn
 go_enter Tryz.func51, Tryz.ntmps51
 go_wp2_with fail
 obtain ⟨W0, hW⟩ : ∃ W0 : World, W0 = (((w.alloc (Obj.cells #[.string name, .int .i64 link, .bool fx, .int .i64 size, .slice a0 bytes.length k0] 90)).alloc (Obj.cells #[.string (ByteArray.mk #[]), .int .i64 0, .bool false, .int .i64 0, .slice none 0 0] 77)).alloc (Obj.cells #[.string name, .int .i64 link, .bool fx, .int .i64 size, .slice none 0 0] 77)) := ⟨_, rfl⟩
 rw [← hW]
 obtain ⟨B0, z0, r1, r2, u0, hx, hz⟩ := three w _ _ _ _ _ _ hW
 have p0 : At W0 (w.heap.size + 1 + 1) 0 (.string name) := hz _ _ rfl
 have p1 : At W0 (w.heap.size + 1 + 1) 1 (.int .i64 link) := hz _ _ rfl
 have p2 : At W0 (w.heap.size + 1 + 1) 2 (.bool fx) := hz _ _ rfl
 have p3 : At W0 (w.heap.size + 1 + 1) 3 (.int .i64 size) := hz _ _ rfl
 clear hW hx hz
 refine (toBytes _ bytes W0 (HA.out _ B0) n1).mono ?_
 rintro e w1 ⟨v', rfl, hA, hb1, hu1⟩
 have U1 := Kp.mk (u0.call hb1 hu1)
 clear u0 hu1
 rw [z0] at hA
 obtain ⟨a1, k1, rfl⟩ := hA.shape
 have q1 : Rw w1 (w.heap.size + 1) 5 := r1.keep hb1
 have q2 : Rw w1 (w.heap.size + 1 + 1) 5 := r2.keep hb1
 have o0 := at_keep p0 hb1
 have o1 := at_keep p1 hb1
 have o2 := at_keep p2 hb1
 have o3 := at_keep p3 hb1
 have B1 := Kp.mk (bel_trans B0 hb1)
 have HA1 := Kp.mk hA
 obtain ⟨_, c4, f4⟩ := q2.at (j := 4) (by omega)
 obtain ⟨_, d0, g0⟩ := q1.at (j := 0) (by omega)
 obtain ⟨_, d1, g1⟩ := q1.at (j := 1) (by omega)
 obtain ⟨_, d2, g2⟩ := q1.at (j := 2) (by omega)
 obtain ⟨_, d3, g3⟩ := q1.at (j := 3) (by omega)
 obtain ⟨_, d4, g4⟩ := q1.at (j := 4) (by omega)
 clear hA r1 r2 z0 B0 hb1 HA p0 p1 p2 p3
 go_wp2_with fail
 have l2 : w.heap.size ≤ w.heap.size + 1 + 1 := by omega
 have l1 : w.heap.size ≤ w.heap.size + 1 := by omega
 have P := put5 (q1.sets (w.heap.size + 1 + 1) 4 (.slice a1 bytes.length k1)) (by omega) (.string name) (.int .i64 link) (.bool fx) (.int .i64 size) (.slice a1 bytes.length k1)
 have K5 : Keeps (w.heap.size + 1 + 1 + 1) w1 (w1.setCell ⟨w.heap.size + 1 + 1, 4, none⟩ (.slice a1 bytes.length k1)) := keeps_set (by omega)
 have PZ := bel_set (k := 4) (bel_set (k := 3) (bel_set (k := 2) (bel_set (k := 1) (bel_set (k := 0) (bel_set (k := 4) B1.out l2 (.slice a1 bytes.length k1)) l1 (.string name)) l1 (.int .i64 link)) l1 (.bool fx)) l1 (.int .i64 size)) l1 (.slice a1 bytes.length k1)
 refine bodyPost_ret (v := .agg #[.string name, .int .i64 link, .bool fx, .int .i64 size, .slice a1 bytes.length k1]) ?_ rfl ⟨_, rfl, HA1.out.mono (by omega) (K5.trans (fun b o v l q => P b o v q (by omega))), PZ, (((((U1.out.set _ _ _).set _ _ _).set _ _ _).set _ _ _).set _ _ _).set _ _ _⟩
 clear PZ K5 P B1 HA1 U1 o0 o1 o2 o3 f4 q2
 simp [results, Tryz.results51, go_sem, d0, d1, d2, d3, d4]
set_option maxRecDepth 100000 in
set_option maxHeartbeats 2000000 in
theorem toGls (v : Value) (xs : List GlD) (w : World) {lo : Nat} (h : Gls lo w v xs) (hn : xs.length + glsN xs ≤ 1048576) :
  Calls Tryz.prog 21 #[v] w fun e w' => ∃ v', e = .returned v' ∧ Gls w.heap.size w' v' xs ∧ Below w.heap.size w w' ∧ Unf w.heap.size w' := by
 obtain ⟨b, o, ⟨⟨a, cap, rfl, h1, h2⟩, h3⟩, -, hc⟩ := h.ex
 have Hn := glsN_of xs
 have hnn := Hn.2
 have hN : Kp (∀ i (h : i < xs.length), glN xs[i] ≤ 1048576) := ⟨fun i h => by have := Hn.1 i h; omega⟩
 have g1 : (xs.length : Int) ≤ 1048576 := by omega
 clear Hn hn hnn
 obtain ⟨O, hmk, hrw⟩ := mk_row 30 77 (.agg #[.string (ByteArray.mk #[]), .int .i64 0, .bool false, .int .i64 0, .slice none 0 0]) 5 64 Tryz.underlying30 (by kernel_rfl) xs.length (by omega) (by omega)
 have HR : Kp (∀ W : World, Rw (W.alloc O) W.heap.size (xs.length * 5)) := ⟨hrw⟩
 clear hrw
 go_enter Tryz.func21, Tryz.ntmps21
 go_wp2_with fail
 go_loopw [4] (fun s wr => ∃ i : Nat, i ≤ xs.length ∧ s = .int .i64 i ∧ Below w.heap.size w wr ∧ Unf w.heap.size wr ∧ Rw wr w.heap.size (xs.length * 5) ∧ ∀ j (hj : j < xs.length), j < i → ∃ vb, GlAt (w.heap.size + 1) wr w.heap.size (j * 5) xs[j] vb) (fun s _ => xs.length - (intOf s).toNat)
 case atStart => exact ⟨0, Nat.zero_le _, rfl, bel_alloc _ _, Unf.new (HR.out w), HR.out w, fun j _ hj => absurd hj (Nat.not_lt_zero _)⟩
 case round =>
  obtain ⟨i, hi, rfl, hB, hU, hR, hd⟩ := hrel
  have HD : Kp _ := ⟨hd⟩
  clear hd
  by_cases hlt : i < xs.length
  ·have ha := h2 (by omega)
   subst ha
   obtain ⟨vb, hq⟩ := hc i hlt
   have hl := Kp.mk hlt
   have nd := hN.out i hlt
   obtain ⟨d, hd⟩ : ∃ d, Kp (xs[i] = d) := ⟨_, ⟨rfl⟩⟩
   have hq := hq.keep hB
   rw [hd.out] at hq nd
   obtain ⟨hnm, c0, c1, c2, c3, c4, hv⟩ := hq
   have HNM := Kp.mk hnm
   clear hnm
   obtain ⟨a1, k1, rfl⟩ := hv.shape
   have hV := Kp.mk (toGl d _ wr hv nd)
   clear hc hv nd
   go_wp2_with fail
   refine hV.out.mono ?_
   rintro e w1 ⟨vb', rfl, hv, hb1, hu1⟩
   have hU1 := hU.call hb1 hu1
   obtain ⟨a1', k1', rfl⟩ := hv.shape
   have HV := Kp.mk hv
   have hR1 := hR.keep hb1
   clear hv hV c0 c1 c2 c3 c4
   obtain ⟨_, z0, f0⟩ := hR1.at (j := i * 5) (by omega)
   obtain ⟨_, z1, f1⟩ := hR1.at (j := i * 5 + 1) (by omega)
   obtain ⟨_, z2, f2⟩ := hR1.at (j := i * 5 + 2) (by omega)
   obtain ⟨_, z3, f3⟩ := hR1.at (j := i * 5 + 3) (by omega)
   obtain ⟨_, z4, f4⟩ := hR1.at (j := i * 5 + 4) (by omega)
   go_wp2_with fail
   have P := put5i hR1 (i := i * 5) (by omega) (.string d.name) (.int .i64 d.link) (.bool d.fx) (.int .i64 d.size) (.slice a1' d.bytes.length k1')
   have hlr := hR.lt
   refine ⟨⟨i + 1, by omega, by go_num, ?_, ((((hU1.set _ _ _).set _ _ _).set _ _ _).set _ _ _).set _ _ _, P.2.1, fun j hj hji => ?_⟩, by simp [intOf]; omega⟩
   ·exact tl109
   ·by_cases e : j = i
    ·subst e
     rw [hd.out]
     obtain ⟨p0, p1, p2, p3, p4⟩ := P.1
     exact ⟨_, HNM.out, p0, p1, p2, p3, p4, HV.out.mono (by omega) (fun b o v l q => P.2.2 b o v q (by omega))⟩
    ·obtain ⟨vb, q⟩ := HD.out j hj (by omega)
     have q := q.keep hb1
     exact ⟨_, q.n, P.2.2 _ _ _ q.c0 (by omega), P.2.2 _ _ _ q.c1 (by omega), P.2.2 _ _ _ q.c2 (by omega), P.2.2 _ _ _ q.c3 (by omega), P.2.2 _ _ _ q.c4 (by omega), q.y.mono (Nat.le_refl _) (fun b o v l q => P.2.2 b o v q (by omega))⟩
  ·clear h2 hc hmk
   go_wp2_with fail
   go_ret
   exact ⟨_, rfl, ⟨w.heap.size, 0, ⟨⟨_, _, rfl, Nat.le_refl _, fun _ => rfl⟩, h3⟩, Nat.le_refl _, fun j hj => by
    rw [Nat.zero_add]
    obtain ⟨vb, q⟩ := HD.out j hj (by omega)
    exact ⟨vb, q.n, q.c0, q.c1, q.c2, q.c3, q.c4, q.y.mono (by omega) (fun _ _ _ _ h => h)⟩⟩, hB, hU⟩
set_option maxRecDepth 100000 in
set_option maxHeartbeats 2000000 in
theorem toFns (v : Value) (xs : List FnD) (w : World) {lo : Nat} (h : Fns lo w v xs) (hn : xs.length + fnsN xs ≤ 1048576) :
  Calls Tryz.prog 22 #[v] w fun e w' => ∃ v', e = .returned v' ∧ Fns w.heap.size w' v' xs ∧ Below w.heap.size w w' ∧ Unf w.heap.size w' := by
 obtain ⟨b, o, ⟨⟨a, cap, rfl, h1, h2⟩, h3⟩, -, hc⟩ := h.ex
 have Hn := fnsN_of xs
 have hnn := Hn.2
 have hN : Kp (∀ i (h : i < xs.length), fnN xs[i] ≤ 1048576) := ⟨fun i h => by have := Hn.1 i h; omega⟩
 have g1 : (xs.length : Int) ≤ 1048576 := by omega
 clear Hn hn hnn
 obtain ⟨O, hmk, hrw⟩ := mk_row 31 53 (.agg #[.string (ByteArray.mk #[]), .int .i64 0, .slice none 0 0, .int .i64 0, .slice none 0 0]) 5 80 Tryz.underlying31 (by kernel_rfl) xs.length (by omega) (by omega)
 have HR : Kp (∀ W : World, Rw (W.alloc O) W.heap.size (xs.length * 5)) := ⟨hrw⟩
 clear hrw
 go_enter Tryz.func22, Tryz.ntmps22
 go_wp2_with fail
 go_loopw [4] (fun s wr => ∃ i : Nat, i ≤ xs.length ∧ s = .int .i64 i ∧ Below w.heap.size w wr ∧ Unf w.heap.size wr ∧ Rw wr w.heap.size (xs.length * 5) ∧ ∀ j (hj : j < xs.length), j < i → ∃ vp vb, FcAt (w.heap.size + 1) wr w.heap.size (j * 5) xs[j] vp vb) (fun s _ => xs.length - (intOf s).toNat)
 case atStart => exact ⟨0, Nat.zero_le _, rfl, bel_alloc _ _, Unf.new (HR.out w), HR.out w, fun j _ hj => absurd hj (Nat.not_lt_zero _)⟩
 case round =>
  obtain ⟨i, hi, rfl, hB, hU, hR, hd⟩ := hrel
  have HD : Kp _ := ⟨hd⟩
  clear hd
  by_cases hlt : i < xs.length
  ·have ha := h2 (by omega)
   subst ha
   obtain ⟨vp, vb, hq⟩ := hc i hlt
   have hl := Kp.mk hlt
   have nd := hN.out i hlt
   obtain ⟨d, hd⟩ : ∃ d, Kp (xs[i] = d) := ⟨_, ⟨rfl⟩⟩
   have hq := hq.keep hB
   rw [hd.out] at hq nd
   obtain ⟨c0, c1, c2, c3, c4, hv⟩ := hq
   obtain ⟨a1, k1, rfl⟩ := hv.p.shape
   obtain ⟨a2, k2, rfl⟩ := hv.b.shape
   have hV := Kp.mk (toFn d _ _ wr hv nd)
   clear hc hv nd
   go_wp2_with fail
   refine hV.out.mono ?_
   rintro e w1 ⟨vp', vb', rfl, hv, hb1, hu1⟩
   have hU1 := hU.call hb1 hu1
   obtain ⟨a1', k1', rfl⟩ := hv.p.shape
   obtain ⟨a2', k2', rfl⟩ := hv.b.shape
   have HV := Kp.mk hv
   have hR1 := hR.keep hb1
   clear hv hV c0 c1 c2 c3 c4
   obtain ⟨_, z0, f0⟩ := hR1.at (j := i * 5) (by omega)
   obtain ⟨_, z1, f1⟩ := hR1.at (j := i * 5 + 1) (by omega)
   obtain ⟨_, z2, f2⟩ := hR1.at (j := i * 5 + 2) (by omega)
   obtain ⟨_, z3, f3⟩ := hR1.at (j := i * 5 + 3) (by omega)
   obtain ⟨_, z4, f4⟩ := hR1.at (j := i * 5 + 4) (by omega)
   go_wp2_with fail
   have P := put5i hR1 (i := i * 5) (by omega) (.string d.name) (.int .i64 d.link) (.slice a1' d.params.length k1') (.int .i64 d.res) (.slice a2' d.blocks.length k2')
   have hlr := hR.lt
   refine ⟨⟨i + 1, by omega, by go_num, ?_, ((((hU1.set _ _ _).set _ _ _).set _ _ _).set _ _ _).set _ _ _, P.2.1, fun j hj hji => ?_⟩, by simp [intOf]; omega⟩
   ·exact tl109
   ·by_cases e : j = i
    ·subst e
     rw [hd.out]
     obtain ⟨p0, p1, p2, p3, p4⟩ := P.1
     exact ⟨_, _, p0, p1, p2, p3, p4, HV.out.mono (by omega) (fun b o v l q => P.2.2 b o v q (by omega))⟩
    ·obtain ⟨vp, vb, q⟩ := HD.out j hj (by omega)
     have q := q.keep hb1
     exact ⟨_, _, P.2.2 _ _ _ q.c0 (by omega), P.2.2 _ _ _ q.c1 (by omega), P.2.2 _ _ _ q.c2 (by omega), P.2.2 _ _ _ q.c3 (by omega), P.2.2 _ _ _ q.c4 (by omega), q.f.mono (Nat.le_refl _) (fun b o v l q => P.2.2 b o v q (by omega))⟩
  ·clear h2 hc hmk
   go_wp2_with fail
   go_ret
   exact ⟨_, rfl, ⟨w.heap.size, 0, ⟨⟨_, _, rfl, Nat.le_refl _, fun _ => rfl⟩, h3⟩, Nat.le_refl _, fun j hj => by
    rw [Nat.zero_add]
    obtain ⟨vp, vb, q⟩ := HD.out j hj (by omega)
    exact ⟨vp, vb, q.c0, q.c1, q.c2, q.c3, q.c4, q.f.mono (by omega) (fun _ _ _ _ h => h)⟩⟩, hB, hU⟩
end Go.Proofs.YtgdcgjlmkmdklaaGreatDoor
