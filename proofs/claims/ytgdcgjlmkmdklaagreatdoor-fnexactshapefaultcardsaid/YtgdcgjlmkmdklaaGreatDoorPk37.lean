/- Texts of one claim. -/
import Derived.Test.YtgdcgjlmkmdklaaGreatDoorPk0
import Derived.Test.YtgdcgjlmkmdklaaGreatDoorPk25
import Derived.Test.YtgdcgjlmkmdklaaGreatDoorPk36
namespace Go.Proofs.YtgdcgjlmkmdklaaGreatDoor
open Go.ChangeShapes Go.WideShapes Go.ChangeAt Go.RowKit
attribute [local go_sem] Oper.semAt_some
set_option linter.unusedVariables false
set_option linter.unusedSimpArgs false
def tysL : List ItD → List Int
 | [] => []
 | y :: r => if y.d.ty = 0 then tysL r else y.d.ty :: tysL r
theorem tysL_trip (L : List ItD) : tysOf (L.map trip) = tysL L := by
 induction L with
 | nil => rfl
 | cons y r ih =>
  simp only [List.map_cons, trip, tysOf, tysL, ih]
theorem tysL_app (a b : List ItD) : tysL (a ++ b) = tysL a ++ tysL b := by
 induction a with
 | nil => rfl
 | cons x r ih =>
  simp only [List.cons_append, tysL, ih]
  split <;> rfl
theorem tysL_take (L : List ItD) (k : Nat) (h : k < L.length) : tysL (L.take (k + 1)) = tysL (L.take k) ++ (if L[k].d.ty = 0 then [] else [L[k].d.ty]) := by
 rw [List.take_succ_eq_append_getElem h, tysL_app]
 simp only [tysL]
theorem tysL_len (L : List ItD) : (tysL L).length ≤ L.length := by
 induction L with
 | nil => exact Nat.le_refl _
 | cons x r ih =>
  simp only [tysL]
  split <;> simp only [List.length_cons] <;> omega
set_option maxRecDepth 100000 in
set_option maxHeartbeats 2000000 in
theorem valTyI (d : FnD) (vp vb : Value) (w : World) {lo : Nat} (h : FnAt lo w d vp vb) (hn : fnN d ≤ 1048576) :
  Calls Tryz.prog 59 #[fnV d vp vb] w fun e w' => ∃ v, e = .returned v ∧ OwnI w' w.heap.size v (d.params ++ tysOf (blPl 0 d.blocks)) ∧ Below w.heap.size w w' := by
 unfold fnN at hn
 obtain ⟨name, link, params, res, blocks⟩ := d
 obtain ⟨-, hp, hb⟩ := h
 dsimp only [fnV] at *
 have nn := blsN_nn blocks
 obtain ⟨a1, k1, rfl⟩ := hp.shape
 obtain ⟨Y, hY, hYd, hYi⟩ := itBls_of hb
 obtain ⟨a2, k2, rfl⟩ := hb.shape
 have hpl : blPl 0 blocks = Y.flatten.map trip := by
  rw [← hYd]
  exact blPl_trip Y 0 (fun k hk j hj => by simpa using hY.ix k hk j hj)
 have hbd : params.length + Y.flatten.length ≤ 1099511627776 := by
  have := blPl_len 0 blocks
  rw [hpl, List.length_map] at this
  omega
 have hp1 : params.length ≤ 1048576 := by omega
 rw [hpl, tysL_trip]
 clear hYd hYi hb hpl nn hn
 replace hY := Kp.mk hY
 replace hp := Kp.mk hp
 have C0 : Kp (∀ w, CallsIn Fence.wide 11 Tryz.prog _ _ w _) := ⟨fun w => callsIn_wide.2 (instrsOf_c name link res (.slice a1 params.length k1) (.slice a2 blocks.length k2) ⟨_, _, _, rfl⟩ ⟨_, _, _, rfl⟩ w)⟩
 have C1 : Kp (∀ w, Ints lo .i64 w (.slice a1 params.length k1) params → CallsIn Fence.wide 11 Tryz.prog _ _ w _) := ⟨fun w h => callsIn_wide.2 (cloneI (.slice a1 params.length k1) params w h hp1)⟩
 refine (callsIn_wide (n := 12)).1 ?_
 refine callsIn_of_wp_marks Tryz.func59 rfl trivial ?_ rfl
 simp only [Tryz.ntmps59, List.size_toArray, List.length_cons, List.length_nil, Nat.reduceAdd, Nat.reduceSub, Array.replicate_succ, Array.replicate_zero, List.push_toArray, List.append_toArray, List.nil_append, List.cons_append]
 obtain ⟨i0, hi0, hz0, hz1, hz2⟩ := info_parts info64
 gi_wp2
 refine ⟨trivial, ?_⟩
 refine (C1.out _ (hp.out.keep (bel_alloc _ _))).mono ?_
 rintro e w1 ⟨v, rfl, hown, hB1⟩
 obtain ⟨F, hF⟩ : ∃ F, F = Go.Obj.cells #[.string name, .int .i64 link, .slice a1 params.length k1, .int .i64 res, .slice a2 blocks.length k2] 53 (0, 0) := ⟨_, rfl⟩
 have hBw : Below w.heap.size w w1 := bel_trans (bel_alloc w _) hB1
 have hsz1 : w.heap.size + 1 ≤ w1.heap.size := by have := hB1.size; simpa using this
 rw [World.size_alloc] at hown
 obtain ⟨av, cv, rfl⟩ : ∃ a c, v = .slice a params.length c := by
  rcases hown.2 with ⟨rfl, h0⟩ | ⟨g, cap, cur, rfl, _⟩
  ·exact ⟨none, 0, by rw [h0]⟩
  ·exact ⟨_, _, rfl⟩
 have hx : (w1.alloc (Go.Obj.cells #[.slice av params.length cv] 50)).heap[w.heap.size]? = some F := by rw [hF]; exact keep_cells (keep_cells (new_cells w _) hB1) (bel_alloc _ _)
 have x0 : (w1.alloc (Go.Obj.cells #[.slice av params.length cv] 50)).cell? ⟨w.heap.size, 0, none⟩ = some (.string name) := at_cells (hx.trans (by rw [hF])) rfl
 have x1 : (w1.alloc (Go.Obj.cells #[.slice av params.length cv] 50)).cell? ⟨w.heap.size, 1, none⟩ = some (.int .i64 link) := at_cells (hx.trans (by rw [hF])) rfl
 have x2 : (w1.alloc (Go.Obj.cells #[.slice av params.length cv] 50)).cell? ⟨w.heap.size, 2, none⟩ = some (.slice a1 params.length k1) := at_cells (hx.trans (by rw [hF])) rfl
 have x3 : (w1.alloc (Go.Obj.cells #[.slice av params.length cv] 50)).cell? ⟨w.heap.size, 3, none⟩ = some (.int .i64 res) := at_cells (hx.trans (by rw [hF])) rfl
 have x4 : (w1.alloc (Go.Obj.cells #[.slice av params.length cv] 50)).cell? ⟨w.heap.size, 4, none⟩ = some (.slice a2 blocks.length k2) := at_cells (hx.trans (by rw [hF])) rfl
 replace hF := Kp.mk hF
 have hrow0 := Joins_le hown
 clear hown hB1
 gi_wp2
 refine ⟨trivial, ?_⟩
 refine (C0.out _).mono ?_
 rintro e w' ⟨rfl, rfl⟩
 have bT := (Boxed.new w1 50 (.slice av params.length cv))
 obtain ⟨W4, hW4⟩ : ∃ W4, W4 = (w1.alloc (Go.Obj.cells #[.slice av params.length cv] 50)).alloc (Go.Obj.cells #[.string name, .int .i64 link, .slice a1 params.length k1, .int .i64 res, .slice a2 blocks.length k2] 53) := ⟨_, rfl⟩
 have hB4 : Below w1.heap.size w1 W4 := by rw [hW4]; exact bel_trans (bel_alloc _ _) (bel_alloc _ _)
 have hBw4 : Below w.heap.size w W4 := bel_trans hBw hB4
 have bT4 : Boxed W4 w1.heap.size 50 (.slice av params.length cv) := by rw [hW4]; exact bT.alloc _
 have hr4 : W4.ownsRow w.heap.size 2 1 (.slice av params.length cv) params.length (params.map (Value.int .i64)) := by rw [hW4]; exact (hrow0.alloc _).alloc _
 have hz4 : W4.heap.size = w1.heap.size + 1 + 1 := by rw [hW4]; simp
 have hf4 : At W4 (w1.heap.size + 1) 4 (.slice a2 blocks.length k2) := by
  rw [hW4]
  have := new_cells (w1.alloc (Go.Obj.cells #[.slice av params.length cv] 50)) (Go.Obj.cells #[.string name, .int .i64 link, .slice a1 params.length k1, .int .i64 res, .slice a2 blocks.length k2] 53)
  rw [World.size_alloc] at this
  exact at_cells this rfl
 have hY4 : ItBls w.heap.size W4 (.slice a2 blocks.length k2) Y := hY.out.kq (Kq.below (S := fun k => k < w.heap.size) hBw4 (fun _ h => h)) (fun _ h => h)
 clear hx x0 x1 x2 x3 x4 hrow0 bT
 gi_wp2
 rw [← hW4]
 clear hW4 C0 C1
 refine wpIn_rangeFunc_ownH rfl (by decide) (gf := 138) (lb := #[.pointer (some ⟨w1.heap.size + 1, 0, none⟩)]) rfl trivial (enters_of Tryz.func138 (by kernel_rfl) rfl)
  (instrs_stops Fence.wide (12 - 1) trivial rfl (by decide) w.heap.size (w1.heap.size + 1) W4 _ Y hY4 hf4 (by omega)) belowK_t (belowK_b (by omega)) (Below.refl _ _) (fun _ => rfl)
  (fun pre W => (∃ v, Boxed W w1.heap.size 50 v ∧ W.ownsRow w.heap.size 2 1 v (params ++ tysL (pre.map (·.1))).length ((params ++ tysL (pre.map (·.1))).map (Value.int .i64)) ∧ True) ∧ Below w.heap.size w W)
  (fun _ _ _ => False)
  (OwnFrom.and (Own.from (holdsRow_own w.heap.size w1.heap.size 50 2 1 (fun (pre : List {y : ItD // y ∈ Y.flatten}) => (params ++ tysL (pre.map (·.1))).length) (fun pre => (params ++ tysL (pre.map (·.1))).map (Value.int .i64)) (fun pre v => True)) _) (ownFrom_below (by omega) (by omega)))
  (fun _ _ _ _ _ hs _ _ => hs)
  ⟨⟨_, bT4, by simpa [tysL] using hr4, trivial⟩, hBw4⟩
  (fun x a' X => ∃ B1, X.heap[B1]? = some (Go.Obj.cells #[.int .i64 x.1.d.op, .int .i64 x.1.d.ty, .int .i64 x.1.d.fl, .int .i64 x.1.d.pr, .int .i64 x.1.d.ca, .int .i64 x.1.d.sz, x.1.va, x.1.vb, x.1.vw] 73 (0, 0)) ∧ ∃ u11 u12,
   a' = { tmps := #[.agg #[.string name, .int .i64 link, .slice a1 params.length k1, .int .i64 res, .slice a2 blocks.length k2], .pointer (some ⟨w.heap.size, 0, none⟩), .slice none 0 0, .pointer (some ⟨w1.heap.size, 0, none⟩), undef, .pointer (some ⟨B1, 0, none⟩), .pointer (some ⟨w.heap.size, 2, none⟩), .slice a1 params.length k1, .slice av params.length cv,
    .agg #[.string name, .int .i64 link, .slice a1 params.length k1, .int .i64 res, .slice a2 blocks.length k2], .func (.func 138) #[] #[.pointer (some ⟨w1.heap.size + 1, 0, none⟩)], u11, u12, undef, undef, undef, undef, undef, undef, undef, undef, undef], defers := [] }) ?hAx ?assign ?body ?done ?stop
 case assign =>
  intro lr pre x X K hi hK
  obtain ⟨⟨yb, yi, d, va, vb, vw⟩, hy⟩ := x
  obtain ⟨⟨p1, m1, g1, q1⟩, ⟨p2, m2, g2, q2⟩, ⟨p3, m3, g3, q3⟩⟩ := hY4.sh hy
  dsimp only at q1 q2 q3 hK
  subst q1 q2 q3
  simp only [itE, List.zip_toArray, List.zip_cons_cons, List.zip_nil_right, List.foldl_toArray', List.foldl_cons, List.foldl_nil, List.setIfInBounds_toArray, List.set_cons_succ, List.set_cons_zero, Array.zip, List.toList_toArray]
  gi_wp2
  have hg := World.grownBy_alloc X (Go.Obj.cells #[.int .i64 d.op, .int .i64 d.ty, .int .i64 d.fl, .int .i64 d.pr, .int .i64 d.ca, .int .i64 d.sz, .slice p1 m1 g1, .slice p2 m2 g2, .slice p3 m3 g3] 73) none
  have hX : w.heap.size ≤ X.heap.size := by have := hi.2.size; have := hBw4.size; omega
  exact hK _ _ (KeepsFrom.of_grownBy hg (fun j e => by cases e)) ((bel_alloc _ _).mono hX) ⟨by
   obtain ⟨⟨v, q1, q2, q3⟩, -⟩ := hi
   exact ⟨v, q1.alloc _, q2.alloc _, q3⟩, hi.2.trans ((bel_alloc _ _).mono hX)⟩ ⟨X.heap.size, new_cells _ _, _, _, rfl⟩
 case hAx =>
  rintro x a' u A E row ⟨B1, p1, p3⟩ hg hr
  refine ⟨B1, (hg.block B1 (Array.getElem?_eq_some_iff.1 p1).1 (fun e => ?_)).trans p1, p3⟩
  exact tl111
 case body =>
  rintro lr pre x a' X hl - ⟨⟨v, hv, hrow, -⟩, hB⟩ ⟨B1, p1, u11, u12, rfl⟩ hlt
  have hc := hv.cell
  have hf := hv.frozen
  have hlen : (params ++ tysL (pre.map (·.1))).length ≤ 1099511627776 := by
   have := tysL_len (pre.map (·.1))
   rw [List.length_map] at this
   rw [List.length_append]
   omega
  have hp1 : X.cell? ⟨B1, 1, none⟩ = some (.int .i64 x.1.d.ty) := at_cells p1 rfl
  obtain ⟨A, hA⟩ : ∃ A, A = params ++ tysL (pre.map (·.1)) := ⟨_, rfl⟩
  have hA2 : params ++ tysL ((pre ++ [x]).map (·.1)) = if x.1.d.ty = 0 then A else A ++ [x.1.d.ty] := by
   rw [List.map_append, tysL_app, hA]
   by_cases q : x.1.d.ty = 0 <;> simp [tysL, q]
  rw [← hA] at hrow hlen
  clear hA
  obtain ⟨t, ht⟩ : ∃ t, x.1.d.ty = t := ⟨_, rfl⟩
  rw [ht] at hp1 hA2
  clear ht p1
  have hX : w.heap.size ≤ X.heap.size := by have := hB.size; have := hBw4.size; omega
  by_cases ht0 : t = 0
  ·subst ht0
   rw [if_pos rfl] at hA2
   replace hA2 := Kp.mk hA2
   gi_wp2
   exact ⟨KeepsFrom.refl _ _, Below.refl _ _, ⟨v, hv, by rw [hA2.out]; exact hrow, trivial⟩, hB⟩
  ·have tb : (t != 0) = true := bne_iff_ne.2 ht0
   rw [if_neg ht0] at hA2
   replace hA2 := Kp.mk hA2
   gi_wp2_with (gi_at_builtin; refine wpListIn_append_own _ rfl _ _ 50 rfl w.heap.size 2 i0 (.int .i64 0) 1 8 Tryz.underlying50 hi0 hz0 hz1 hz2 rfl (by decide) _ _ _ rfl (hrow.alloc _) ⟨X.heap.size, 0, none⟩ 1 1 [.int .i64 t] rfl rfl (cell_one_new _ _ _) (by simp [Value.oneCell']) (by unfold maxLen; omega) (by omega) (by simp; omega) ?_; intro v' w2 hown' hgrow _; obtain ⟨g', cap', rfl⟩ := ownsRow_succ hown'; obtain ⟨hv1, hv2, hr2, hk2, hb2⟩ := hv.appended (by decide) hrow hX (by omega) hown' hgrow; have hc1 := hv1.cell; have hf1 := hv1.frozen)
   exact ⟨hk2.from _, hb2, ⟨_, hv2, by rw [hA2.out]; simpa using hr2, trivial⟩, hB.trans hb2⟩
 case done =>
  rintro D xs X hD hxs ⟨⟨v, hv, hrow, -⟩, hB⟩ hK
  rw [hxs] at hrow
  have hc := hv.cell
  replace hrow := Kp.mk hrow
  gi_wp2
  refine ⟨by simp, .inl ⟨_, _, rfl, run_takeDeferred hK, ?_⟩⟩
  exact ⟨_, results_tmp rfl _ _ _, v, rfl, ⟨ownsRow_putObj hrow.out _ hK rfl⟩, hB.trans (belowK_b (w := w) (Nat.le_refl _) X D _ _ (by omega) hK rfl rfl)⟩
 case stop =>
  rintro D c pre X _ _ h _
  exact h.elim
end Go.Proofs.YtgdcgjlmkmdklaaGreatDoor

namespace Go.Proofs.YtgdcgjlmkmdklaaGreatDoor
open Go.ChangeShapes Go.WideShapes Go.ChangeAt Go.RowKit
set_option linter.unusedVariables false
set_option linter.unusedSimpArgs false
theorem tysOf_ne (l : List (Nat × Nat × Int)) : ∀ t ∈ tysOf l, t ≠ 0 := by
 induction l with
 | nil => intro t h; cases h
 | cons x r ih =>
  obtain ⟨p, q, u⟩ := x
  intro t h
  simp only [tysOf] at h
  split at h
  ·exact ih t h
  ·rename_i hu
   rcases List.mem_cons.1 h with rfl | h
   ·exact hu
   ·exact ih t h
theorem tysD_ne {f : FnD} (h : sigB f = true) : ∀ t ∈ tysD f, t ≠ 0 := by
 intro t ht
 unfold tysD at ht
 rcases List.mem_append.1 ht with h1 | h1
 ·unfold sigB at h
  simp only [Bool.and_eq_true] at h
  have := List.all_eq_true.1 h.2.1 t h1
  intro e
  rw [e] at this
  revert this
  decide
 ·exact tysOf_ne _ t h1
theorem inN_le {bs : List (List InD)} {ys : List InD} {x : InD} (h : ys ∈ bs) (hx : x ∈ ys) : inN x ≤ blsN bs := by
 obtain ⟨a, c, rfl⟩ := List.append_of_mem h
 obtain ⟨d, e, rfl⟩ := List.append_of_mem hx
 have h1 := blsN_nn a
 have h2 := blsN_nn c
 have h3 := insN_nn d
 have h4 := insN_nn e
 unfold blsN insN at *
 simp only [List.map_append, List.map_cons, List.sum_append, List.sum_cons, blN, insN, List.length_append, List.length_cons]
 omega
structure BdI (w : World) (R SB : Nat) (sc : Array Value) (av : Option Addr) (ts : List Int) (W : World) : Prop where
 b : Below w.heap.size w W
 r : W.heap[R]? = some (Go.Obj.cells #[.int .i64 0, .int .i64 0, .int .i64 0, .int .i64 0] 28)
 s : W.heap[SB]? = some (Go.Obj.cells sc 105)
 v : ∃ bv ov, (0 < ts.length → av = some ⟨bv, ov, none⟩) ∧ (0 < ts.length → bv ≠ SB) ∧ ∀ i (h : i < ts.length), At W bv (ov + i) (.int .i64 ts[i])
theorem BdI.keep {w : World} {R SB : Nat} {sc : Array Value} {av : Option Addr} {ts : List Int} {W W' : World} (h : BdI w R SB sc av ts W) (hb : Below W.heap.size W W') : BdI w R SB sc av ts W' :=
 ⟨bel_trans h.b hb, kept_at h.r hb, kept_at h.s hb, by
  obtain ⟨bv, ov, e, n, c⟩ := h.v
  exact ⟨bv, ov, e, n, fun i hi => at_keep (c i hi) hb⟩⟩
theorem BdI.set {w : World} {R SB : Nat} {sc ds : Array Value} {av : Option Addr} {ts : List Int} {W : World} (h : BdI w R SB sc av ts W) (i : Nat) (x : Value) (hd : sc.setIfInBounds i x = ds) (hR : R ≠ SB) (hl : w.heap.size ≤ SB) : BdI w R SB ds av ts (W.setCell ⟨SB, i, none⟩ x) :=
 ⟨bel_set h.b hl _, setO h.r _ hR, setI h.s _ hd, by
  obtain ⟨bv, ov, e, n, c⟩ := h.v
  exact ⟨bv, ov, e, n, fun j hj => set_other (c j hj) (.inl (n (by omega)))⟩⟩
set_option maxRecDepth 100000 in
set_option maxHeartbeats 4000000 in
theorem bodI (gs : List GlD) (fs : List FnD) (vg vf : Value) (k : Nat) (w : World) {lo : Nat} (h : MoAt lo w gs fs vg vf) (hk : k < fs.length) (hn : moN gs fs ≤ 1048576) (hbd : MoB gs fs) (hw : Wid w) (hsig : sigB fs[k] = true) :
  Calls Tryz.prog 25 #[.agg #[vg, vf], .int .i64 k] w fun e w' => e = .returned (ftV ((boF gs.length fs (calD fs k) k).getD (0, 0, 0, 0))) ∧ Below w.heap.size w w' := by
 have hsz : fnN fs[k] ≤ 1048576 := by
  exact tl86
 have hfB := hbd.f _ (List.getElem_mem hk)
 have hTN := tysD_ne hsig
 rw [calD_get hk]
 obtain ⟨ag, kg, rfl⟩ := h.g.shape
 obtain ⟨b, o, ⟨⟨af, kf, rfl, s1, s2⟩, s3⟩, -, hc⟩ := h.f.ex
 have g1 : (fs.length : Int) ≤ 140737488355328 := by omega
 obtain rfl := s2 (by omega)
 obtain ⟨vp, vb, hf⟩ := hc k hk
 obtain ⟨W0, hW⟩ : ∃ W0, W0 = (w.alloc (Go.Obj.cells #[.slice ag gs.length kg, .slice (some ⟨b, o, none⟩) fs.length kf] 33)).alloc (Go.Obj.cells #[.int .i64 0, .int .i64 0, .int .i64 0, .int .i64 0] 28) := ⟨_, rfl⟩
 have B0 : Below w.heap.size w W0 := by rw [hW]; exact bel_trans (bel_alloc _ _) (bel_alloc _ _)
 have hz0 : Kp (W0.heap.size = w.heap.size + 1 + 1) := ⟨by rw [hW]; simp⟩
 have mC0 : W0.heap[w.heap.size]? = some (Go.Obj.cells #[.slice ag gs.length kg, .slice (some ⟨b, o, none⟩) fs.length kf] 33) := by rw [hW]; exact kept_at (new_at w _) (bel_alloc _ _)
 have rC0 : W0.heap[w.heap.size + 1]? = some (Go.Obj.cells #[.int .i64 0, .int .i64 0, .int .i64 0, .int .i64 0] 28) := by
  exact tl89
 have hk' : (k : Int) < fs.length := by omega
 generalize hX : fs[k] = X at *
 obtain ⟨name, link, params, res, blocks⟩ := X
 try dsimp only at *
 have hF' := hf.f
 obtain ⟨hnm, hp, hb⟩ := hF'
 obtain ⟨_, _, ⟨⟨ap, kp, rfl, -, -⟩, -⟩, -, -⟩ := hp.ex
 obtain ⟨b4, o4, ⟨⟨ab, kb, rfl, z1, z2⟩, z3⟩, -, hbc⟩ := hb.ex
 try dsimp only at *
 have g4 : (blocks.length : Int) ≤ 140737488355328 := by omega
 have CV : Kp (∀ W, Below W0.heap.size W0 W → Calls Tryz.prog 59 #[.agg #[.string name, .int .i64 link, .slice ap params.length kp, .int .i64 res, .slice ab blocks.length kb]] W fun e w' => ∃ v, e = .returned v ∧ OwnI w' W.heap.size v (params ++ tysOf (blPl 0 blocks)) ∧ Below W.heap.size W w') := ⟨fun W hB => valTyI ⟨name, link, params, res, blocks⟩ _ _ W (hf.f.keep (bel_trans B0 hB)) hsz⟩
 have hTL := tysD_len ⟨name, link, params, res, blocks⟩ hsz
 obtain ⟨ts, hts⟩ : ∃ ts, ts = tysD ⟨name, link, params, res, blocks⟩ := ⟨_, rfl⟩
 rw [show params ++ tysOf (blPl 0 blocks) = tysD ⟨name, link, params, res, blocks⟩ from rfl, ← hts] at CV
 rw [← hts] at hTL hTN
 have BC : Kp (∀ W, Below w.heap.size w W → ∀ j (h : j < blocks.length), ∃ vi, At W b4 (o4 + j) vi ∧ Ins lo W vi (blocks.getD j [])) := ⟨fun W hB j hj => by
  obtain ⟨vi, q, r⟩ := hbc j hj
  rw [show blocks.getD j [] = blocks[j] by simp [List.getD_eq_getElem?_getD, hj]]
  exact ⟨vi, at_keep q hB, r.keep hB⟩⟩
 have BC0 : Kp (∀ j (h : j < blocks.length), ∃ vi, At w b4 (o4 + j) vi ∧ Ins lo w vi (blocks.getD j [])) := ⟨fun j hj => by
  obtain ⟨vi, q, r⟩ := hbc j hj
  rw [show blocks.getD j [] = blocks[j] by simp [List.getD_eq_getElem?_getD, hj]]
  exact ⟨vi, q, r⟩⟩
 have hnb : Kp (∀ j (hj : j < blocks.length), ∀ x ∈ blocks.getD j [], InB x ∧ inN x ≤ 1048576) := ⟨fun j hj x hx => by
  rw [show blocks.getD j [] = blocks[j] by simp [List.getD_eq_getElem?_getD, hj]] at hx
  refine ⟨hfB.b _ (List.getElem_mem hj) x hx, ?_⟩
  have := inN_le (List.getElem_mem hj) hx
  unfold fnN at hsz
  dsimp only at hsz
  omega⟩
 have SK : Kp (∀ W, Below W0.heap.size W0 W → (fun W' => Below W0.heap.size W0 W' ∧ W'.cell? ⟨w.heap.size, 0, none⟩ = some (.slice ag gs.length kg) ∧ W'.cell? ⟨w.heap.size, 1, none⟩ = some (.slice (some ⟨b, o, none⟩) fs.length kf) ∧ W'.cell? ⟨b, o + k * 5, none⟩ = some (.string name) ∧ W'.cell? ⟨b, o + k * 5 + 1, none⟩ = some (.int .i64 link) ∧ W'.cell? ⟨b, o + k * 5 + 2, none⟩ = some (.slice ap params.length kp) ∧ W'.cell? ⟨b, o + k * 5 + 3, none⟩ = some (.int .i64 res) ∧ W'.cell? ⟨b, o + k * 5 + 4, none⟩ = some (.slice ab blocks.length kb)) W) := ⟨fun W hB => have q := hf.keep (bel_trans B0 hB); ⟨hB, cells_at (kept_at mC0 hB) rfl, cells_at (kept_at mC0 hB) rfl, q.c0, q.c1, q.c2, q.c3, q.c4⟩⟩
 have FI : Kp (∀ W (av : Option Addr) (cv : Nat) (bk : Nat) (R' SB : Nat) (sc : Array Value), ts.length ≤ cv → BdI w R' SB sc av ts W → ∀ (hB : bk < blocks.length) (ai : Option Addr) (ki i : Nat), Ins lo W (.slice ai (blocks.getD bk []).length ki) (blocks.getD bk []) → i < (blocks.getD bk []).length → (∀ j, j < i → atF gs.length ts fs ⟨name, link, params, res, blocks⟩ bk (blocks.getD bk []) j = 0) → Calls Tryz.prog 60 #[.agg #[.slice ag gs.length kg, .slice (some ⟨b, o, none⟩) fs.length kf, .string name, .int .i64 link, .slice ap params.length kp, .int .i64 res, .slice ab blocks.length kb, .slice av ts.length cv, .int .i64 bk], .slice ai (blocks.getD bk []).length ki, .int .i64 i] W fun e w' => e = .returned (.int .i64 (atF gs.length ts fs ⟨name, link, params, res, blocks⟩ bk (blocks.getD bk []) i)) ∧ Below W.heap.size W w') := ⟨fun W av cv bk R' SB sc hcv hI hB ai ki i hy hi hprev => by
  have htt : Ints 0 .i64 W (.slice av ts.length cv) ts := by
   obtain ⟨bv, ov, e, n, c⟩ := hI.v
   exact ⟨bv, ov, ⟨⟨av, cv, rfl, hcv, e⟩, by omega⟩, Nat.zero_le _, c⟩
  exact fatI gs fs ts ag (some ⟨b, o, none⟩) ap ab av params blocks kg kf kp kb cv name link res bk ai ki (blocks.getD bk []) i W (h.keep hI.b) htt hy (hw.below hI.b) hi (fun x hx => (hnb.out bk hB x hx).1) (fun x hx => (hnb.out bk hB x hx).2) hTN z3 hprev⟩
 obtain ⟨R, hR⟩ : ∃ R, R = boF gs.length fs ⟨name, link, params, res, blocks⟩ k := ⟨_, rfl⟩
 rw [← hR]
 have RB : Kp (R = firstF (fun j => blF gs.length ts fs ⟨name, link, params, res, blocks⟩ k j (blocks.getD j [])) blocks.length) := ⟨by rw [hR, hts]; rfl⟩
 generalize hPF : (⟨name, link, params, res, blocks⟩ : FnD) = F at *
 replace hPF := Kp.mk hPF
 replace hW := Kp.mk hW
 have zab := Kp.mk z2
 clear z2
 have hTL' := Kp.mk hTL
 have hb0 := (Below.refl W0.heap.size W0).drew
 have IV0 : Kp (∀ W, Below W0.heap.size W0 W → W.heap[w.heap.size + 1]? = some (Go.Obj.cells #[.int .i64 0, .int .i64 0, .int .i64 0, .int .i64 0] 28) ∧ Below w.heap.size w W) := ⟨fun W hB => ⟨kept_at rC0 hB, bel_trans B0 hB⟩⟩
 clear hR hts hX hp hb hbc hf hc s2 hfB hbd hsz hn h mC0 rC0 hsig hTN hnb hw hTL
 go_enter Tryz.func25, Tryz.ntmps25
 go_upto_region 1 with fail
 rw [← hW.out]
 refine wp_region_held_drew (S := fun W' => Below W0.heap.size W0 W' ∧ W'.cell? ⟨w.heap.size, 0, none⟩ = some (.slice ag gs.length kg) ∧ W'.cell? ⟨w.heap.size, 1, none⟩ = some (.slice (some ⟨b, o, none⟩) fs.length kf) ∧ W'.cell? ⟨b, o + k * 5, none⟩ = some (.string name) ∧ W'.cell? ⟨b, o + k * 5 + 1, none⟩ = some (.int .i64 link) ∧ W'.cell? ⟨b, o + k * 5 + 2, none⟩ = some (.slice ap params.length kp) ∧ W'.cell? ⟨b, o + k * 5 + 3, none⟩ = some (.int .i64 res) ∧ W'.cell? ⟨b, o + k * 5 + 4, none⟩ = some (.slice ab blocks.length kb)) (by kernel_rfl) (SK.out _ hb0) (fun hHeld => ?_)
 refine wpAnyH_take (i := 0) (v := .agg #[.slice ag gs.length kg, .slice (some ⟨b, o, none⟩) fs.length kf]) rfl (by kernel_rfl) (by kernel_rfl) (by kernel_rfl) (fun _ _ _ h => h) (Or.inl ⟨by rfl, fun wq hSw => by (try dsimp only at hSw); go_simp⟩) hHeld ?_
 try simp only [Act.put, List.getElem_toArray, List.getElem_cons_succ, List.getElem_cons_zero, List.setIfInBounds_toArray, List.set_cons_zero, List.set_cons_succ]
 refine wpAnyH_take (i := 1) (v := .pointer (some ⟨w.heap.size, 1, none⟩)) rfl (by kernel_rfl) (by kernel_rfl) (by kernel_rfl) (fun _ _ _ h => h) (Or.inl ⟨by rfl, fun wq hSw => by (try dsimp only at hSw); go_simp⟩) hHeld ?_
 try simp only [Act.put, List.getElem_toArray, List.getElem_cons_succ, List.getElem_cons_zero, List.setIfInBounds_toArray, List.set_cons_zero, List.set_cons_succ]
 refine wpAnyH_take (i := 2) (v := .slice (some ⟨b, o, none⟩) fs.length kf) rfl (by kernel_rfl) (by kernel_rfl) (by kernel_rfl) (fun _ _ _ h => h) (Or.inl ⟨by rfl, fun wq hSw => by (try dsimp only at hSw); go_simp⟩) hHeld ?_
 try simp only [Act.put, List.getElem_toArray, List.getElem_cons_succ, List.getElem_cons_zero, List.setIfInBounds_toArray, List.set_cons_zero, List.set_cons_succ]
 refine wpAnyH_take (i := 3) (v := .int .i64 k) rfl (by kernel_rfl) (by kernel_rfl) (by kernel_rfl) (fun _ _ _ h => h) (Or.inl ⟨by rfl, fun wq hSw => by (try dsimp only at hSw); go_simp⟩) hHeld ?_
 try simp only [Act.put, List.getElem_toArray, List.getElem_cons_succ, List.getElem_cons_zero, List.setIfInBounds_toArray, List.set_cons_zero, List.set_cons_succ]
 refine wpAnyH_take (i := 4) (v := .pointer (some ⟨b, o + k * 5, none⟩)) rfl (by kernel_rfl) (by kernel_rfl) (by kernel_rfl) (fun _ _ _ h => h) (Or.inl ⟨by rfl, fun wq hSw => by (try dsimp only at hSw); go_simp⟩) hHeld ?_
 try simp only [Act.put, List.getElem_toArray, List.getElem_cons_succ, List.getElem_cons_zero, List.setIfInBounds_toArray, List.set_cons_zero, List.set_cons_succ]
 refine wpAnyH_take (i := 5) (v := .agg #[.string name, .int .i64 link, .slice ap params.length kp, .int .i64 res, .slice ab blocks.length kb]) rfl (by kernel_rfl) (by kernel_rfl) (by kernel_rfl) (fun _ _ _ h => h) (Or.inl ⟨by rfl, fun wq hSw => by (try dsimp only at hSw); go_simp⟩) hHeld ?_
 try simp only [Act.put, List.getElem_toArray, List.getElem_cons_succ, List.getElem_cons_zero, List.setIfInBounds_toArray, List.set_cons_zero, List.set_cons_succ]
 refine wpAnyH_take (i := 6) (v := .pointer (some ⟨w.heap.size, 1, none⟩)) rfl (by kernel_rfl) (by kernel_rfl) (by kernel_rfl) (fun _ _ _ h => h) (Or.inl ⟨by rfl, fun wq hSw => by (try dsimp only at hSw); go_simp⟩) hHeld ?_
 try simp only [Act.put, List.getElem_toArray, List.getElem_cons_succ, List.getElem_cons_zero, List.setIfInBounds_toArray, List.set_cons_zero, List.set_cons_succ]
 refine wpAnyH_take (i := 7) (v := .slice (some ⟨b, o, none⟩) fs.length kf) rfl (by kernel_rfl) (by kernel_rfl) (by kernel_rfl) (fun _ _ _ h => h) (Or.inl ⟨by rfl, fun wq hSw => by (try dsimp only at hSw); go_simp⟩) hHeld ?_
 try simp only [Act.put, List.getElem_toArray, List.getElem_cons_succ, List.getElem_cons_zero, List.setIfInBounds_toArray, List.set_cons_zero, List.set_cons_succ]
 refine wpAnyH_take (i := 8) (v := .int .i64 k) rfl (by kernel_rfl) (by kernel_rfl) (by kernel_rfl) (fun _ _ _ h => h) (Or.inl ⟨by rfl, fun wq hSw => by (try dsimp only at hSw); go_simp⟩) hHeld ?_
 try simp only [Act.put, List.getElem_toArray, List.getElem_cons_succ, List.getElem_cons_zero, List.setIfInBounds_toArray, List.set_cons_zero, List.set_cons_succ]
 refine wpAnyH_take (i := 9) (v := .pointer (some ⟨b, o + k * 5, none⟩)) rfl (by kernel_rfl) (by kernel_rfl) (by kernel_rfl) (fun _ _ _ h => h) (Or.inl ⟨by rfl, fun wq hSw => by (try dsimp only at hSw); go_simp⟩) hHeld ?_
 try simp only [Act.put, List.getElem_toArray, List.getElem_cons_succ, List.getElem_cons_zero, List.setIfInBounds_toArray, List.set_cons_zero, List.set_cons_succ]
 refine wpAnyH_take (i := 10) (v := .agg #[.string name, .int .i64 link, .slice ap params.length kp, .int .i64 res, .slice ab blocks.length kb]) rfl (by kernel_rfl) (by kernel_rfl) (by kernel_rfl) (fun _ _ _ h => h) (Or.inl ⟨by rfl, fun wq hSw => by (try dsimp only at hSw); go_simp⟩) hHeld ?_
 try simp only [Act.put, List.getElem_toArray, List.getElem_cons_succ, List.getElem_cons_zero, List.setIfInBounds_toArray, List.set_cons_zero, List.set_cons_succ]
 refine wpAnyH_ready (rs := [11, 13]) (by kernel_rfl) (by simp) ?_
 refine AllReadyH.cons rfl (fun K hK => ?_) (AllReadyH.cons rfl (fun K hK => ?_) AllReadyH.nil)
 ·go_simp
  refine (CV.out _ hb0).mono ?_
  rintro e w1 ⟨vt, rfl, hown, hb⟩
  have hb1 := hb0.trans hb
  have hints := hown.ints hTL'.out
  obtain ⟨av, cv, rfl⟩ := hints.shape
  refine hK.out _ _ (SK.out _ hb1) (fun hHeld => ?_)
  clear hK K
  try simp only [Act.put, List.getElem_toArray, List.getElem_cons_succ, List.getElem_cons_zero, List.setIfInBounds_toArray, List.set_cons_zero, List.set_cons_succ]
  refine wpAnyH_take (i := 12) (v := .agg #[.slice ag gs.length kg, .slice (some ⟨b, o, none⟩) fs.length kf, .string name, .int .i64 link, .slice ap params.length kp, .int .i64 res, .slice ab blocks.length kb, .slice av ts.length cv, .int .i64 0]) rfl (by kernel_rfl) (by kernel_rfl) (by kernel_rfl) (fun _ _ _ h => h) (Or.inl ⟨by rfl, fun wq hSw => by (try dsimp only at hSw); go_simp⟩) hHeld ?_
  try simp only [Act.put, List.getElem_toArray, List.getElem_cons_succ, List.getElem_cons_zero, List.setIfInBounds_toArray, List.set_cons_zero, List.set_cons_succ]
  refine wpAnyH_ready (rs := [13]) (by kernel_rfl) (by simp) ?_
  refine AllReadyH.cons rfl (fun K hK => ?_) AllReadyH.nil
  go_simp
  obtain ⟨w2, hw2⟩ : ∃ w2, w2 = w1.alloc (Go.Obj.cells #[.slice none 0 0, .slice none 0 0, .string ⟨#[]⟩, .int .i64 0, .slice none 0 0, .int .i64 0, .slice none 0 0, .slice none 0 0, .int .i64 0] 105) := ⟨_, rfl⟩
  rw [← hw2]
  have hb2 : Below w1.heap.size w1 w2 := by rw [hw2]; exact bel_alloc _ _
  have z2 : w2.heap[w1.heap.size]? = some (Go.Obj.cells #[.slice none 0 0, .slice none 0 0, .string ⟨#[]⟩, .int .i64 0, .slice none 0 0, .int .i64 0, .slice none 0 0, .slice none 0 0, .int .i64 0] 105) := by rw [hw2]; exact new_at w1 _
  have hB2 := bel_trans hb1 hb2
  refine hK.out _ _ (SK.out _ hB2) (fun hHeld => ?_)
  clear hK K
  try simp only [Act.put, List.getElem_toArray, List.getElem_cons_succ, List.getElem_cons_zero, List.setIfInBounds_toArray, List.set_cons_zero, List.set_cons_succ]
  have hle0 : W0.heap.size ≤ w1.heap.size := hb1.size
  have hle : w.heap.size ≤ w1.heap.size := by have := hz0.out; omega
  have hne : w.heap.size + 1 ≠ w1.heap.size := by have := hz0.out; omega
  have hcv : ts.length ≤ cv := by
   exact tl133
  have I0 : BdI w (w.heap.size + 1) w1.heap.size #[.slice none 0 0, .slice none 0 0, .string ⟨#[]⟩, .int .i64 0, .slice none 0 0, .int .i64 0, .slice none 0 0, .slice none 0 0, .int .i64 0] av ts w2 := ⟨(IV0.out _ hB2).2, (IV0.out _ hB2).1, z2, by
   obtain ⟨bv, ov, ⟨⟨_, _, e, _, p⟩, _⟩, _, c⟩ := hints.ex
   injection e with e1 _ _
   subst e1
   exact ⟨bv, ov, p, fun h0 => by have l : bv < w1.heap.size := Lib.lt_of_cell (c 0 h0); omega, fun i hi => at_keep (c i hi) hb2⟩⟩
  replace hw2 := Kp.mk hw2
  clear hown hints hb
  have e0 : At w2 w1.heap.size 0 _ := cells_at z2 rfl
  have e1 : At w2 w1.heap.size 1 _ := cells_at z2 rfl
  have e2 : At w2 w1.heap.size 2 _ := cells_at z2 rfl
  have e3 : At w2 w1.heap.size 3 _ := cells_at z2 rfl
  have e4 : At w2 w1.heap.size 4 _ := cells_at z2 rfl
  have e5 : At w2 w1.heap.size 5 _ := cells_at z2 rfl
  have e6 : At w2 w1.heap.size 6 _ := cells_at z2 rfl
  have e7 : At w2 w1.heap.size 7 _ := cells_at z2 rfl
  have e8 : At w2 w1.heap.size 8 _ := cells_at z2 rfl
  have fz := rw_cells z2
  have f0 := fz 0
  have f1 := fz 1
  have f2 := fz 2
  have f3 := fz 3
  have f4 := fz 4
  have f5 := fz 5
  have f6 := fz 6
  have f7 := fz 7
  have f8 := fz 8
  clear fz
  refine wpAnyH_ready (rs := [14]) (by kernel_rfl) (by simp) ?_
  refine AllReadyH.cons rfl (fun K hK => ?_) AllReadyH.nil
  go_simp
  refine hK.out _ _ (SK.out _ (belNine hB2 hle0 (.slice ag gs.length kg) (.slice (some ⟨b, o, none⟩) fs.length kf) (.string name) (.int .i64 link) (.slice ap params.length kp) (.int .i64 res) (.slice ab blocks.length kb) (.slice av ts.length cv) (.int .i64 0))) (fun hHeld => ?_)
  clear hK K
  try simp only [Act.put, List.getElem_toArray, List.getElem_cons_succ, List.getElem_cons_zero, List.setIfInBounds_toArray, List.set_cons_zero, List.set_cons_succ]
  refine wpAnyH_done (by kernel_rfl) ?_ _
  have I1 := (((((((((I0.set (ds := #[.slice ag gs.length kg, .slice none 0 0, .string ⟨#[]⟩, .int .i64 0, .slice none 0 0, .int .i64 0, .slice none 0 0, .slice none 0 0, .int .i64 0]) 0 (.slice ag gs.length kg) rfl hne hle).set (ds := #[.slice ag gs.length kg, .slice (some ⟨b, o, none⟩) fs.length kf, .string ⟨#[]⟩, .int .i64 0, .slice none 0 0, .int .i64 0, .slice none 0 0, .slice none 0 0, .int .i64 0]) 1 (.slice (some ⟨b, o, none⟩) fs.length kf) rfl hne hle).set (ds := #[.slice ag gs.length kg, .slice (some ⟨b, o, none⟩) fs.length kf, .string name, .int .i64 0, .slice none 0 0, .int .i64 0, .slice none 0 0, .slice none 0 0, .int .i64 0]) 2 (.string name) rfl hne hle).set (ds := #[.slice ag gs.length kg, .slice (some ⟨b, o, none⟩) fs.length kf, .string name, .int .i64 link, .slice none 0 0, .int .i64 0, .slice none 0 0, .slice none 0 0, .int .i64 0]) 3 (.int .i64 link) rfl hne hle).set (ds := #[.slice ag gs.length kg, .slice (some ⟨b, o, none⟩) fs.length kf, .string name, .int .i64 link, .slice ap params.length kp, .int .i64 0, .slice none 0 0, .slice none 0 0, .int .i64 0]) 4 (.slice ap params.length kp) rfl hne hle).set (ds := #[.slice ag gs.length kg, .slice (some ⟨b, o, none⟩) fs.length kf, .string name, .int .i64 link, .slice ap params.length kp, .int .i64 res, .slice none 0 0, .slice none 0 0, .int .i64 0]) 5 (.int .i64 res) rfl hne hle).set (ds := #[.slice ag gs.length kg, .slice (some ⟨b, o, none⟩) fs.length kf, .string name, .int .i64 link, .slice ap params.length kp, .int .i64 res, .slice ab blocks.length kb, .slice none 0 0, .int .i64 0]) 6 (.slice ab blocks.length kb) rfl hne hle).set (ds := #[.slice ag gs.length kg, .slice (some ⟨b, o, none⟩) fs.length kf, .string name, .int .i64 link, .slice ap params.length kp, .int .i64 res, .slice ab blocks.length kb, .slice av ts.length cv, .int .i64 0]) 7 (.slice av ts.length cv) rfl hne hle).set (ds := #[.slice ag gs.length kg, .slice (some ⟨b, o, none⟩) fs.length kf, .string name, .int .i64 link, .slice ap params.length kp, .int .i64 res, .slice ab blocks.length kb, .slice av ts.length cv, .int .i64 0]) 8 (.int .i64 0) rfl hne hle)
  clear e0 f0
  clear e1 f1
  clear e2 f2
  clear e3 f3
  clear e4 f4
  clear e5 f5
  clear e6 f6
  clear e7 f7
  clear e8 f8
  obtain ⟨w3, hw3⟩ : ∃ w3, w3 = (((((((((w2.setCell ⟨w1.heap.size, 0, none⟩ (.slice ag gs.length kg)).setCell ⟨w1.heap.size, 1, none⟩ (.slice (some ⟨b, o, none⟩) fs.length kf)).setCell ⟨w1.heap.size, 2, none⟩ (.string name)).setCell ⟨w1.heap.size, 3, none⟩ (.int .i64 link)).setCell ⟨w1.heap.size, 4, none⟩ (.slice ap params.length kp)).setCell ⟨w1.heap.size, 5, none⟩ (.int .i64 res)).setCell ⟨w1.heap.size, 6, none⟩ (.slice ab blocks.length kb)).setCell ⟨w1.heap.size, 7, none⟩ (.slice av ts.length cv)).setCell ⟨w1.heap.size, 8, none⟩ (.int .i64 0)) := ⟨_, rfl⟩
  rw [← hw3] at I1
  skip
  obtain ⟨SB, hSB⟩ : ∃ SB, SB = w1.heap.size := ⟨_, rfl⟩
  rw [← hSB] at I1 hle hne hw3 ⊢
  rw [← hw3]
  replace hw3 := Kp.mk hw3
  replace hSB := Kp.mk hSB
  clear I0 z2 hB2 hb1 hb2 hle0 hHeld
  exact tl3
 ·go_simp
  obtain ⟨w1, hw1⟩ : ∃ w1, w1 = (W0.alloc (Go.Obj.cells #[.slice none 0 0, .slice none 0 0, .string ⟨#[]⟩, .int .i64 0, .slice none 0 0, .int .i64 0, .slice none 0 0, .slice none 0 0, .int .i64 0] 105)).drew := ⟨_, rfl⟩
  rw [← hw1]
  have z1 : w1.heap[W0.heap.size]? = some (Go.Obj.cells #[.slice none 0 0, .slice none 0 0, .string ⟨#[]⟩, .int .i64 0, .slice none 0 0, .int .i64 0, .slice none 0 0, .slice none 0 0, .int .i64 0] 105) := by rw [hw1]; exact new_at W0 _
  have hB1 : Below W0.heap.size W0 w1 := by rw [hw1]; exact (bel_alloc _ _).drew
  replace hw1 := Kp.mk hw1
  refine hK.out _ _ (SK.out _ hB1) (fun hHeld => ?_)
  clear hK K
  try simp only [Act.put, List.getElem_toArray, List.getElem_cons_succ, List.getElem_cons_zero, List.setIfInBounds_toArray, List.set_cons_zero, List.set_cons_succ]
  refine wpAnyH_ready (rs := [11]) (by kernel_rfl) (by simp) ?_
  refine AllReadyH.cons rfl (fun K hK => ?_) AllReadyH.nil
  go_simp
  refine (CV.out _ hB1).mono ?_
  rintro e w2 ⟨vt, rfl, hown, hb⟩
  have hB2 := bel_trans hB1 hb
  have hints := hown.ints hTL'.out
  obtain ⟨av, cv, rfl⟩ := hints.shape
  refine hK.out _ _ (SK.out _ hB2) (fun hHeld => ?_)
  clear hK K
  try simp only [Act.put, List.getElem_toArray, List.getElem_cons_succ, List.getElem_cons_zero, List.setIfInBounds_toArray, List.set_cons_zero, List.set_cons_succ]
  refine wpAnyH_take (i := 12) (v := .agg #[.slice ag gs.length kg, .slice (some ⟨b, o, none⟩) fs.length kf, .string name, .int .i64 link, .slice ap params.length kp, .int .i64 res, .slice ab blocks.length kb, .slice av ts.length cv, .int .i64 0]) rfl (by kernel_rfl) (by kernel_rfl) (by kernel_rfl) (fun _ _ _ h => h) (Or.inl ⟨by rfl, fun wq hSw => by (try dsimp only at hSw); go_simp⟩) hHeld ?_
  try simp only [Act.put, List.getElem_toArray, List.getElem_cons_succ, List.getElem_cons_zero, List.setIfInBounds_toArray, List.set_cons_zero, List.set_cons_succ]
  have z2 := kept_at z1 hb
  have hle0 : W0.heap.size ≤ W0.heap.size := Nat.le_refl _
  have hle : w.heap.size ≤ W0.heap.size := by have := hz0.out; omega
  have hne : w.heap.size + 1 ≠ W0.heap.size := by have := hz0.out; omega
  have hcv : ts.length ≤ cv := by
   exact tl133
  have I0 : BdI w (w.heap.size + 1) W0.heap.size #[.slice none 0 0, .slice none 0 0, .string ⟨#[]⟩, .int .i64 0, .slice none 0 0, .int .i64 0, .slice none 0 0, .slice none 0 0, .int .i64 0] av ts w2 := ⟨(IV0.out _ hB2).2, (IV0.out _ hB2).1, z2, by
   obtain ⟨bv, ov, ⟨⟨_, _, e, _, p⟩, _⟩, lb, c⟩ := hints.ex
   injection e with e1 _ _
   subst e1
   have l1 : W0.heap.size < w1.heap.size := (Array.getElem?_eq_some_iff.1 z1).1
   exact ⟨bv, ov, p, fun _ => by omega, c⟩⟩
  clear hown hints
  have e0 : At w2 W0.heap.size 0 _ := cells_at z2 rfl
  have e1 : At w2 W0.heap.size 1 _ := cells_at z2 rfl
  have e2 : At w2 W0.heap.size 2 _ := cells_at z2 rfl
  have e3 : At w2 W0.heap.size 3 _ := cells_at z2 rfl
  have e4 : At w2 W0.heap.size 4 _ := cells_at z2 rfl
  have e5 : At w2 W0.heap.size 5 _ := cells_at z2 rfl
  have e6 : At w2 W0.heap.size 6 _ := cells_at z2 rfl
  have e7 : At w2 W0.heap.size 7 _ := cells_at z2 rfl
  have e8 : At w2 W0.heap.size 8 _ := cells_at z2 rfl
  have fz := rw_cells z2
  have f0 := fz 0
  have f1 := fz 1
  have f2 := fz 2
  have f3 := fz 3
  have f4 := fz 4
  have f5 := fz 5
  have f6 := fz 6
  have f7 := fz 7
  have f8 := fz 8
  clear fz
  refine wpAnyH_ready (rs := [14]) (by kernel_rfl) (by simp) ?_
  refine AllReadyH.cons rfl (fun K hK => ?_) AllReadyH.nil
  go_simp
  refine hK.out _ _ (SK.out _ (belNine hB2 hle0 (.slice ag gs.length kg) (.slice (some ⟨b, o, none⟩) fs.length kf) (.string name) (.int .i64 link) (.slice ap params.length kp) (.int .i64 res) (.slice ab blocks.length kb) (.slice av ts.length cv) (.int .i64 0))) (fun hHeld => ?_)
  clear hK K
  try simp only [Act.put, List.getElem_toArray, List.getElem_cons_succ, List.getElem_cons_zero, List.setIfInBounds_toArray, List.set_cons_zero, List.set_cons_succ]
  refine wpAnyH_done (by kernel_rfl) ?_ _
  have I1 := (((((((((I0.set (ds := #[.slice ag gs.length kg, .slice none 0 0, .string ⟨#[]⟩, .int .i64 0, .slice none 0 0, .int .i64 0, .slice none 0 0, .slice none 0 0, .int .i64 0]) 0 (.slice ag gs.length kg) rfl hne hle).set (ds := #[.slice ag gs.length kg, .slice (some ⟨b, o, none⟩) fs.length kf, .string ⟨#[]⟩, .int .i64 0, .slice none 0 0, .int .i64 0, .slice none 0 0, .slice none 0 0, .int .i64 0]) 1 (.slice (some ⟨b, o, none⟩) fs.length kf) rfl hne hle).set (ds := #[.slice ag gs.length kg, .slice (some ⟨b, o, none⟩) fs.length kf, .string name, .int .i64 0, .slice none 0 0, .int .i64 0, .slice none 0 0, .slice none 0 0, .int .i64 0]) 2 (.string name) rfl hne hle).set (ds := #[.slice ag gs.length kg, .slice (some ⟨b, o, none⟩) fs.length kf, .string name, .int .i64 link, .slice none 0 0, .int .i64 0, .slice none 0 0, .slice none 0 0, .int .i64 0]) 3 (.int .i64 link) rfl hne hle).set (ds := #[.slice ag gs.length kg, .slice (some ⟨b, o, none⟩) fs.length kf, .string name, .int .i64 link, .slice ap params.length kp, .int .i64 0, .slice none 0 0, .slice none 0 0, .int .i64 0]) 4 (.slice ap params.length kp) rfl hne hle).set (ds := #[.slice ag gs.length kg, .slice (some ⟨b, o, none⟩) fs.length kf, .string name, .int .i64 link, .slice ap params.length kp, .int .i64 res, .slice none 0 0, .slice none 0 0, .int .i64 0]) 5 (.int .i64 res) rfl hne hle).set (ds := #[.slice ag gs.length kg, .slice (some ⟨b, o, none⟩) fs.length kf, .string name, .int .i64 link, .slice ap params.length kp, .int .i64 res, .slice ab blocks.length kb, .slice none 0 0, .int .i64 0]) 6 (.slice ab blocks.length kb) rfl hne hle).set (ds := #[.slice ag gs.length kg, .slice (some ⟨b, o, none⟩) fs.length kf, .string name, .int .i64 link, .slice ap params.length kp, .int .i64 res, .slice ab blocks.length kb, .slice av ts.length cv, .int .i64 0]) 7 (.slice av ts.length cv) rfl hne hle).set (ds := #[.slice ag gs.length kg, .slice (some ⟨b, o, none⟩) fs.length kf, .string name, .int .i64 link, .slice ap params.length kp, .int .i64 res, .slice ab blocks.length kb, .slice av ts.length cv, .int .i64 0]) 8 (.int .i64 0) rfl hne hle)
  clear e0 f0
  clear e1 f1
  clear e2 f2
  clear e3 f3
  clear e4 f4
  clear e5 f5
  clear e6 f6
  clear e7 f7
  clear e8 f8
  obtain ⟨w3, hw3⟩ : ∃ w3, w3 = (((((((((w2.setCell ⟨W0.heap.size, 0, none⟩ (.slice ag gs.length kg)).setCell ⟨W0.heap.size, 1, none⟩ (.slice (some ⟨b, o, none⟩) fs.length kf)).setCell ⟨W0.heap.size, 2, none⟩ (.string name)).setCell ⟨W0.heap.size, 3, none⟩ (.int .i64 link)).setCell ⟨W0.heap.size, 4, none⟩ (.slice ap params.length kp)).setCell ⟨W0.heap.size, 5, none⟩ (.int .i64 res)).setCell ⟨W0.heap.size, 6, none⟩ (.slice ab blocks.length kb)).setCell ⟨W0.heap.size, 7, none⟩ (.slice av ts.length cv)).setCell ⟨W0.heap.size, 8, none⟩ (.int .i64 0)) := ⟨_, rfl⟩
  rw [← hw3] at I1
  skip
  obtain ⟨SB, hSB⟩ : ∃ SB, SB = W0.heap.size := ⟨_, rfl⟩
  rw [← hSB] at I1 hle hne hw3 ⊢
  rw [← hw3]
  replace hw3 := Kp.mk hw3
  replace hSB := Kp.mk hSB
  clear I0 z2 z1 hB2 hB1 hb hle0 hHeld
  exact tl3
end Go.Proofs.YtgdcgjlmkmdklaaGreatDoor
