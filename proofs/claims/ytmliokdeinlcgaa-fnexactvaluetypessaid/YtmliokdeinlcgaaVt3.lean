/- The types of a function's values: the program's answer. -/
import Derived.Test.YtmliokdeinlcgaaVt2
import Derived.Test.YtmliokdeinlcgaaIts
import Derived.Test.YtmliokdeinlcgaaIt7
namespace Go.Proofs.Ytmliokdeinlcgaa
open Go.ChangeShapes Go.WideShapes Go.ChangeAt Go.RowKit
attribute [local go_sem] Oper.semAt_some
set_option linter.unusedVariables false
set_option linter.unusedSimpArgs false
/-- The types that instructions define, in order. -/
def tysL : List ItD → List Int
  | [] => []
  | y :: r => if y.d.ty = 0 then tysL r else y.d.ty :: tysL r
theorem tysL_trip (L : List ItD) : tysOf (L.map trip) = tysL L := by
  induction L with
  | nil => rfl
  | cons y r ih =>
    simp only [List.map_cons, trip, tysOf, tysL, ih]
theorem tysL_app (a b : List ItD) : tysL (a ++ b) = tysL a ++ tysL b := by
  induction a with
  | nil => rfl
  | cons x r ih =>
    simp only [List.cons_append, tysL, ih]
    split <;> rfl
theorem tysL_take (L : List ItD) (k : Nat) (h : k < L.length) : tysL (L.take (k + 1)) = tysL (L.take k) ++ (if L[k].d.ty = 0 then [] else [L[k].d.ty]) := by
  rw [List.take_succ_eq_append_getElem h, tysL_app]
  simp only [tysL]
theorem tysL_len (L : List ItD) : (tysL L).length ≤ L.length := by
  induction L with
  | nil => exact Nat.le_refl _
  | cons x r ih =>
    simp only [tysL]
    split <;> simp only [List.length_cons] <;> omega
set_option maxRecDepth 100000 in
set_option maxHeartbeats 2000000 in
theorem valTyI (d : FnD) (vp vb : Value) (w : World) {lo : Nat} (h : FnAt lo w d vp vb) (hn : fnN d ≤ 1048576) :
    Calls Try.prog 8 #[fnV d vp vb] w fun e w' => ∃ v, e = .returned v ∧ OwnI w' w.heap.size v (d.params ++ tysOf (blPl 0 d.blocks)) ∧ Below w.heap.size w w' := by
  unfold fnN at hn
  obtain ⟨name, link, params, res, blocks⟩ := d
  obtain ⟨-, hp, hb⟩ := h
  dsimp only [fnV] at *
  have nn := blsN_nn blocks
  obtain ⟨a1, k1, rfl⟩ := hp.shape
  obtain ⟨Y, hY, hYd, hYi⟩ := itBls_of hb
  obtain ⟨a2, k2, rfl⟩ := hb.shape
  have hpl : blPl 0 blocks = Y.flatten.map trip := by
    rw [← hYd]
    exact blPl_trip Y 0 (fun k hk j hj => by simpa using hY.ix k hk j hj)
  have hbd : params.length + Y.flatten.length ≤ 1099511627776 := by
    have := blPl_len 0 blocks
    rw [hpl, List.length_map] at this
    omega
  have hp1 : params.length ≤ 1048576 := by omega
  rw [hpl, tysL_trip]
  clear hYd hYi hb hpl nn hn
  replace hY := Kp.mk hY
  replace hp := Kp.mk hp
  have C0 : Kp (∀ w, CallsIn Fence.wide 11 Try.prog _ _ w _) := ⟨fun w => callsIn_wide.2 (instrsOf_c name link res (.slice a1 params.length k1) (.slice a2 blocks.length k2) ⟨_, _, _, rfl⟩ ⟨_, _, _, rfl⟩ w)⟩
  have C1 : Kp (∀ w, Ints lo .i64 w (.slice a1 params.length k1) params → CallsIn Fence.wide 11 Try.prog _ _ w _) := ⟨fun w h => callsIn_wide.2 (cloneI (.slice a1 params.length k1) params w h hp1)⟩
  refine (callsIn_wide (n := 12)).1 ?_
  refine callsIn_of_wp_marks Try.func8 rfl trivial ?_ rfl
  simp only [Try.ntmps8, List.size_toArray, List.length_cons, List.length_nil, Nat.reduceAdd, Nat.reduceSub, Array.replicate_succ, Array.replicate_zero, List.push_toArray, List.append_toArray, List.nil_append, List.cons_append]
  obtain ⟨i0, hi0, hz0, hz1, hz2⟩ := info_parts info64
  gi_wp2
  refine ⟨trivial, ?_⟩
  refine (C1.out _ (hp.out.keep (bel_alloc _ _))).mono ?_
  rintro e w1 ⟨v, rfl, hown, hB1⟩
  obtain ⟨F, hF⟩ : ∃ F, F = Go.Obj.cells #[.string name, .int .i64 link, .slice a1 params.length k1, .int .i64 res, .slice a2 blocks.length k2] 31 (0, 0) := ⟨_, rfl⟩
  have hBw : Below w.heap.size w w1 := bel_trans (bel_alloc w _) hB1
  have hsz1 : w.heap.size + 1 ≤ w1.heap.size := by have := hB1.size; simpa using this
  rw [World.size_alloc] at hown
  obtain ⟨av, cv, rfl⟩ : ∃ a c, v = .slice a params.length c := by
    rcases hown.2 with ⟨rfl, h0⟩ | ⟨g, cap, cur, rfl, _⟩
    · exact ⟨none, 0, by rw [h0]⟩
    · exact ⟨_, _, rfl⟩
  have hx : (w1.alloc (Go.Obj.cells #[.slice av params.length cv] 28)).heap[w.heap.size]? = some F := by rw [hF]; exact keep_cells (keep_cells (new_cells w _) hB1) (bel_alloc _ _)
  have x0 : (w1.alloc (Go.Obj.cells #[.slice av params.length cv] 28)).cell? ⟨w.heap.size, 0, none⟩ = some (.string name) := at_cells (hx.trans (by rw [hF])) rfl
  have x1 : (w1.alloc (Go.Obj.cells #[.slice av params.length cv] 28)).cell? ⟨w.heap.size, 1, none⟩ = some (.int .i64 link) := at_cells (hx.trans (by rw [hF])) rfl
  have x2 : (w1.alloc (Go.Obj.cells #[.slice av params.length cv] 28)).cell? ⟨w.heap.size, 2, none⟩ = some (.slice a1 params.length k1) := at_cells (hx.trans (by rw [hF])) rfl
  have x3 : (w1.alloc (Go.Obj.cells #[.slice av params.length cv] 28)).cell? ⟨w.heap.size, 3, none⟩ = some (.int .i64 res) := at_cells (hx.trans (by rw [hF])) rfl
  have x4 : (w1.alloc (Go.Obj.cells #[.slice av params.length cv] 28)).cell? ⟨w.heap.size, 4, none⟩ = some (.slice a2 blocks.length k2) := at_cells (hx.trans (by rw [hF])) rfl
  replace hF := Kp.mk hF
  have hrow0 := Joins_le hown
  clear hown hB1
  gi_wp2
  refine ⟨trivial, ?_⟩
  refine (C0.out _).mono ?_
  rintro e w' ⟨rfl, rfl⟩
  have bT := (Boxed.new w1 28 (.slice av params.length cv))
  obtain ⟨W4, hW4⟩ : ∃ W4, W4 = (w1.alloc (Go.Obj.cells #[.slice av params.length cv] 28)).alloc (Go.Obj.cells #[.string name, .int .i64 link, .slice a1 params.length k1, .int .i64 res, .slice a2 blocks.length k2] 31) := ⟨_, rfl⟩
  have hB4 : Below w1.heap.size w1 W4 := by rw [hW4]; exact bel_trans (bel_alloc _ _) (bel_alloc _ _)
  have hBw4 : Below w.heap.size w W4 := bel_trans hBw hB4
  have bT4 : Boxed W4 w1.heap.size 28 (.slice av params.length cv) := by rw [hW4]; exact bT.alloc _
  have hr4 : W4.ownsRow w.heap.size 2 1 (.slice av params.length cv) params.length (params.map (Value.int .i64)) := by rw [hW4]; exact (hrow0.alloc _).alloc _
  have hz4 : W4.heap.size = w1.heap.size + 1 + 1 := by rw [hW4]; simp
  have hf4 : At W4 (w1.heap.size + 1) 4 (.slice a2 blocks.length k2) := by
    rw [hW4]
    have := new_cells (w1.alloc (Go.Obj.cells #[.slice av params.length cv] 28)) (Go.Obj.cells #[.string name, .int .i64 link, .slice a1 params.length k1, .int .i64 res, .slice a2 blocks.length k2] 31)
    rw [World.size_alloc] at this
    exact at_cells this rfl
  have hY4 : ItBls w.heap.size W4 (.slice a2 blocks.length k2) Y := hY.out.kq (Kq.below (S := fun k => k < w.heap.size) hBw4 (fun _ h => h)) (fun _ h => h)
  clear hx x0 x1 x2 x3 x4 hrow0 bT
  gi_wp2
  rw [← hW4]
  clear hW4 C0 C1
  refine wpIn_rangeFunc_ownH rfl (by decide) (gf := 40) (lb := #[.pointer (some ⟨w1.heap.size + 1, 0, none⟩)]) rfl trivial (enters_of Try.func40 (by kernel_rfl) rfl)
    (instrs_stops Fence.wide (12 - 1) trivial rfl (by decide) w.heap.size (w1.heap.size + 1) W4 _ Y hY4 hf4 (by omega)) belowK_t (belowK_b (by omega)) (Below.refl _ _) (fun _ => rfl)
    (fun pre W => (∃ v, Boxed W w1.heap.size 28 v ∧ W.ownsRow w.heap.size 2 1 v (params ++ tysL (pre.map (·.1))).length ((params ++ tysL (pre.map (·.1))).map (Value.int .i64)) ∧ True) ∧ Below w.heap.size w W)
    (fun _ _ _ => False)
    (OwnFrom.and (Own.from (holdsRow_own w.heap.size w1.heap.size 28 2 1 (fun (pre : List {y : ItD // y ∈ Y.flatten}) => (params ++ tysL (pre.map (·.1))).length) (fun pre => (params ++ tysL (pre.map (·.1))).map (Value.int .i64)) (fun pre v => True)) _) (ownFrom_below (by omega) (by omega)))
    (fun _ _ _ _ _ hs _ _ => hs)
    ⟨⟨_, bT4, by simpa [tysL] using hr4, trivial⟩, hBw4⟩
    (fun x a' X => ∃ B1, X.heap[B1]? = some (Go.Obj.cells #[.int .i64 x.1.d.op, .int .i64 x.1.d.ty, .int .i64 x.1.d.fl, .int .i64 x.1.d.pr, .int .i64 x.1.d.ca, .int .i64 x.1.d.sz, x.1.va, x.1.vb, x.1.vw] 39 (0, 0)) ∧ ∃ u11 u12,
      a' = { tmps := #[.agg #[.string name, .int .i64 link, .slice a1 params.length k1, .int .i64 res, .slice a2 blocks.length k2], .pointer (some ⟨w.heap.size, 0, none⟩), .slice none 0 0, .pointer (some ⟨w1.heap.size, 0, none⟩), undef, .pointer (some ⟨B1, 0, none⟩), .pointer (some ⟨w.heap.size, 2, none⟩), .slice a1 params.length k1, .slice av params.length cv,
        .agg #[.string name, .int .i64 link, .slice a1 params.length k1, .int .i64 res, .slice a2 blocks.length k2], .func (.func 40) #[] #[.pointer (some ⟨w1.heap.size + 1, 0, none⟩)], u11, u12, undef, undef, undef, undef, undef, undef, undef, undef, undef], defers := [] }) ?hAx ?assign ?body ?done ?stop
  case assign =>
    intro lr pre x X K hi hK
    obtain ⟨⟨yb, yi, d, va, vb, vw⟩, hy⟩ := x
    obtain ⟨⟨p1, m1, g1, q1⟩, ⟨p2, m2, g2, q2⟩, ⟨p3, m3, g3, q3⟩⟩ := hY4.sh hy
    dsimp only at q1 q2 q3 hK
    subst q1 q2 q3
    simp only [itE, List.zip_toArray, List.zip_cons_cons, List.zip_nil_right, List.foldl_toArray', List.foldl_cons, List.foldl_nil, List.setIfInBounds_toArray, List.set_cons_succ, List.set_cons_zero, Array.zip, List.toList_toArray]
    gi_wp2
    have hg := World.grownBy_alloc X (Go.Obj.cells #[.int .i64 d.op, .int .i64 d.ty, .int .i64 d.fl, .int .i64 d.pr, .int .i64 d.ca, .int .i64 d.sz, .slice p1 m1 g1, .slice p2 m2 g2, .slice p3 m3 g3] 39) none
    have hX : w.heap.size ≤ X.heap.size := by have := hi.2.size; have := hBw4.size; omega
    exact hK _ _ (KeepsFrom.of_grownBy hg (fun j e => by cases e)) ((bel_alloc _ _).mono hX) ⟨by
      obtain ⟨⟨v, q1, q2, q3⟩, -⟩ := hi
      exact ⟨v, q1.alloc _, q2.alloc _, q3⟩, hi.2.trans ((bel_alloc _ _).mono hX)⟩ ⟨X.heap.size, new_cells _ _, _, _, rfl⟩
  case hAx =>
    rintro x a' u A E row ⟨B1, p1, p3⟩ hg hr
    refine ⟨B1, (hg.block B1 (Array.getElem?_eq_some_iff.1 p1).1 (fun e => ?_)).trans p1, p3⟩
    obtain ⟨-, o, ho, hc⟩ := hr B1 e.symm
    rw [p1] at ho
    cases ho
    cases hc
  case body =>
    rintro lr pre x a' X hl - ⟨⟨v, hv, hrow, -⟩, hB⟩ ⟨B1, p1, u11, u12, rfl⟩ hlt
    have hc := hv.cell
    have hf := hv.frozen
    have hlen : (params ++ tysL (pre.map (·.1))).length ≤ 1099511627776 := by
      have := tysL_len (pre.map (·.1))
      rw [List.length_map] at this
      rw [List.length_append]
      omega
    have hp1 : X.cell? ⟨B1, 1, none⟩ = some (.int .i64 x.1.d.ty) := at_cells p1 rfl
    obtain ⟨A, hA⟩ : ∃ A, A = params ++ tysL (pre.map (·.1)) := ⟨_, rfl⟩
    have hA2 : params ++ tysL ((pre ++ [x]).map (·.1)) = if x.1.d.ty = 0 then A else A ++ [x.1.d.ty] := by
      rw [List.map_append, tysL_app, hA]
      by_cases q : x.1.d.ty = 0 <;> simp [tysL, q]
    rw [← hA] at hrow hlen
    clear hA
    obtain ⟨t, ht⟩ : ∃ t, x.1.d.ty = t := ⟨_, rfl⟩
    rw [ht] at hp1 hA2
    clear ht p1
    have hX : w.heap.size ≤ X.heap.size := by have := hB.size; have := hBw4.size; omega
    by_cases ht0 : t = 0
    · subst ht0
      rw [if_pos rfl] at hA2
      replace hA2 := Kp.mk hA2
      gi_wp2
      exact ⟨KeepsFrom.refl _ _, Below.refl _ _, ⟨v, hv, by rw [hA2.out]; exact hrow, trivial⟩, hB⟩
    · have tb : (t != 0) = true := bne_iff_ne.2 ht0
      rw [if_neg ht0] at hA2
      replace hA2 := Kp.mk hA2
      gi_wp2_with (gi_at_builtin; refine wpListIn_append_own _ rfl _ _ 28 rfl w.heap.size 2 i0 (.int .i64 0) 1 8 Try.underlying28 hi0 hz0 hz1 hz2 rfl (by decide) _ _ _ rfl (hrow.alloc _) ⟨X.heap.size, 0, none⟩ 1 1 [.int .i64 t] rfl rfl (cell_one_new _ _ _) (by simp [Value.oneCell']) (by unfold maxLen; omega) (by omega) (by simp; omega) ?_; intro v' w2 hown' hgrow _; obtain ⟨g', cap', rfl⟩ := ownsRow_succ hown'; obtain ⟨hv1, hv2, hr2, hk2, hb2⟩ := hv.appended (by decide) hrow hX (by omega) hown' hgrow; have hc1 := hv1.cell; have hf1 := hv1.frozen)
      exact ⟨hk2.from _, hb2, ⟨_, hv2, by rw [hA2.out]; simpa using hr2, trivial⟩, hB.trans hb2⟩
  case done =>
    rintro D xs X hD hxs ⟨⟨v, hv, hrow, -⟩, hB⟩ hK
    rw [hxs] at hrow
    have hc := hv.cell
    replace hrow := Kp.mk hrow
    gi_wp2
    refine ⟨by simp, .inl ⟨_, _, rfl, run_takeDeferred hK, ?_⟩⟩
    exact ⟨_, results_tmp rfl _ _ _, v, rfl, ⟨ownsRow_putObj hrow.out _ hK rfl⟩, hB.trans (belowK_b (w := w) (Nat.le_refl _) X D _ _ (by omega) hK rfl rfl)⟩
  case stop =>
    rintro D c pre X _ _ h _
    exact h.elim
end Go.Proofs.Ytmliokdeinlcgaa
