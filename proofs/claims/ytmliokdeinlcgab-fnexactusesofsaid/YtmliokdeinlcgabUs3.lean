/- Where a value is used: the program's answer. -/
import Derived.Test.YtmliokdeinlcgabUs2
import Derived.Laws.EntriesVeiled
namespace Go.Proofs.Ytmliokdeinlcgab
open Go.ChangeShapes Go.WideShapes Go.ChangeAt Go.RowKit
attribute [local go_sem] Oper.semAt_some
set_option linter.unusedVariables false
set_option linter.unusedSimpArgs false
set_option maxRecDepth 100000 in
set_option maxHeartbeats 2000000 in
theorem isUse_c (q : OpD) (Bv : Nat) (v : Int) (w : World) (hv : At w Bv 0 (.int .i64 v)) :
    Calls Try.prog 18 #[.agg #[.int .i64 q.k, .int .i64 q.t, .int .i64 q.i, .int .u64 q.w], .pointer (some ⟨Bv, 0, none⟩)] w fun e w' => e = .returned (.bool (opV v q)) ∧ Below w.heap.size w w' := by
  obtain ⟨k, t, i, u⟩ := q
  unfold opV
  dsimp only
  have hvl := Lib.lt_of_cell hv
  have hv2 : (w.alloc (Go.Obj.cells #[.int .i64 k, .int .i64 t, .int .i64 i, .int .u64 u] 54)).cell? ⟨Bv, 0, none⟩ = some (.int .i64 v) := at_keep hv (bel_alloc _ _)
  by_cases e1 : k = 4
  · subst e1
    by_cases e2 : i = v
    · subst e2
      go_enter Try.func18, Try.ntmps18
      go_wp2_with fail
      go_ret
      exact ⟨by simp, bel_alloc _ _⟩
    · have b2 : (i == v) = false := beq_eq_false_iff_ne.2 e2
      go_enter Try.func18, Try.ntmps18
      go_wp2_with fail
      go_ret
      exact ⟨by simp [b2], bel_alloc _ _⟩
  · have b1 : (k == 4) = false := beq_eq_false_iff_ne.2 e1
    go_enter Try.func18, Try.ntmps18
    go_wp2_with fail
    go_ret
    exact ⟨by simp [b1], bel_alloc _ _⟩
set_option maxRecDepth 100000 in
set_option maxHeartbeats 2000000 in
theorem indexF (va : Value) (args : List OpD) (Bv : Nat) (v : Int) (w : World) {lo : Nat} (h : Ops lo w va args) (hv : At w Bv 0 (.int .i64 v)) :
    Calls Try.prog 29 #[va, .func (.func 18) #[] #[.pointer (some ⟨Bv, 0, none⟩)]] w fun e w' => ∃ r : Int, e = .returned (.int .i64 r) ∧ decide (0 ≤ r) = args.any (opV v) ∧ Below w.heap.size w w' := by
  obtain ⟨b, o, ⟨⟨a, cap, rfl, h1, h2⟩, h3⟩, -, hc⟩ := h.ex
  have g1 : (args.length : Int) ≤ 140737488355328 := by omega
  obtain ⟨R, hR⟩ : ∃ R, R = args.any (opV v) := ⟨_, rfl⟩
  rw [← hR]
  replace hR := Kp.mk hR
  replace h2 := Kp.mk h2
  replace hc := Kp.mk hc
  replace hv := Kp.mk hv
  go_enter Try.func29, Try.ntmps29
  go_wp2_with fail
  go_loopw [8] (fun s wr => ∃ i : Nat, i ≤ args.length ∧ s = .int .i64 i ∧ Kp ((args.drop i).any (opV v) = R) ∧ Below w.heap.size w wr) (fun s _ => args.length - (intOf s).toNat)
  case atStart => exact ⟨0, Nat.zero_le _, rfl, ⟨by rw [List.drop_zero]; exact hR.out.symm⟩, Below.refl _ _⟩
  case round =>
    obtain ⟨i, hi, rfl, hd, hB⟩ := hrel
    by_cases hlt : i < args.length
    · obtain rfl := h2.out (by omega)
      obtain ⟨c0, c1, c2, c3⟩ := (hc.out i hlt).keep hB
      have hd2 : Kp ((opV v args[i] || (args.drop (i + 1)).any (opV v)) = R) := ⟨by rw [← hd.out, List.drop_eq_getElem_cons hlt, List.any_cons]⟩
      have C := Kp.mk (isUse_c args[i] Bv v wr (at_keep hv.out hB))
      generalize args[i] = q at *
      clear hd
      go_wp2_with fail
      refine C.out.mono ?_
      rintro e w1 ⟨rfl, hb1⟩
      clear C
      obtain ⟨t, ht⟩ : ∃ t, t = opV v q := ⟨_, rfl⟩
      rw [← ht] at hd2 ⊢
      clear ht c0 c1 c2 c3
      cases t with
      | true =>
        have e : R = true := by rw [← hd2.out]; simp
        subst e
        go_wp2_with fail
        go_ret
        exact ⟨i, rfl, by simp, bel_trans hB hb1⟩
      | false =>
        have hd3 := hd2.out
        simp only [Bool.false_or] at hd3
        replace hd3 := Kp.mk hd3
        go_wp2_with fail
        exact ⟨⟨i + 1, by omega, by go_num, hd3, bel_trans hB hb1⟩, by simp [intOf]; omega⟩
    · have e : R = false := by rw [← hd.out, List.drop_eq_nil_of_le (by omega)]; rfl
      subst e
      go_wp2_with fail
      go_ret
      exact ⟨-1, rfl, by simp, hB⟩
set_option maxRecDepth 100000 in
set_option maxHeartbeats 2000000 in
theorem containsF (va : Value) (args : List OpD) (Bv : Nat) (v : Int) (w : World) {lo : Nat} (h : Ops lo w va args) (hv : At w Bv 0 (.int .i64 v)) :
    Calls Try.prog 20 #[va, .func (.func 18) #[] #[.pointer (some ⟨Bv, 0, none⟩)]] w fun e w' => e = .returned (.bool (args.any (opV v))) ∧ Below w.heap.size w w' := by
  have C := Kp.mk (indexF va args Bv v w h hv)
  obtain ⟨b, o, ⟨⟨a, cap, rfl, h1, h2⟩, h3⟩, -, hc⟩ := h.ex
  clear hc h2 h
  obtain ⟨R, hR⟩ : ∃ R, R = args.any (opV v) := ⟨_, rfl⟩
  rw [← hR] at C ⊢
  clear hR
  go_enter Try.func20, Try.ntmps20
  go_wp2_with fail
  refine C.out.mono ?_
  rintro e w1 ⟨r, rfl, hr, hb1⟩
  go_wp2_with fail
  go_ret
  exact ⟨by rw [← hr]; rfl, hb1⟩
theorem cell_two_new (w : World) (x y : Value) (T : TypeId) : ∀ j u, [x, y][j]? = some u → (w.alloc (Go.Obj.cells #[x, y] T)).cell? (Addr.add ⟨w.heap.size, 0, none⟩ j) = some u := fun j u hj => by
  obtain ⟨hlt, rfl⟩ := List.getElem?_eq_some_iff.1 hj
  rw [Go.WideShapes.add_plain]
  exact two_new w x y T j hlt
theorem cells_own {β : Type} (B b : Nat) (arr : Array Value) (t : TypeId) : OwnFrom B (fun (_ : β) W => W.heap[b]? = some (Go.Obj.cells arr t (0, 0))) := fun s A C row hs hg hr => by
  refine (hg.block b (Array.getElem?_eq_some_iff.1 hs).1 (fun e => ?_)).trans hs
  obtain ⟨-, o, ho, hc⟩ := hr b e.symm
  rw [hs] at ho
  cases ho
  cases hc
theorem keepsFrom_below {B : Nat} {X Y : World} (h : Below X.heap.size X Y) : KeepsFrom B X Y := ⟨h.size, fun k o _ hk _ => (h.block k (Array.getElem?_eq_some_iff.1 hk).1).trans hk⟩
/-- The places that name the value, of a list of instructions. -/
def useI (v : Int) (L : List ItD) : List (Nat × Nat) := useL v (L.map quad)
theorem useI_snoc (v : Int) (L : List ItD) (y : ItD) : useI v (L ++ [y]) = useI v L ++ (if hasV v y.d then [(y.b, y.i)] else []) := by
  unfold useI
  rw [List.map_append, useL_app]
  simp only [List.map_cons, List.map_nil, quad, useL]
theorem useI_len (v : Int) (L : List ItD) : (useI v L).length ≤ L.length := by
  have := useL_len v (L.map quad)
  rw [List.length_map] at this
  exact this
set_option maxRecDepth 100000 in
set_option maxHeartbeats 2000000 in
theorem usesI (d : FnD) (vp vb : Value) (v : Int) (w : World) {lo : Nat} (h : FnAt lo w d vp vb) (hn : fnN d ≤ 1048576) :
    Calls Try.prog 7 #[fnV d vp vb, .int .i64 v] w fun e w' => ∃ u, e = .returned u ∧ OwnP w' w.heap.size u (useL v (blQ 0 d.blocks)) ∧ Below w.heap.size w w' := by
  unfold fnN at hn
  obtain ⟨name, link, params, res, blocks⟩ := d
  obtain ⟨-, hp, hb⟩ := h
  dsimp only [fnV] at *
  have nn := blsN_nn blocks
  obtain ⟨a1, k1, rfl⟩ := hp.shape
  obtain ⟨Y, hY, hYd, hYi⟩ := itBls_of hb
  obtain ⟨a2, k2, rfl⟩ := hb.shape
  have hpl : blQ 0 blocks = Y.flatten.map quad := by
    rw [← hYd]
    exact blQ_quad Y 0 (fun k hk j hj => by simpa using hY.ix k hk j hj)
  have hbd : Y.flatten.length ≤ 1048576 := by
    have := blQ_len 0 blocks
    rw [hpl, List.length_map] at this
    omega
  rw [hpl]
  clear hYd hb hpl nn hp
  replace hY := Kp.mk hY
  have C0 : Kp (∀ w, CallsIn Fence.wide 11 Try.prog _ _ w _) := ⟨fun w => callsIn_wide.2 (instrsOf_c name link res (.slice a1 params.length k1) (.slice a2 blocks.length k2) ⟨_, _, _, rfl⟩ ⟨_, _, _, rfl⟩ w)⟩
  refine (callsIn_wide (n := 12)).1 ?_
  refine callsIn_of_wp_marks Try.func7 rfl trivial ?_ rfl
  simp only [Try.ntmps7, List.size_toArray, List.length_cons, List.length_nil, Nat.reduceAdd, Nat.reduceSub, Array.replicate_succ, Array.replicate_zero, List.push_toArray, List.append_toArray, List.nil_append, List.cons_append]
  obtain ⟨i0, hi0, hz0, hz1, hz2⟩ := pinfo
  gi_wp2
  refine ⟨trivial, ?_⟩
  refine (C0.out _).mono ?_
  rintro e w' ⟨rfl, rfl⟩
  obtain ⟨W3, hW3⟩ : ∃ W3, W3 = (((w.alloc (Go.Obj.cells #[.string name, .int .i64 link, .slice a1 params.length k1, .int .i64 res, .slice a2 blocks.length k2] 31)).alloc (Go.Obj.cells #[.int .i64 v] 2)).alloc (Go.Obj.cells #[.slice none 0 0] 27)).alloc (Go.Obj.cells #[.func (.func 18) #[] #[.pointer (some ⟨w.heap.size + 1, 0, none⟩)]] 55) := ⟨_, rfl⟩
  gi_wp2
  rw [← hW3]
  obtain ⟨hz3, hB3, g0, g1, g2, g3⟩ := four_at hW3
  clear hW3 C0
  obtain ⟨W4, hW4⟩ : ∃ W4, W4 = W3.alloc (Go.Obj.cells #[.string name, .int .i64 link, .slice a1 params.length k1, .int .i64 res, .slice a2 blocks.length k2] 31) := ⟨_, rfl⟩
  have hB34 : Below W3.heap.size W3 W4 := by rw [hW4]; exact bel_alloc _ _
  have hz4 : W4.heap.size = w.heap.size + 5 := by rw [hW4]; simp; omega
  have hBw4 : Below w.heap.size w W4 := bel_trans hB3 hB34
  have q1 := keep_cells g1 hB34
  have q2 := keep_cells g2 hB34
  have q3 := keep_cells g3 hB34
  have hf4 : At W4 (w.heap.size + 1 + 1 + 1 + 1) 4 (.slice a2 blocks.length k2) := by
    have := new_cells W3 (Go.Obj.cells #[.string name, .int .i64 link, .slice a1 params.length k1, .int .i64 res, .slice a2 blocks.length k2] 31)
    rw [← hW4, hz3] at this
    exact at_cells this rfl
  have hY4 : ItBls w.heap.size W4 (.slice a2 blocks.length k2) Y := hY.out.kq (Kq.below (S := fun k => k < w.heap.size) hBw4 (fun _ h => h)) (fun _ h => h)
  rw [← hW4]
  clear hW4 g0 g1 g2 g3 hB34
  refine wpIn_rangeFunc_ownH rfl (by decide) (gf := 28) (lb := #[.pointer (some ⟨w.heap.size + 1 + 1 + 1 + 1, 0, none⟩)]) rfl trivial (enters_of Try.func28 (by kernel_rfl) rfl)
    (instrs_stops Fence.wide (12 - 1) trivial rfl (by decide) w.heap.size (w.heap.size + 1 + 1 + 1 + 1) W4 _ Y hY4 hf4 (by omega)) belowK_t (belowK_b (by omega)) (Below.refl _ _) (fun _ => rfl)
    (fun pre W => (∃ u, Boxed W (w.heap.size + 1 + 1) 27 u ∧ W.ownsRow w.heap.size 49 2 u (useI v (pre.map (·.1))).length (plV (useI v (pre.map (·.1)))) ∧ True) ∧ (W.heap[w.heap.size + 1]? = some (Go.Obj.cells #[.int .i64 v] 2 (0, 0)) ∧ W.heap[w.heap.size + 1 + 1 + 1]? = some (Go.Obj.cells #[.func (.func 18) #[] #[.pointer (some ⟨w.heap.size + 1, 0, none⟩)]] 55 (0, 0))) ∧ Below w.heap.size w W)
    (fun _ _ _ => False)
    (OwnFrom.and (Own.from (holdsRow_own w.heap.size (w.heap.size + 1 + 1) 27 49 2 (fun (pre : List {y : ItD // y ∈ Y.flatten}) => (useI v (pre.map (·.1))).length) (fun pre => plV (useI v (pre.map (·.1)))) (fun pre v => True)) _) (OwnFrom.and (OwnFrom.and (cells_own _ _ _ _) (cells_own _ _ _ _)) (ownFrom_below (by omega) (by omega))))
    (fun _ _ _ _ _ hs _ _ => hs)
    ⟨⟨_, q2, World.ownsRow_nil _ _ _ _, trivial⟩, ⟨q1, q3⟩, hBw4⟩
    (fun (x : {y : ItD // y ∈ Y.flatten}) (a' : Act) (X : World) => ∃ B1 B2 : Nat, X.heap[B1]? = some (Go.Obj.cells #[.int .i64 x.1.b, .int .i64 x.1.i] 49 (0, 0)) ∧ X.heap[B2]? = some (Go.Obj.cells #[.int .i64 x.1.d.op, .int .i64 x.1.d.ty, .int .i64 x.1.d.fl, .int .i64 x.1.d.pr, .int .i64 x.1.d.ca, .int .i64 x.1.d.sz, x.1.va, x.1.vb, x.1.vw] 47 (0, 0)) ∧ ∃ u12 u13,
      a' = { tmps := #[.agg #[.string name, .int .i64 link, .slice a1 params.length k1, .int .i64 res, .slice a2 blocks.length k2], .int .i64 v, .pointer (some ⟨w.heap.size, 0, none⟩), .pointer (some ⟨w.heap.size + 1, 0, none⟩), .slice none 0 0, .pointer (some ⟨w.heap.size + 1 + 1, 0, none⟩), .pointer (some ⟨w.heap.size + 1 + 1 + 1, 0, none⟩), .pointer (some ⟨B1, 0, none⟩), .pointer (some ⟨B2, 0, none⟩), .func (.func 18) #[] #[.pointer (some ⟨w.heap.size + 1, 0, none⟩)],
        .agg #[.string name, .int .i64 link, .slice a1 params.length k1, .int .i64 res, .slice a2 blocks.length k2], .func (.func 28) #[] #[.pointer (some ⟨w.heap.size + 1 + 1 + 1 + 1, 0, none⟩)], u12, u13, undef, undef, undef, undef, undef, undef, undef, undef, undef], defers := [] }) ?hAx ?assign ?body ?done ?stop
  case assign =>
    intro lr pre x X K hi hK
    obtain ⟨⟨yb, yi, d, va, vb, vw⟩, hy⟩ := x
    obtain ⟨⟨p1, m1, g1, q1⟩, ⟨p2, m2, g2, q2⟩, ⟨p3, m3, g3, q3⟩⟩ := hY4.sh hy
    dsimp only at q1 q2 q3 hK
    subst q1 q2 q3
    simp only [itE, List.zip_toArray, List.zip_cons_cons, List.zip_nil_right, List.foldl_toArray', List.foldl_cons, List.foldl_nil, List.setIfInBounds_toArray, List.set_cons_succ, List.set_cons_zero, Array.zip, List.toList_toArray]
    gi_wp2
    have hg1 := bel_alloc X (Go.Obj.cells #[.int .i64 yb, .int .i64 yi] 49)
    have hg2 := bel_alloc (X.alloc (Go.Obj.cells #[.int .i64 yb, .int .i64 yi] 49)) (Go.Obj.cells #[.int .i64 d.op, .int .i64 d.ty, .int .i64 d.fl, .int .i64 d.pr, .int .i64 d.ca, .int .i64 d.sz, .slice p1 m1 g1, .slice p2 m2 g2, .slice p3 m3 g3] 47)
    have hg := bel_trans hg1 hg2
    have hX : w.heap.size ≤ X.heap.size := by have := hi.2.2.size; have := hBw4.size; omega
    have b1 := keep_cells (new_cells X (Go.Obj.cells #[.int .i64 yb, .int .i64 yi] 49)) hg2
    have b2 := new_cells (X.alloc (Go.Obj.cells #[.int .i64 yb, .int .i64 yi] 49)) (Go.Obj.cells #[.int .i64 d.op, .int .i64 d.ty, .int .i64 d.fl, .int .i64 d.pr, .int .i64 d.ca, .int .i64 d.sz, .slice p1 m1 g1, .slice p2 m2 g2, .slice p3 m3 g3] 47)
    rw [World.size_alloc] at b2
    exact hK _ _ (keepsFrom_below hg) (hg.mono hX) ⟨by
      obtain ⟨⟨u, q1, q2, q3⟩, -⟩ := hi
      exact ⟨u, (q1.alloc _).alloc _, (q2.alloc _).alloc _, q3⟩, ⟨keep_cells hi.2.1.1 hg, keep_cells hi.2.1.2 hg⟩, hi.2.2.trans (hg.mono hX)⟩ ⟨X.heap.size, X.heap.size + 1, b1, b2, _, _, rfl⟩
  case hAx =>
    rintro x a' u A E row ⟨B1, B2, p1, p2, p3⟩ hg hr
    exact ⟨B1, B2, cells_own (β := Unit) _ _ _ _ () _ _ _ p1 hg hr, cells_own (β := Unit) _ _ _ _ () _ _ _ p2 hg hr, p3⟩
  case body =>
    rintro lr pre x a' X hl - ⟨⟨u, hv, hrow, -⟩, ⟨r1, r3⟩, hB⟩ ⟨B1, B2, p1, p2, u12, u13, rfl⟩ hlt
    obtain ⟨⟨yb, yi, d, va, vb, vw⟩, hy⟩ := x
    have sh := hY4.sh hy
    have hin := hYi _ hy
    dsimp only at *
    have hops := hin.a.keep hB
    have CC : Kp (CallsIn Fence.wide 9 Try.prog _ _ X _) := ⟨callsIn_wide.2 (containsF va d.args (w.heap.size + 1) v X hops (at_cells r1 rfl))⟩
    obtain ⟨⟨j1, m1, g1, rfl⟩, ⟨j2, m2, g2, rfl⟩, ⟨j3, m3, g3, rfl⟩⟩ := sh
    have hX : w.heap.size ≤ X.heap.size := by have := hB.size; have := hBw4.size; omega
    have i6 : X.cell? ⟨B2, 6, none⟩ = some (.slice j1 m1 g1) := at_cells p2 rfl
    have f0 : X.cell? ⟨w.heap.size + 1 + 1 + 1, 0, none⟩ = some (.func (.func 18) #[] #[.pointer (some ⟨w.heap.size + 1, 0, none⟩)]) := at_cells r3 rfl
    have hlen : (useI v (pre.map (·.1))).length ≤ 1048576 := by
      have := useI_len v (pre.map (·.1))
      rw [List.length_map] at this
      omega
    obtain ⟨A, hA⟩ : ∃ A, A = useI v (pre.map (·.1)) := ⟨_, rfl⟩
    have hA2 : useI v ((pre ++ [(⟨⟨yb, yi, d, .slice j1 m1 g1, .slice j2 m2 g2, .slice j3 m3 g3⟩, hy⟩ : {y : ItD // y ∈ Y.flatten})]).map (·.1)) = if hasV v d then A ++ [(yb, yi)] else A := by
      rw [List.map_append, List.map_cons, List.map_nil, useI_snoc, hA]
      dsimp only
      split <;> simp
    rw [← hA] at hrow hlen
    obtain ⟨t, ht⟩ : ∃ t, t = d.args.any (opV v) := ⟨_, rfl⟩
    unfold hasV at hA2
    rw [← ht] at CC hA2
    clear hA ht hin hops p2
    gi_wp2
    refine ⟨trivial, ?_⟩
    refine CC.out.mono ?_
    rintro e w1 ⟨rfl, hb1⟩
    have hv1 : Boxed w1 (w.heap.size + 1 + 1) 27 u := keep_cells hv hb1
    have hrow1 : w1.ownsRow w.heap.size 49 2 u A.length (plV A) := (OwnP.keep ⟨hrow⟩ hb1).r
    have r11 := keep_cells r1 hb1
    have r31 : Boxed w1 (w.heap.size + 1 + 1 + 1) 55 _ := keep_cells r3 hb1
    have p11 := keep_cells p1 hb1
    have hB1 := bel_trans hB hb1
    have hX1 : w.heap.size ≤ w1.heap.size := by have := hb1.size; omega
    have KF := keepsFrom_below (B := W4.heap.size) hb1
    have c0 : w1.cell? ⟨B1, 0, none⟩ = some (.int .i64 yb) := at_cells p11 rfl
    have c1 : w1.cell? ⟨B1, 1, none⟩ = some (.int .i64 yi) := at_cells p11 rfl
    have hc := hv1.cell
    have hf := hv1.frozen
    have hb1' := hb1.mono hX
    clear CC hv hrow r1 r3 p1 hB hb1 i6 f0
    cases t with
    | false =>
      simp only [Bool.false_eq_true, if_false] at hA2
      replace hA2 := Kp.mk hA2
      gi_wp2
      exact ⟨KF, hb1', ⟨u, hv1, by rw [hA2.out]; exact hrow1, trivial⟩, ⟨r11, r31⟩, hB1⟩
    | true =>
      simp only [if_true] at hA2
      replace hA2 := Kp.mk hA2
      gi_wp2_with (gi_at_builtin; refine wpListIn_append_own _ rfl _ _ 27 rfl w.heap.size 49 i0 _ 2 16 Try.underlying27 hi0 hz0 hz1 hz2 rfl (by decide) _ _ _ rfl (hrow1.alloc _) ⟨w1.heap.size, 0, none⟩ 1 1 [.int .i64 yb, .int .i64 yi] rfl rfl (cell_two_new _ _ _ _) two_cell (by unfold maxLen; omega) (by omega) (by simp; omega) ?_; intro v' w2 hown' hgrow _; obtain ⟨g', cap', rfl⟩ := ownsRow_succ hown'; obtain ⟨hv2, hv3, hr2, hk2, hb2⟩ := hv1.appended (by decide) hrow1 hX1 (by omega) hown' hgrow; have hc1 := hv2.cell; have hf1 := hv2.frozen)
      have r1b : Boxed w1 (w.heap.size + 1) 2 (.int .i64 v) := r11
      have r12 := (r1b.alloc _).kept hgrow (r1b.not_row (by decide) hrow1)
      have r32 := (r31.alloc _).kept hgrow (r31.not_row (by decide) hrow1)
      have r13 := (Below.heap_setCell w2 ⟨w.heap.size + 1 + 1, 0, none⟩ (.slice (some ⟨g', 0, none⟩) (A.length + 1) cap') (w.heap.size + 1) (show w.heap.size + 1 ≠ w.heap.size + 1 + 1 by omega)).trans r12
      have r33 := (Below.heap_setCell w2 ⟨w.heap.size + 1 + 1, 0, none⟩ (.slice (some ⟨g', 0, none⟩) (A.length + 1) cap') (w.heap.size + 1 + 1 + 1) (show w.heap.size + 1 + 1 + 1 ≠ w.heap.size + 1 + 1 by omega)).trans r32
      exact ⟨KF.trans (hk2.from _), hb1'.trans hb2, ⟨_, hv3, by rw [hA2.out, List.length_append, plV_app]; exact hr2, trivial⟩, ⟨r13, r33⟩, hB1.trans hb2⟩
  case done =>
    rintro D xs X hD hxs ⟨⟨u, hv, hrow, -⟩, -, hB⟩ hK
    rw [hxs] at hrow
    have hc := hv.cell
    replace hrow := Kp.mk hrow
    gi_wp2
    refine ⟨by simp, .inl ⟨_, _, rfl, run_takeDeferred hK, ?_⟩⟩
    exact ⟨_, results_tmp rfl _ _ _, u, rfl, ⟨ownsRow_putObj hrow.out _ hK rfl⟩, hB.trans (belowK_b (w := w) (Nat.le_refl _) X D _ _ (by omega) hK rfl rfl)⟩
  case stop =>
    rintro D c pre X _ _ h _
    exact h.elim
end Go.Proofs.Ytmliokdeinlcgab
