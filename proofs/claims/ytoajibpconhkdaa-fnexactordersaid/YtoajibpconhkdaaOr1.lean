/- The order of a graph: the program's answer. -/
import Derived.Test.YtoajibpconhkdaaWk2
import Derived.Shelf.Abstract
import Derived.TacticsInMore
import Derived.OwnWalkIn
import Derived.LoopIn
import Derived.RegionIn
import Derived.Test.YtoajibpconhkdaaRv1
import Derived.Test.YtoajibpconhkdaaWs2
import Derived.RangeFuncBox
namespace Go.Proofs.Ytoajibpconhkdaa
open Go.ChangeShapes Go.WideShapes Go.ChangeAt Go.RowKit
attribute [local go_sem] Oper.semAt_some
set_option linter.unusedVariables false
set_option linter.unusedSimpArgs false
theorem walkC (vN vP : Value) (root : Int) (hN : ∃ a n c, vN = .slice a n c) (hP : ∃ a n c, vP = .slice a n c) (w : World) :
    Calls Try.prog 34 #[.agg #[vN, vP], .int .i64 root] w fun e w' => e = .returned (.func (.func 42) #[] #[.pointer (some ⟨w.heap.size + 1, 0, none⟩), .pointer (some ⟨w.heap.size, 0, none⟩)]) ∧ w' = (w.alloc (.cells #[vN, vP] 64)).alloc (.cells #[.int .i64 root] 2) := by
  obtain ⟨a1, n1, c1, rfl⟩ := hN
  obtain ⟨a2, n2, c2, rfl⟩ := hP
  go_enter Try.func34, Try.ntmps34
  go_wp2
  go_ret
  exact ⟨rfl, rfl⟩
theorem lefts_take (L : List (Int × Int × Bool)) (k : Nat) (h : k < L.length) : lefts (L.take (k + 1)) = if L[k].2.2 = true then lefts (L.take k) ++ [L[k].1] else lefts (L.take k) := by
  unfold lefts
  rw [List.take_succ_eq_append_getElem h, List.filter_append, List.map_append]
  by_cases q : L[k].2.2 = true
  · rw [if_pos q]; simp [q]
  · rw [if_neg q]; simp [q]
theorem lefts_len (L : List (Int × Int × Bool)) : (lefts L).length ≤ L.length := by
  unfold lefts
  rw [List.length_map]
  exact List.length_filter_le _ _
theorem lefts_app (A B : List (Int × Int × Bool)) : lefts (A ++ B) = lefts A ++ lefts B := by simp [lefts]
theorem lefts_take_len (L : List (Int × Int × Bool)) (k : Nat) : (lefts (L.take k)).length ≤ (lefts L).length := by
  have := congrArg (fun l => (lefts l).length) (List.take_append_drop k L)
  simp only [lefts_app, List.length_append] at this
  omega
/-- As many blocks are left as lie on the way, or have not been come to. -/
theorem Walks.left_len {nx : Int → List Int} {n k : Nat} {st : List (Int × Int × List Int)} {s : List Int} {E : List (Int × Int × Bool)} (hnx : ∀ i : Nat, i < n → ∀ y ∈ nx i, 0 ≤ y ∧ y < n) (h : Walks nx k st s E) : (∀ x ∈ st, ∀ y ∈ x.2.2, 0 ≤ y ∧ y < n) → (lefts E).length ≤ st.length + unS n s := by
  induction h with
  | nil s => intro _; simp [lefts]
  | leave k b f st s E h ih =>
    intro hv
    have := ih (fun x hx => hv x (by simp [hx]))
    rw [lefts_leave, List.length_cons, List.length_cons]
    omega
  | skip k b f c r st s E hc h ih =>
    intro hv
    have := ih (fun x hx y hy => by
      rcases List.mem_cons.1 hx with rfl | hx
      · exact hv (b, f, c :: r) (by simp) y (List.mem_cons_of_mem _ hy)
      · exact hv x (by simp [hx]) y hy)
    simpa using this
  | come k b f c r st s E hc h ih =>
    intro hv
    obtain ⟨c0, c1⟩ := hv (b, f, c :: r) (by simp) c (by simp)
    obtain ⟨t, rfl⟩ : ∃ t : Nat, c = t := ⟨c.toNat, by omega⟩
    have := ih (fun x hx y hy => by
      rcases List.mem_cons.1 hx with rfl | hx
      · exact hnx t (by omega) y hy
      · rcases List.mem_cons.1 hx with rfl | hx
        · exact hv (b, f, t :: r) (by simp) y (List.mem_cons_of_mem _ hy)
        · exact hv x (by simp [hx]) y hy)
    have hu := unS_add n (b := t) (by omega) hc
    rw [lefts_come]
    simp only [List.length_cons] at this ⊢
    omega
theorem wpListIn_append_run {F : Fence} {n : Nat} {P : Program} (w : World) {ops : Array Oper} {rest : List Oper} {o : Oper} {a : Act} {Q : Exit → Act → World → Prop} (hg : o.guard = none) (s x : Operand) (t : TypeId)
    (hop : o.op = Op.call { callee := Callee.builtin Builtin.append, args := #[s, x], argTypes := #[t, t] }) {v : Value} {w' : World} (hr : (Builtin.append_ #[t, t] o.type #[a.eval s, a.eval x]).run P w = .ok v w')
    (h : wpListIn F n P ops Q rest (a.put o.dst v) w') : wpListIn F n P ops Q (o :: rest) a w := by
  refine wpListIn_plain hg fun K hK => ?_
  unfold Oper.wpIn
  refine ⟨?_, ?_⟩
  · simp [Oper.about, hop, resolve, Target.leads, Sem.run_pure]
  · rw [Oper.semAt_plain F _ _ (by rw [hop]; intro c hc; cases hc)]
    simp [execOp, hop, resolve, invoke, builtin, hr, Result.andThen]
    exact hK _ _ h
/-- What the loop over the walk has so far. -/
structure OrI (w W3 : World) (B : Nat) (M : List Int) (T : Nat → Prop) (W : World) (v : Value) : Prop where
  box : Boxed W B 22 v
  row : OwnI W W3.heap.size v M
  t : ∀ b, T b ↔ (b = B ∨ v.ownBlock = some b)
  bel : Below w.heap.size w W
theorem ori_ab (w W3 : World) (B : Nat) (M : Nat → List Int) (hw : w.heap.size ≤ W3.heap.size) : AbF W3.heap.size (fun k T W => ∃ v, OrI w W3 B (M k) T W v) := by
  constructor
  · rintro k T A C ⟨v, h⟩ hA hK
    exact ⟨v, (hK.mine B ((h.t B).2 (.inl rfl))).trans h.box, ⟨row_kept' h.row.r (fun g hg => hK.mine g ((h.t g).2 (.inr hg)))⟩, h.t, ⟨hK.os.trans h.bel.os, hK.tape.trans h.bel.tape, hK.output.trans h.bel.output, Nat.le_trans h.bel.size hK.size, fun k hk => (hK.low k (by omega)).trans (h.bel.block k hk)⟩⟩
  · rintro k T A ⟨v, h⟩ b hb
    rcases (h.t b).1 hb with rfl | hb
    · exact h.box.lt
    · exact (h.row.r.lt b hb).2
/-- One block more, put behind. -/
theorem OrI.put {w W3 X w2 : World} {B : Nat} {M : List Int} {T : Nat → Prop} {v : Value} (h : OrI w W3 B M T X v) (hX : W3.heap.size ≤ X.heap.size) (hB : B < W3.heap.size) (hBw : w.heap.size ≤ B) {o : Obj} {g cap : Nat} {y : Int} (hg : (X.alloc o).grownBy w2 v.ownBlock)
    (hown : w2.ownsRow W3.heap.size 2 1 (.slice (some ⟨g, 0, none⟩) (M.length + 1) cap) (M.length + 1) (M.map (Value.int .i64) ++ [.int .i64 y])) (hat : v.ownBlock = some g ∨ g = X.heap.size + 1) (S : Nat → Prop) (hS : ∀ k, S k → k < W3.heap.size ∧ k ≠ B) :
    Boxed w2 B 22 v ∧ ∃ T', Grew T T' X ∧ KdT S T W3.heap.size X (w2.setCell ⟨B, 0, none⟩ (.slice (some ⟨g, 0, none⟩) (M.length + 1) cap)) ∧ OrI w W3 B (M ++ [y]) T' (w2.setCell ⟨B, 0, none⟩ (.slice (some ⟨g, 0, none⟩) (M.length + 1) cap)) (.slice (some ⟨g, 0, none⟩) (M.length + 1) cap) := by
  have hrow : ∀ k, v.ownBlock = some k → W3.heap.size ≤ k := fun k hk => (h.row.r.lt k hk).1
  have hlow : ∀ k, k < X.heap.size → some k ≠ v.ownBlock → w2.heap[k]? = X.heap[k]? := fun k hk hne => (hg.block k (by simp; omega) hne).trans ((MapKept.heap_alloc _ _).2 k (by omega))
  have hBb : B < X.heap.size := h.box.lt
  have hbx : Boxed w2 B 22 v := (hlow B hBb (fun e => by have := hrow B e.symm; omega)).trans h.box
  have hs2 : X.heap.size ≤ w2.heap.size := by have := hg.size; simp at this; omega
  have hgW : W3.heap.size ≤ g := (hown.lt g rfl).1
  refine ⟨hbx, fun b => b = B ∨ g = b, fun b hb => ?_, ?_, ?_⟩
  · rcases hb with rfl | rfl
    · exact .inl ((h.t _).2 (.inl rfl))
    · rcases hat with q | q
      · exact .inl ((h.t _).2 (.inr q))
      · exact .inr (by omega)
  · have hT : ∀ k, ¬ T k → k ≠ B ∧ some k ≠ v.ownBlock := fun k hk => ⟨fun e => hk ((h.t k).2 (.inl e)), fun e => hk ((h.t k).2 (.inr e.symm))⟩
    refine ⟨hg.os, hg.tape, hg.output, by simp [World.setCell]; omega, fun k hk => ?_, fun k hk hk2 hk3 => ?_⟩
    · obtain ⟨q1, q2⟩ := hS k hk
      exact (heap_set _ _ _ _ _ q2).trans (hlow k (by omega) (fun e => by have := hrow k e.symm; omega))
    · obtain ⟨q1, q2⟩ := hT k hk3
      exact (heap_set _ _ _ _ _ q1).trans (hlow k hk2 q2)
  · refine ⟨Boxed.set _ hbx, ⟨?_⟩, fun b => by simp [Value.ownBlock], ?_⟩
    · have e : (M ++ [y]).length = M.length + 1 := by simp
      rw [e, List.map_append]
      exact row_kept' hown (fun k hk => by
        simp only [Value.ownBlock, Option.some.injEq] at hk
        exact heap_set _ _ _ _ _ (by omega))
    · exact (((h.bel.alloc h.bel.size o).grown hg (by have := h.bel.size; simp; omega) (fun k hk => by have := hrow k hk; omega))).setCell (by show w.heap.size ≤ B; omega) _
set_option maxRecDepth 100000 in
set_option maxHeartbeats 8000000 in
theorem ordI (d : FnD) (vp vb : Value) (w : World) {lo : Nat} (h : FnAt lo w d vp vb) (hn : fnN d ≤ 1048576) :
    Calls Try.prog 18 #[fnV d vp vb] w fun e w' => ∃ v L, e = .returned v ∧ OrdOf (nextL d.blocks) d.blocks.length L ∧ OwnI w' w.heap.size v L ∧ Below w.heap.size w w' := by
  have CG : Kp (∀ W, Below w.heap.size w W → CallsIn Fence.wide 11 Try.prog 33 #[fnV d vp vb] W _) := ⟨fun W hW => callsIn_wide.2 (graphI d vp vb W (h.keep hW) hn)⟩
  unfold fnN at hn
  obtain ⟨name, link, params, res, blocks⟩ := d
  obtain ⟨-, hp, hb⟩ := h
  dsimp only [fnV] at *
  have nn := blsN_nn blocks
  have n2 : (blocks.length : Int) ≤ 1048576 := by omega
  obtain ⟨a1, k1, rfl⟩ := hp.shape
  obtain ⟨a2, k2, rfl⟩ := hb.shape
  clear hp hb
  by_cases h0 : blocks.length = 0
  · refine (callsIn_wide (n := 12)).1 ?_
    refine callsIn_of_wp_marks Try.func18 rfl trivial ?_ rfl
    simp only [Try.ntmps18, List.size_toArray, List.length_cons, List.length_nil, Nat.reduceAdd, Nat.reduceSub, Array.replicate_succ, Array.replicate_zero, List.push_toArray, List.append_toArray, List.nil_append, List.cons_append]
    gi_wp2
    exact ⟨_, results_tmp rfl _ _ _, _, [], rfl, .inl ⟨h0, rfl⟩, ⟨World.ownsRow_nil _ _ _ _⟩, bel_alloc _ _⟩
  have CW : Kp (∀ (vN vP : Value) (root : Int), (∃ a n c, vN = .slice a n c) → (∃ a n c, vP = .slice a n c) → ∀ W, CallsIn Fence.wide 11 Try.prog 34 #[.agg #[vN, vP], .int .i64 root] W _) := ⟨fun vN vP root hN hP W => callsIn_wide.2 (walkC vN vP root hN hP W)⟩
  have hn0 : ((blocks.length : Int) == 0) = false := by rw [beq_eq_false_iff_ne]; omega
  have hnp : 0 < blocks.length := by omega
  refine (callsIn_wide (n := 12)).1 ?_
  refine callsIn_of_wp_marks Try.func18 rfl trivial ?_ rfl
  simp only [Try.ntmps18, List.size_toArray, List.length_cons, List.length_nil, Nat.reduceAdd, Nat.reduceSub, Array.replicate_succ, Array.replicate_zero, List.push_toArray, List.append_toArray, List.nil_append, List.cons_append]
  obtain ⟨i0, hi0, hz0, hz1, hz2⟩ := info_parts info64
  obtain ⟨W1, hW1⟩ : ∃ W1, Kp (W1 = (w.alloc (Go.Obj.cells #[.string name, .int .i64 link, .slice a1 params.length k1, .int .i64 res, .slice a2 blocks.length k2] 30)).alloc (Go.Obj.cells #[.slice none 0 0] 22)) := ⟨_, ⟨rfl⟩⟩
  have hB1 : Below w.heap.size w W1 := by rw [hW1.out]; exact bel_trans (bel_alloc _ _) (bel_alloc _ _)
  have hx1 : W1.heap[w.heap.size]? = some (Go.Obj.cells #[.string name, .int .i64 link, .slice a1 params.length k1, .int .i64 res, .slice a2 blocks.length k2] 30 (0, 0)) := by rw [hW1.out]; exact keep_cells (new_cells w _) (bel_alloc _ _)
  have hbx1 : Boxed W1 (w.heap.size + 1) 22 (.slice none 0 0) := by
    have := new_cells (w.alloc (Go.Obj.cells #[.string name, .int .i64 link, .slice a1 params.length k1, .int .i64 res, .slice a2 blocks.length k2] 30)) (Go.Obj.cells #[.slice none 0 0] 22)
    rw [World.size_alloc] at this
    rw [hW1.out]; exact this
  have hs1 : W1.heap.size = w.heap.size + 2 := by rw [hW1.out]; simp
  have x0 : W1.cell? ⟨w.heap.size, 0, none⟩ = _ := at_cells hx1 rfl
  have x1 : W1.cell? ⟨w.heap.size, 1, none⟩ = _ := at_cells hx1 rfl
  have x2 : W1.cell? ⟨w.heap.size, 2, none⟩ = _ := at_cells hx1 rfl
  have x3 : W1.cell? ⟨w.heap.size, 3, none⟩ = _ := at_cells hx1 rfl
  have x4 : W1.cell? ⟨w.heap.size, 4, none⟩ = _ := at_cells hx1 rfl
  -- what the walk says
  have hnx : ∀ i : Nat, i < blocks.length → (nextL blocks i).length ≤ 1048576 ∧ ∀ y ∈ nextL blocks i, 0 ≤ y ∧ y < blocks.length := fun i hi => ⟨by have := @nextL_len blocks i; omega, fun y hy => nextL_bd hy⟩
  obtain ⟨k0, E, hE⟩ := exists_root (nextL blocks) blocks.length (fun i hi => (hnx i hi).2) 0 hnp
  have hOrd : Kp (OrdOf (nextL blocks) blocks.length (lefts E).reverse) := ⟨.inr ⟨hnp, k0, lefts E, hE.lw, rfl⟩⟩
  obtain ⟨L, hL⟩ : ∃ L, Kp (L = ((0 : Int), (0 : Int), false) :: E) := ⟨_, ⟨rfl⟩⟩
  have hEn : (lefts E).length ≤ blocks.length := by
    have h1 := hE.left_len (fun i hi => (hnx i hi).2) (fun x hx y hy => by
      obtain rfl := List.mem_singleton.1 hx
      exact (hnx 0 hnp).2 y hy)
    have h2 := unS_add blocks.length (s := []) hnp rfl
    have h3 := unS_nil blocks.length []
    rw [List.nil_append] at h2
    rw [List.length_singleton] at h1
    omega
  have hLl : Kp (lefts L = lefts E) := ⟨by rw [hL.out]; exact lefts_come _ _ _⟩
  replace hE := Kp.mk hE
  replace hnx := Kp.mk hnx
  replace hx1 := Kp.mk hx1
  gi_wp2
  rw [← hW1.out]
  gi_wp2
  refine ⟨trivial, ?_⟩
  refine (CG.out _ hB1).mono ?_
  rintro e W2 ⟨vN, vP, rfl, hN, hP, hB2⟩
  have hNs : ∃ a n c, vN = .slice a n c := by
    obtain ⟨_, _, ⟨⟨a, c, e, -⟩, -⟩, -⟩ := hN.ex
    exact ⟨a, _, c, e⟩
  have hPs : ∃ a n c, vP = .slice a n c := by
    obtain ⟨_, _, ⟨⟨a, c, e, -⟩, -⟩, -⟩ := hP.ex
    exact ⟨a, _, c, e⟩
  gi_wp2
  refine ⟨trivial, ?_⟩
  refine (CW.out vN vP 0 hNs hPs _).mono ?_
  rintro e W3' ⟨rfl, rfl⟩
  obtain ⟨W3, hW3⟩ : ∃ W3, Kp (W3 = (W2.alloc (Go.Obj.cells #[vN, vP] 64)).alloc (Go.Obj.cells #[.int .i64 0] 2)) := ⟨_, ⟨rfl⟩⟩
  have hzA : W3.heap.size ≤ W2.heap.size + 2 := by rw [hW3.out]; simp
  have hzB : W2.heap.size + 2 ≤ W3.heap.size := by rw [hW3.out]; simp
  have hzC : w.heap.size + 2 ≤ W2.heap.size := by have := hB2.size; omega
  have hB23 : Below W2.heap.size W2 W3 := by rw [hW3.out]; exact bel_trans (bel_alloc _ _) (bel_alloc _ _)
  have hB3 : Below w.heap.size w W3 := bel_trans (bel_trans hB1 hB2) hB23
  have hbx3 : Boxed W3 (w.heap.size + 1) 22 (.slice none 0 0) := (hB23.block _ (by omega)).trans ((hB2.block _ (by omega)).trans hbx1)
  obtain ⟨S, hSd⟩ : ∃ S : Nat → Prop, S = fun k => w.heap.size + 2 ≤ k ∧ k < W3.heap.size := ⟨_, rfl⟩
  have hSi : ∀ k, S k ↔ w.heap.size + 2 ≤ k ∧ k < W3.heap.size := fun k => by rw [hSd]
  clear hSd
  have rest : ∀ u r, Ints W1.heap.size .i64 W2 u r → RestOk S W3 u r := fun u r hr => by
    obtain ⟨b, o, ⟨⟨a, c, rfl, s1, s2⟩, s3⟩, hl, hc⟩ := hr.ex
    by_cases hr0 : 0 < r.length
    · exact ⟨b, o, ⟨⟨a, c, rfl, s1, s2⟩, s3⟩, (hSi b).2 ⟨by omega, by have : b < W2.heap.size := Lib.lt_of_cell (hc 0 hr0); omega⟩, fun i hi => at_keep (hc i hi) hB23⟩
    · exact ⟨W2.heap.size, 0, ⟨⟨a, c, rfl, s1, fun q => absurd q hr0⟩, s3⟩, (hSi _).2 ⟨by omega, by omega⟩, fun i hi => absurd hi (by omega)⟩
  have hGr : GrS S W3 vN blocks.length (nextL blocks) := by
    obtain ⟨b, o, s, hl, hc⟩ := hN.ex
    refine ⟨b, o, s, ?_, fun i hi => ?_⟩
    · obtain ⟨u, h1, h2⟩ := hc 0 hnp
      exact (hSi b).2 ⟨by omega, by have : b < W2.heap.size := Lib.lt_of_cell h1; omega⟩
    · obtain ⟨u, h1, h2⟩ := hc i hi
      exact ⟨u, at_keep h1 hB23, rest u _ h2⟩
  have hgc : W3.heap[W2.heap.size]? = some (Go.Obj.cells #[vN, vP] 64 (0, 0)) := by rw [hW3.out]; exact keep_cells (new_cells W2 _) (bel_alloc _ _)
  have hrc : W3.heap[W2.heap.size + 1]? = some (Go.Obj.cells #[.int .i64 0] 2 (0, 0)) := by
    have := new_cells (W2.alloc (Go.Obj.cells #[vN, vP] 64)) (Go.Obj.cells #[.int .i64 0] 2)
    rw [World.size_alloc] at this
    rw [hW3.out]; exact this
  have hseq : SeqF Fence.wide (12 - 1) Try.prog 42 #[.pointer (some ⟨W2.heap.size + 1, 0, none⟩), .pointer (some ⟨W2.heap.size, 0, none⟩)] stE S L W3 := by
    rw [hL.out]
    exact walk_seq (12 - 1) S W3 (W2.heap.size + 1) W2.heap.size 0 blocks.length (nextL blocks) vN vP hGr hPs (at_cells hrc rfl) (at_cells hgc rfl) (at_cells hgc rfl) ((hSi _).2 ⟨by omega, by omega⟩) ((hSi _).2 ⟨by omega, by omega⟩) (fun k hk => ((hSi k).1 hk).2) hnp (by omega) hnx.out k0 E hE.out
  have hI0 : OrI w W3 (w.heap.size + 1) (lefts (L.take 0)) (fun b => b = w.heap.size + 1) W3 (.slice none 0 0) := ⟨hbx3, ⟨World.ownsRow_nil _ _ _ _⟩, fun b => by simp [Value.ownBlock], hB3⟩
  replace hI0 := Kp.mk hI0
  replace hgc := Kp.mk hgc
  replace hrc := Kp.mk hrc
  replace hbx3 := Kp.mk hbx3
  replace hseq := Kp.mk hseq
  replace hGr := Kp.mk hGr
  clear rest hN hP
  gi_wp2
  rw [← hW3.out]
  refine wpIn_rangeF rfl (by decide) (gf := 42) (lb := #[.pointer (some ⟨W2.heap.size + 1, 0, none⟩), .pointer (some ⟨W2.heap.size, 0, none⟩)]) rfl trivial (enters_of Try.func42 (by kernel_rfl) rfl)
    hseq.out (Below.refl _ _) (fun k hk => ((hSi k).1 hk).2) (fun _ => rfl)
    (fun k T X => ∃ v, OrI w W3 (w.heap.size + 1) (lefts (L.take k)) T X v) (fun _ _ _ _ => False) (ori_ab w W3 (w.heap.size + 1) (fun k => lefts (L.take k)) (by omega)) (fun c => ⟨fun _ _ _ _ h _ _ => h.elim, fun _ _ _ h => h.elim⟩) (fun b => b = w.heap.size + 1) ⟨_, hI0.out⟩
    (fun x a' X => ∃ B1, X.heap[B1]? = some (Go.Obj.cells #[.int .i64 x.1, .int .i64 x.2.1, .bool x.2.2] 68 (0, 0)) ∧ ∃ u12,
      a' = { tmps := #[.agg #[.string name, .int .i64 link, .slice a1 params.length k1, .int .i64 res, .slice a2 blocks.length k2], .pointer (some ⟨w.heap.size, 0, none⟩), .slice none 0 0, .pointer (some ⟨w.heap.size + 1, 0, none⟩), .pointer (some ⟨B1, 0, none⟩), .pointer (some ⟨w.heap.size, 4, none⟩), .slice a2 blocks.length k2, .int .i64 blocks.length, .bool false,
        .agg #[.string name, .int .i64 link, .slice a1 params.length k1, .int .i64 res, .slice a2 blocks.length k2], .agg #[vN, vP], .func (.func 42) #[] #[.pointer (some ⟨W2.heap.size + 1, 0, none⟩), .pointer (some ⟨W2.heap.size, 0, none⟩)], u12, undef, undef, undef, undef, undef, undef, undef, undef, undef, undef], defers := [] }) ?hAx ?assign ?body ?done ?stop
  case hAx =>
    rintro x a' u A E row ⟨B1, p1, p3⟩ hg hr
    refine ⟨B1, (hg.block B1 (Array.getElem?_eq_some_iff.1 p1).1 (fun e => ?_)).trans p1, p3⟩
    obtain ⟨-, o, ho, hc⟩ := hr B1 e.symm
    rw [p1] at ho
    cases ho
    cases hc
  case assign =>
    intro lr k hk X K hX hK
    generalize L[k] = y at *
    obtain ⟨yb, yf, yl⟩ := y
    simp only [stE, List.zip_toArray, List.zip_cons_cons, List.zip_nil_right, List.foldl_toArray', List.foldl_cons, List.foldl_nil, List.setIfInBounds_toArray, List.set_cons_succ, List.set_cons_zero, Array.zip, List.toList_toArray]
    gi_wp2
    exact hK _ _ (bel_alloc _ _) ⟨X.heap.size, new_cells _ _, _, rfl⟩
  case body =>
    rintro lr k hk a' T X hX ⟨v, hv⟩ ⟨B1, p1, u12, rfl⟩
    have hml : (lefts (L.take k)).length ≤ 1048576 := by
      have h1 := lefts_take_len L k
      rw [hLl.out] at h1
      omega
    have hstep := Kp.mk (lefts_take L k hk)
    generalize L[k] = y at *
    obtain ⟨yb, yf, yl⟩ := y
    dsimp only at p1 hstep
    have c0 := at_cells p1 (j := 0) rfl
    have c2 := at_cells p1 (j := 2) rfl
    obtain ⟨M, hM⟩ : ∃ M, Kp (lefts (L.take k) = M) := ⟨_, ⟨rfl⟩⟩
    rw [hM.out] at hv hml hstep
    replace p1 := Kp.mk p1
    cases yl with
    | false =>
      replace hv := Kp.mk hv
      gi_wp2
      exact ⟨T, fun b hb => .inl hb, KdT.refl _ _ _ _, v, by rw [hstep.out, if_neg (by simp)]; exact hv.out⟩
    | true =>
      obtain ⟨av, cv, rfl⟩ := hv.row.shape
      have hc := hv.box.cell
      have hf := hv.box.frozen
      obtain ⟨gg, cap, w2, hrun, hown, hgrow, hat, hlt⟩ := run_append_lies (P := Try.prog) (X.alloc (Go.Obj.cells #[.int .i64 yb] 2)) 22 22 W3.heap.size 2 i0 _ 1 8 Try.underlying22 hi0 hz0 hz1 hz2 rfl (by omega) _ _ _ (hv.row.r.alloc _) ⟨X.heap.size, 0, none⟩ 1 1 [.int .i64 yb] rfl (World.news_of_block (cs := #[.int .i64 yb]) (t := 2) (fr := (0, 0)) (new_cells _ _)) (by simp [Value.oneCell']) (by omega) (by unfold maxLen; omega) (by omega) (by simp; omega) (X.heap.size + 1) (by simp)
      obtain ⟨hb2, T', hg', hk', hor⟩ := hv.put hX (by omega) (by omega) hgrow hown hat S (fun k hk => ⟨((hSi k).1 hk).2, by have := ((hSi k).1 hk).1; omega⟩)
      have hc2 := hb2.cell
      have hf2 := hb2.frozen
      have hst2 : lefts (L.take (k + 1)) = M ++ [yb] := by rw [hstep.out, if_pos rfl]
      rw [← hst2] at hor
      replace hst2 := Kp.mk hst2
      replace hor := Kp.mk hor
      replace hv := Kp.mk hv
      replace hb2 := Kp.mk hb2
      replace hrun := Kp.mk hrun
      clear hown hgrow hat
      gi_wp2_with (gi_at_builtin; refine wpListIn_append_run _ rfl (.tmp 15) (.tmp 18) 22 rfl hrun.out ?_)
      exact ⟨T', hg', hk', _, hor.out⟩
  case done =>
    rintro D T X hD ⟨v, hv⟩ hK hT
    rw [List.take_length, hLl.out] at hv
    obtain ⟨av, cv, rfl⟩ := hv.row.shape
    have hc := hv.box.cell
    have hDz := (Array.getElem?_eq_some_iff.1 hK).1
    have hXz : W3.heap.size ≤ X.heap.size := by omega
    have hBz : w.heap.size + 1 < W3.heap.size := by omega
    have CR : Kp (CallsIn Fence.wide 11 Try.prog 35 #[.slice av (lefts E).length cv] X _) := ⟨callsIn_wide.2 (revI _ _ X hv.row (by omega) hXz)⟩
    replace hv := Kp.mk hv
    gi_wp2
    refine ⟨trivial, ?_⟩
    refine CR.out.mono ?_
    rintro e W5 ⟨⟨u, rfl⟩, hO5, hB5, hG5⟩
    have hrow := fun k hk => (hv.out.row.r.lt k hk).1
    have hbx5 : Boxed W5 (w.heap.size + 1) 22 _ := (hB5.block _ hBz).trans hv.out.box
    have hc5 := hbx5.cell
    have hK5 : W5.heap[D]? = some (.deferred (some [])) := (hG5.block D hDz (fun e => hT ((hv.out.t D).2 (.inr e.symm)))).trans hK
    have hB05 : Below w.heap.size w W5 := hv.out.bel.trans (hB5.mono (by omega))
    replace hO5 := Kp.mk hO5
    replace hbx5 := Kp.mk hbx5
    gi_wp2
    refine ⟨by simp, .inl ⟨_, _, rfl, run_takeDeferred hK5, ?_⟩⟩
    refine ⟨_, results_tmp rfl _ _ _, _, _, rfl, hOrd.out, ⟨own_base (row_kept' hO5.out.r (fun g hg => World.putObj_heap_other (fun e => ?_))) (by omega)⟩, hB05.grown (grownBy_putObj' W5 D _) hB05.size (fun k hk => by cases hk; omega)⟩
    exact hT ((hv.out.t D).2 (.inr (Eq.trans hg (by rw [e]))))
  case stop =>
    rintro D c k T X _ _ h _ _
    exact h.elim
end Go.Proofs.Ytoajibpconhkdaa
