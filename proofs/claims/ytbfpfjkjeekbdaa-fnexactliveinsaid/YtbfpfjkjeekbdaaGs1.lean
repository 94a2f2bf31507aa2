/- The graph of a function: the specification's answer. -/
import Derived.Test.YtbfpfjkjeekbdaaGi1
import Derived.Test.YtbfpfjkjeekbdaaDf1
namespace Go.Proofs.Ytbfpfjkjeekbdaa
open Go.ChangeShapes Go.WideShapes Go.ChangeAt Go.RowKit
set_option linter.unusedVariables false
set_option linter.unusedSimpArgs false
theorem row_shape {w : World} {base n size : Nat} {e : TypeId} {v : Value} {xs : List Value} (h : w.ownsRow base e size v n xs) : ∃ a c, v = .slice a n c := by
  rcases h.2 with ⟨rfl, h0⟩ | ⟨g, cap, cur, rfl, _⟩
  · exact ⟨none, 0, by rw [h0]⟩
  · exact ⟨_, _, rfl⟩
theorem row_kept {w w' : World} {base n size : Nat} {e : TypeId} {v : Value} {xs : List Value} (h : w.ownsRow base e size v n xs) (hb : Below w.heap.size w w') : w'.ownsRow base e size v n xs := by
  refine ⟨h.1, ?_⟩
  rcases h.2 with h0 | ⟨g, cap, cur, rfl, hb1, hg, rest⟩
  · exact .inl h0
  · exact .inr ⟨g, cap, cur, rfl, hb1, keep_cells hg hb, rest⟩
theorem infoS : (Try.prog.info? 22).map (fun i => (i.zero, i.size, i.bytes)) = some (some (.slice none 0 0), 1, 24) := by kernel_rfl
/-- What holds between two blocks of the first loop. -/
structure GsA (blocks : List (List InD)) (w wr : World) (B : Nat) (Fo Ro : Obj) (vN vP : Value) (b m : Nat) (f : Nat → Value) : Prop where
  fam : Fam wr (w.heap.size + 3) (fun k : Nat => k < b) f (fun i => nextL blocks i)
  hN : wr.ownsRow (w.heap.size + 3) 22 1 vN b ((List.range b).map f)
  hP : wr.ownsRow (w.heap.size + 3) 22 1 vP m (List.replicate m (.slice none 0 0))
  ne : vN.ownBlock = none ∨ vN.ownBlock ≠ vP.ownBlock
  F : wr.heap[w.heap.size]? = some Fo
  G : wr.heap[B]? = some (Go.Obj.cells #[vN, vP] 45 (0, 0))
  R : wr.heap[w.heap.size + 1]? = some Ro
  bel : Below w.heap.size w wr
  sz : w.heap.size + 3 ≤ wr.heap.size
section
variable {blocks : List (List InD)} {w wr w' : World} {Fo Ro : Obj} {vN vP : Value} {b m : Nat} {f : Nat → Value}
theorem GsA.keep {B : Nat} (h : GsA blocks w wr B Fo Ro vN vP b m f) (hb : Below wr.heap.size wr w') : GsA blocks w w' B Fo Ro vN vP b m f :=
  ⟨h.fam.keep hb, row_kept h.hN hb, row_kept h.hP hb, h.ne, keep_cells h.F hb, keep_cells h.G hb, keep_cells h.R hb, bel_trans h.bel hb, by have := hb.size; have := h.sz; omega⟩
theorem ne_types {base n n' size size' base' : Nat} {e e' : TypeId} {v v' : Value} {xs xs' : List Value} {w : World} (h : w.ownsRow base e size v n xs) (h' : w.ownsRow base' e' size' v' n' xs') (he : e ≠ e') : v.ownBlock = none ∨ v.ownBlock ≠ v'.ownBlock := by
  rcases h.2 with ⟨rfl, _⟩ | ⟨g, cap, cur, rfl, hb, hg, _⟩
  · exact .inl rfl
  · exact .inr (own_ne h' hg he)
theorem set_cells' {w : World} {b : Nat} {arr : Array Value} {t : TypeId} (h : w.heap[b]? = some (Go.Obj.cells arr t (0, 0))) (j : Nat) (x : Value) : (w.setCell ⟨b, j, none⟩ x).heap[b]? = some (Go.Obj.cells (arr.setIfInBounds j x) t (0, 0)) := set_cells h j x
/-- 'g.Next = append(g.Next, NextBlocks(f, b))'. -/
theorem GsA.next {w2 w1 : World} (h : GsA blocks w wr (w.heap.size + 2) Fo Ro vN vP b b f) (hb : Below wr.heap.size wr w2) {v u : Value} (ho : OwnI w2 wr.heap.size v (nextL blocks b)) {o : Obj}
    (hg : (w2.alloc o).grownBy w1 vN.ownBlock) (hu : w1.ownsRow (w.heap.size + 3) 22 1 u (b + 1) ((List.range b).map f ++ [v])) (hl : vN.ownBlock = u.ownBlock ∨ u.ownBlock = some (w2.heap.size + 1)) :
    GsA blocks w (w1.setCell ⟨w.heap.size + 2, 0, none⟩ u) (w.heap.size + 2) Fo Ro u vP (b + 1) b (upd f b v) := by
  have h2 := h.keep (bel_trans hb (bel_alloc _ o))
  have hv2 := ho.keep (bel_alloc w2 o)
  have hrs : ∀ k, vN.ownBlock = some k → w.heap.size + 3 ≤ k := fun k hk => (h2.hN.lt _ hk).1
  have hlow : ∀ j, j < w.heap.size + 3 → w1.heap[j]? = (w2.alloc o).heap[j]? := fun j hj => hg.block j (by have := h2.sz; omega) (fun e => by have := hrs _ e.symm; omega)
  have hgs := Fam.setHd.gset w1 (w.heap.size + 2) 0 u
  have hfam1 : Fam w1 (w.heap.size + 3) (fun k : Nat => k < b + 1) (upd f b v) (fun i => nextL blocks i) := by
    constructor
    · intro k hk
      by_cases e : k = b
      · subst e
        rw [upd_same]
        refine World.ownsRow.kept ?_ hg ((ne_types hv2.r h2.hN (by decide)))
        exact ⟨hv2.r.1, hv2.r.2.elim Or.inl (fun ⟨g, cap, cur, hv, hg', r⟩ => Or.inr ⟨g, cap, cur, hv, by have := h.sz; omega, r⟩)⟩
      · rw [upd_other _ _ _ _ e]
        have hk' : k < b := by omega
        exact (h2.fam.own k hk').kept hg (ne_types (h2.fam.own k hk') h2.hN (by decide))
    · intro k l hk hl' hne
      have far : ∀ i, i < b → (f i).ownBlock ≠ v.ownBlock ∨ (f i).ownBlock = none := fun i hi => by
        cases hf : (f i).ownBlock with
        | none => exact .inr rfl
        | some g =>
          refine .inl fun q => ?_
          have h1 := (ho.r.lt _ q.symm).1
          have h3 := ((h.fam.own i hi).lt _ hf).2
          omega
      by_cases e : k = b
      · subst e
        rw [upd_same, upd_other _ _ _ _ (Ne.symm hne)]
        rcases far l (by omega) with q | q
        · exact .inr (Ne.symm q)
        · rw [q]
          cases v.ownBlock with
          | none => exact .inl rfl
          | some g => exact .inr (by simp)
      · rw [upd_other _ _ _ _ e]
        by_cases e2 : l = b
        · subst e2
          rw [upd_same]
          rcases far k (by omega) with q | q
          · exact .inr q
          · exact .inl q
        · rw [upd_other _ _ _ _ e2]
          exact h.fam.apart k l (by omega) (by omega) hne
  have hP1 : w1.ownsRow (w.heap.size + 3) 22 1 vP b (List.replicate b (.slice none 0 0)) := h2.hP.kept hg (by
    rcases h.ne with q | q
    · rw [q]
      cases vP.ownBlock with
      | none => exact .inl rfl
      | some g => exact .inr (by simp)
    · exact .inr (Ne.symm q))
  have apart2 : ∀ {e : TypeId} {n : Nat} {v' : Value} {xs : List Value}, w1.ownsRow (w.heap.size + 3) e 1 v' n xs → v'.ownBlock = none ∨ v'.ownBlock ≠ some (w.heap.size + 2) := fun h' => .inr (fun q => by have := (h'.lt _ q).1; omega)
  refine ⟨⟨fun k hk => (hfam1.own k hk).kept hgs (apart2 (hfam1.own k hk)), hfam1.apart⟩, ?_, hP1.kept hgs (apart2 hP1), ?_, ?_, ?_, ?_, ?_, ?_⟩
  · have e : (List.range (b + 1)).map (upd f b v) = (List.range b).map f ++ [v] := by
      rw [List.range_succ, List.map_append, List.map_singleton, upd_same]
      congr 1
      refine List.map_congr_left fun i hi => upd_other _ _ _ _ (by have := List.mem_range.1 hi; omega)
    rw [e]
    exact hu.kept hgs (apart2 hu)
  · rcases hl with q | q
    · rw [← q]; exact h.ne
    · refine .inr fun q2 => ?_
      have h3 := (h.hP.lt _ (q2.symm.trans q)).2
      have := hb.size
      omega
  · exact ((heap_set _ _ _ _ _ (by omega)).trans (hlow _ (by omega))).trans h2.F
  · exact set_cells' ((hlow _ (by omega)).trans h2.G) 0 u
  · exact ((heap_set _ _ _ _ _ (by omega)).trans (hlow _ (by omega))).trans h2.R
  · exact (h2.bel.grown hg h2.bel.size (fun j hj => by have := hrs _ hj; omega)).setCell (by show w.heap.size ≤ w.heap.size + 2; omega) _
  · have := hg.size; have := h2.sz; simp [World.setCell]; omega
/-- 'g.Prev = append(g.Prev, nil)'. -/
theorem GsA.prev {w1 : World} (h : GsA blocks w wr (w.heap.size + 2) Fo Ro vN vP (b + 1) b f) {u : Value} {o : Obj}
    (hg : (wr.alloc o).grownBy w1 vP.ownBlock) (hu : w1.ownsRow (w.heap.size + 3) 22 1 u (b + 1) (List.replicate (b + 1) (.slice none 0 0))) (hl : vP.ownBlock = u.ownBlock ∨ u.ownBlock = some (wr.heap.size + 1)) :
    GsA blocks w (w1.setCell ⟨w.heap.size + 2, 1, none⟩ u) (w.heap.size + 2) Fo Ro vN u (b + 1) (b + 1) f := by
  have h2 := h.keep (bel_alloc _ o)
  have hrs : ∀ k, vP.ownBlock = some k → w.heap.size + 3 ≤ k := fun k hk => (h2.hP.lt _ hk).1
  have hlow : ∀ j, j < w.heap.size + 3 → w1.heap[j]? = (wr.alloc o).heap[j]? := fun j hj => hg.block j (by have := h2.sz; omega) (fun e => by have := hrs _ e.symm; omega)
  have hgs := Fam.setHd.gset w1 (w.heap.size + 2) 1 u
  have hfam1 := h2.fam.kept hg (fun k hk => ne_types (h2.fam.own k hk) h2.hP (by decide))
  have hN1 : w1.ownsRow (w.heap.size + 3) 22 1 vN (b + 1) ((List.range (b + 1)).map f) := h2.hN.kept hg h.ne
  have apart2 : ∀ {e : TypeId} {n : Nat} {v' : Value} {xs : List Value}, w1.ownsRow (w.heap.size + 3) e 1 v' n xs → v'.ownBlock = none ∨ v'.ownBlock ≠ some (w.heap.size + 2) := fun h' => .inr (fun q => by have := (h'.lt _ q).1; omega)
  refine ⟨⟨fun k hk => (hfam1.own k hk).kept hgs (apart2 (hfam1.own k hk)), hfam1.apart⟩, hN1.kept hgs (apart2 hN1), hu.kept hgs (apart2 hu), ?_, ?_, ?_, ?_, ?_, ?_⟩
  · rcases hl with q | q
    · rw [← q]; exact h.ne
    · refine .inr fun q2 => ?_
      have h3 := (h.hN.lt _ (q2.trans q)).2
      omega
  · exact ((heap_set _ _ _ _ _ (by omega)).trans (hlow _ (by omega))).trans h2.F
  · exact set_cells' ((hlow _ (by omega)).trans h2.G) 1 u
  · exact ((heap_set _ _ _ _ _ (by omega)).trans (hlow _ (by omega))).trans h2.R
  · exact (h2.bel.grown hg h2.bel.size (fun j hj => by have := hrs _ hj; omega)).setCell (by show w.heap.size ≤ w.heap.size + 2; omega) _
  · have := hg.size; have := h2.sz; simp [World.setCell]; omega
/-- The first loop is at its end. -/
theorem GsA.done {B : Nat} (h : GsA blocks w wr B Fo Ro vN vP b b f) (h0 : 0 < b) : ∃ bN cN bP cP, vN = .slice (some ⟨bN, 0, none⟩) b cN ∧ vP = .slice (some ⟨bP, 0, none⟩) b cP ∧ b ≤ cN ∧ b ≤ cP ∧ HdG wr bN b f ∧ HdG wr bP b (fun _ => .slice none 0 0) ∧ bN ≠ bP ∧ w.heap.size + 3 ≤ bN ∧ w.heap.size + 3 ≤ bP := by
  obtain ⟨-, q | ⟨bN, cN, cur, rfl, h1, h2, h3, h4, h5, h6⟩⟩ := h.hN
  · omega
  obtain ⟨-, q | ⟨bP, cP, cup, rfl, p1, p2, p3, p4, p5, p6⟩⟩ := h.hP
  · omega
  have get : ∀ {c : Array Value} {n : Nat} {xs : List Value}, c.toList.take (n * 1) = xs → ∀ i, i < n → ∀ y, xs[i]? = some y → c[i]? = some y := fun {c n xs} hx i hi y hy => by
    rw [← hx, List.getElem?_take, if_pos (by omega)] at hy
    simpa using hy
  refine ⟨bN, cN, bP, cP, rfl, rfl, h3, p3, ⟨cur, h2, fun i hi => get h6 i hi _ (by simp [hi])⟩, ⟨cup, p2, fun i hi => get p6 i hi _ (by simp [hi])⟩, ?_, h1, p1⟩
  rintro rfl
  rcases h.ne with q | q
  · cases q
  · exact q rfl
end
set_option maxRecDepth 100000 in
set_option maxHeartbeats 8000000 in
theorem graphS (d : FnD) (vp vb : Value) (w : World) {lo : Nat} (h : FnAt lo w d vp vb) (hn : fnN d ≤ 1048576) :
    Calls Try.prog 24 #[fnV d vp vb] w fun e w' => ∃ vN vP, e = .returned (.agg #[vN, vP]) ∧ Rws w.heap.size w' vN d.blocks.length (fun i => nextL d.blocks i) ∧ Rws w.heap.size w' vP d.blocks.length (prevs d.blocks d.blocks.length) ∧ Below w.heap.size w w' := by
  have CN : Kp (∀ W (k : Nat), Below w.heap.size w W → Calls Try.prog 49 #[fnV d vp vb, .int .i64 k] W fun e w' => ∃ v, e = .returned v ∧ OwnI w' W.heap.size v (nextL d.blocks k) ∧ Below W.heap.size W w') := ⟨fun W k hW => nextS d vp vb k W (h.keep hW) hn⟩
  unfold fnN at hn
  obtain ⟨name, link, params, res, blocks⟩ := d
  obtain ⟨-, hp, hb⟩ := h
  dsimp only [fnV] at *
  have nn := blsN_nn blocks
  have n2 : (blocks.length : Int) ≤ 1048576 := by omega
  have n3 : blsN blocks ≤ 1048576 := by omega
  obtain ⟨a1, k1, rfl⟩ := hp.shape
  obtain ⟨a2, k2, rfl⟩ := hb.shape
  clear hp hb
  obtain ⟨Fo, hFo⟩ : ∃ Fo, Kp (Fo = Go.Obj.cells #[.string name, .int .i64 link, .slice a1 params.length k1, .int .i64 res, .slice a2 blocks.length k2] 30 (0, 0)) := ⟨_, ⟨rfl⟩⟩
  obtain ⟨Ro, hRo⟩ : ∃ Ro, Kp (Ro = Go.Obj.cells #[.slice none 0 0, .slice none 0 0] 45 (0, 0)) := ⟨_, ⟨rfl⟩⟩
  go_enter Try.func24, Try.ntmps24
  go_wp2_with fail
  have hF0 : ∀ (W : World) (o1 o2 o3 : Obj), (((W.alloc o1).alloc o2).alloc o3).heap[W.heap.size]? = some o1 ∧ (((W.alloc o1).alloc o2).alloc o3).heap[W.heap.size + 1]? = some o2 ∧ (((W.alloc o1).alloc o2).alloc o3).heap[W.heap.size + 2]? = some o3 := fun W o1 o2 o3 => ⟨keep_cells (keep_cells (new_cells W o1) (bel_alloc _ _)) (bel_alloc _ _), keep_cells (by have := new_cells (W.alloc o1) o2; rwa [World.size_alloc] at this) (bel_alloc _ _), by have := new_cells ((W.alloc o1).alloc o2) o3; rwa [World.size_alloc, World.size_alloc] at this⟩
  have FK : Kp (∀ W' : World, W'.heap[w.heap.size]? = some Fo → (W'.cell? ⟨w.heap.size, 0, none⟩ = some (.string name) ∧ W'.cell? ⟨w.heap.size, 1, none⟩ = some (.int .i64 link) ∧ W'.cell? ⟨w.heap.size, 2, none⟩ = some (.slice a1 params.length k1) ∧ W'.cell? ⟨w.heap.size, 3, none⟩ = some (.int .i64 res) ∧ W'.cell? ⟨w.heap.size, 4, none⟩ = some (.slice a2 blocks.length k2))) := ⟨fun W' hF => by rw [hFo.out] at hF; exact ⟨at_cells hF rfl, at_cells hF rfl, at_cells hF rfl, at_cells hF rfl, at_cells hF rfl⟩⟩
  obtain ⟨i0, hi0, hz0, hz1, hz2⟩ := info_parts infoS
  obtain ⟨W0, hW⟩ : ∃ W0, Kp (W0 = ((w.alloc (Go.Obj.cells #[.string name, .int .i64 link, .slice a1 params.length k1, .int .i64 res, .slice a2 blocks.length k2] 30)).alloc (Go.Obj.cells #[.slice none 0 0, .slice none 0 0] 45)).alloc (Go.Obj.cells #[.slice none 0 0, .slice none 0 0] 45)) := ⟨_, ⟨rfl⟩⟩
  have hA0 : GsA blocks w W0 (w.heap.size + 2) Fo Ro (.slice none 0 0) (.slice none 0 0) 0 0 (fun _ => .slice none 0 0) := by
    obtain ⟨q1, q2, q3⟩ := hF0 w (Go.Obj.cells #[.string name, .int .i64 link, .slice a1 params.length k1, .int .i64 res, .slice a2 blocks.length k2] 30) (Go.Obj.cells #[.slice none 0 0, .slice none 0 0] 45) (Go.Obj.cells #[.slice none 0 0, .slice none 0 0] 45)
    rw [← hW.out] at q1 q2 q3
    refine ⟨⟨fun k hk => by omega, fun k l hk => by omega⟩, World.ownsRow_nil _ _ _ _, World.ownsRow_nil _ _ _ _, .inl rfl, by rw [hFo.out]; exact q1, q3, by rw [hRo.out]; exact q2, ?_, ?_⟩
    · rw [hW.out]; exact bel_trans (bel_trans (bel_alloc _ _) (bel_alloc _ _)) (bel_alloc _ _)
    · rw [hW.out]; simp
  clear hF0
  rw [← hW.out]
  clear hW
  go_loopw [4] (fun r wr => ∃ (b : Nat) (vN vP : Value) (f : Nat → Value), b ≤ blocks.length ∧ r = .int .i64 b ∧ GsA blocks w wr (w.heap.size + 2) Fo Ro vN vP b b f) (fun r _ => blocks.length - (intOf r).toNat)
  case atStart => exact ⟨0, _, _, _, Nat.zero_le _, rfl, hA0⟩
  case round =>
    clear hA0
    obtain ⟨b, vN, vP, f, hb, rfl, hI⟩ := hrel
    have S0 := FK.out wr hI.F
    have x4 := S0.2.2.2.2
    by_cases hlt : b < blocks.length
    · obtain ⟨aN, cN, rfl⟩ := row_shape hI.hN
      obtain ⟨aP, cP, rfl⟩ := row_shape hI.hP
      have y0 := at_cells (j := 0) hI.G rfl
      have l0 := hI.sz
      replace hI := Kp.mk hI
      clear S0
      go_upto_region 5 with fail
      go_cut [] (fun wc => ∃ (vN : Value) (f : Nat → Value), GsA blocks w wc (w.heap.size + 2) Fo Ro vN (.slice aP b cP) (b + 1) b f)
      case first =>
        refine wp_region_held_drew (S := fun W' => W'.cell? ⟨w.heap.size, 0, none⟩ = some (.string name) ∧ W'.cell? ⟨w.heap.size, 1, none⟩ = some (.int .i64 link) ∧ W'.cell? ⟨w.heap.size, 2, none⟩ = some (.slice a1 params.length k1) ∧ W'.cell? ⟨w.heap.size, 3, none⟩ = some (.int .i64 res) ∧ W'.cell? ⟨w.heap.size, 4, none⟩ = some (.slice a2 blocks.length k2)) (by kernel_rfl) (FK.out wr hI.out.F) (fun hHeld => ?_)
        refine wpAnyH_take (i := 0) (v := .pointer (some ⟨w.heap.size + 2, 0, none⟩)) rfl (by kernel_rfl) (by kernel_rfl) (by kernel_rfl) (fun _ _ _ h => h) (Or.inl ⟨by rfl, fun wq hSw => by (try dsimp only at hSw); go_simp⟩) hHeld ?_
        try simp only [Act.put, List.getElem_toArray, List.getElem_cons_succ, List.getElem_cons_zero, List.setIfInBounds_toArray, List.set_cons_zero, List.set_cons_succ]
        refine wpAnyH_take (i := 2) (v := .agg #[.string name, .int .i64 link, .slice a1 params.length k1, .int .i64 res, .slice a2 blocks.length k2]) rfl (by kernel_rfl) (by kernel_rfl) (by kernel_rfl) (fun _ _ _ h => h) (Or.inl ⟨by rfl, fun wq hSw => by (try dsimp only at hSw); go_simp⟩) hHeld ?_
        try simp only [Act.put, List.getElem_toArray, List.getElem_cons_succ, List.getElem_cons_zero, List.setIfInBounds_toArray, List.set_cons_zero, List.set_cons_succ]
        refine wpAnyH_take (i := 3) (v := .int .i64 b) rfl (by kernel_rfl) (by kernel_rfl) (by kernel_rfl) (fun _ _ _ h => h) (Or.inl ⟨by rfl, fun wq hSw => by (try dsimp only at hSw); go_simp⟩) hHeld ?_
        try simp only [Act.put, List.getElem_toArray, List.getElem_cons_succ, List.getElem_cons_zero, List.setIfInBounds_toArray, List.set_cons_zero, List.set_cons_succ]
        refine wpAnyH_ready (rs := [1, 4]) (by kernel_rfl) (by simp) ?_
        refine AllReadyH.cons rfl (fun K hK => ?_) (AllReadyH.cons rfl (fun K hK => ?_) AllReadyH.nil)
        · go_simp
          refine hK.out _ _ (FK.out _ hI.out.F) (fun hHeld => ?_)
          clear hK K
          try simp only [Act.put, List.getElem_toArray, List.getElem_cons_succ, List.getElem_cons_zero, List.setIfInBounds_toArray, List.set_cons_zero, List.set_cons_succ]
          refine wpAnyH_ready (rs := [4]) (by kernel_rfl) (by simp) ?_
          refine AllReadyH.cons rfl (fun K hK => ?_) AllReadyH.nil
          go_simp
          refine (CN.out wr.drew b (bel_trans hI.out.bel (bel_drew wr))).mono ?_
          rintro e w2 ⟨v2, rfl, hO2, hb2⟩
          obtain ⟨av, cv, rfl⟩ := hO2.shape
          have hI2 := hI.out.keep (bel_trans (bel_drew wr) hb2)
          have S2 := FK.out w2 hI2.F
          have y02 := at_cells (j := 0) hI2.G rfl
          refine hK.out _ _ S2 (fun hHeld => ?_)
          clear hK K
          try simp only [Act.put, List.getElem_toArray, List.getElem_cons_succ, List.getElem_cons_zero, List.setIfInBounds_toArray, List.set_cons_zero, List.set_cons_succ]
          refine wpAnyH_ready (rs := [5]) (by kernel_rfl) (by simp) ?_
          refine AllReadyH.cons rfl (fun K hK => ?_) AllReadyH.nil
          go_simp
          refine hK.out _ _ (FK.out _ (keep_cells hI2.F (bel_alloc _ _))) (fun hHeld => ?_)
          clear hK K
          try simp only [Act.put, List.getElem_toArray, List.getElem_cons_succ, List.getElem_cons_zero, List.setIfInBounds_toArray, List.set_cons_zero, List.set_cons_succ]
          refine wpAnyH_ready (rs := [6]) (by kernel_rfl) (by simp) ?_
          refine AllReadyH.cons rfl (fun K hK => ?_) AllReadyH.nil
          refine step_append_lies _ (by rfl) _ _ _ (by rfl) (w.heap.size + 3) 22 i0 _ 1 24 Try.underlying43 hi0 hz0 hz1 hz2 rfl (by omega) (.slice aN b cN) b ((List.range b).map f) (by rfl) (hI2.hN.alloc _)
            ⟨w2.heap.size, 0, none⟩ 1 1 [.slice av (nextL blocks b).length cv] (by rfl) (by rfl) (World.news_of_block (cs := #[.slice av (nextL blocks b).length cv]) (t := 22) (fr := (0, 0)) (heap_alloc_new w2 _)) (by simp [Value.oneCell'])
            (by omega) (by unfold maxLen; omega) (by omega) (by simp; have := hI2.sz; omega) (w2.heap.size + 1) (by simp) ?_
          intro gg cap w3 hown3 hgrow hat hlt'
          have hI4 := hI.out.next (bel_trans (bel_drew wr) hb2) hO2 hgrow hown3 (by rcases hat with q | q; exact .inl q; exact .inr (by rw [q]; simp [Value.ownBlock]))
          have l2 := hI2.sz
          have fr : ∀ j : Nat, j < w.heap.size + 3 → w3.heap[j]? = w2.heap[j]? := fun j hj => (hgrow.block j (by simp; omega) (fun e => by have := (hI2.hN.lt _ e.symm).1; omega)).trans ((MapKept.heap_alloc _ _).2 j (by omega))
          have S3 := FK.out w3 ((fr _ (by omega)).trans hI2.F)
          have z1 : w3.frozen? ⟨w.heap.size + 2, 0, none⟩ = false := rw_cells ((fr _ (by omega)).trans hI2.G) 0
          have z2 := at_cells (j := 0) ((fr _ (by omega)).trans hI2.G) rfl
          refine hK.out _ _ S3 (fun hHeld => ?_)
          clear hK K
          try simp only [Act.put, List.getElem_toArray, List.getElem_cons_succ, List.getElem_cons_zero, List.setIfInBounds_toArray, List.set_cons_zero, List.set_cons_succ]
          refine wpAnyH_take (i := 7) (v := .pointer (some ⟨w.heap.size + 2, 0, none⟩)) rfl (by kernel_rfl) (by kernel_rfl) (by kernel_rfl) (fun _ _ _ h => h) (Or.inl ⟨by rfl, fun wq hSw => by (try dsimp only at hSw); go_simp⟩) hHeld ?_
          try simp only [Act.put, List.getElem_toArray, List.getElem_cons_succ, List.getElem_cons_zero, List.setIfInBounds_toArray, List.set_cons_zero, List.set_cons_succ]
          refine wpAnyH_ready (rs := [8]) (by kernel_rfl) (by simp) ?_
          refine AllReadyH.cons rfl (fun K hK => ?_) AllReadyH.nil
          go_simp
          refine hK.out _ _ (FK.out _ hI4.F) (fun hHeld => ?_)
          clear hK K
          try simp only [Act.put, List.getElem_toArray, List.getElem_cons_succ, List.getElem_cons_zero, List.setIfInBounds_toArray, List.set_cons_zero, List.set_cons_succ]
          refine wpAnyH_done (by kernel_rfl) ?_ _
          go_wp2_with fail
          go_meet
          exact ⟨_, _, hI4⟩
        · go_simp
          refine (CN.out wr.drew b (bel_trans hI.out.bel (bel_drew wr))).mono ?_
          rintro e w2 ⟨v2, rfl, hO2, hb2⟩
          obtain ⟨av, cv, rfl⟩ := hO2.shape
          have hI2 := hI.out.keep (bel_trans (bel_drew wr) hb2)
          have S2 := FK.out w2 hI2.F
          have y02 := at_cells (j := 0) hI2.G rfl
          refine hK.out _ _ S2 (fun hHeld => ?_)
          clear hK K
          try simp only [Act.put, List.getElem_toArray, List.getElem_cons_succ, List.getElem_cons_zero, List.setIfInBounds_toArray, List.set_cons_zero, List.set_cons_succ]
          refine wpAnyH_ready (rs := [1, 5]) (by kernel_rfl) (by simp) ?_
          refine AllReadyH.cons rfl (fun K hK => ?_) (AllReadyH.cons rfl (fun K hK => ?_) AllReadyH.nil)
          · go_simp
            refine hK.out _ _ S2 (fun hHeld => ?_)
            clear hK K
            try simp only [Act.put, List.getElem_toArray, List.getElem_cons_succ, List.getElem_cons_zero, List.setIfInBounds_toArray, List.set_cons_zero, List.set_cons_succ]
            refine wpAnyH_ready (rs := [5]) (by kernel_rfl) (by simp) ?_
            refine AllReadyH.cons rfl (fun K hK => ?_) AllReadyH.nil
            go_simp
            refine hK.out _ _ (FK.out _ (keep_cells hI2.F (bel_alloc _ _))) (fun hHeld => ?_)
            clear hK K
            try simp only [Act.put, List.getElem_toArray, List.getElem_cons_succ, List.getElem_cons_zero, List.setIfInBounds_toArray, List.set_cons_zero, List.set_cons_succ]
            refine wpAnyH_ready (rs := [6]) (by kernel_rfl) (by simp) ?_
            refine AllReadyH.cons rfl (fun K hK => ?_) AllReadyH.nil
            refine step_append_lies _ (by rfl) _ _ _ (by rfl) (w.heap.size + 3) 22 i0 _ 1 24 Try.underlying43 hi0 hz0 hz1 hz2 rfl (by omega) (.slice aN b cN) b ((List.range b).map f) (by rfl) (hI2.hN.alloc _)
              ⟨w2.heap.size, 0, none⟩ 1 1 [.slice av (nextL blocks b).length cv] (by rfl) (by rfl) (World.news_of_block (cs := #[.slice av (nextL blocks b).length cv]) (t := 22) (fr := (0, 0)) (heap_alloc_new w2 _)) (by simp [Value.oneCell'])
              (by omega) (by unfold maxLen; omega) (by omega) (by simp; have := hI2.sz; omega) (w2.heap.size + 1) (by simp) ?_
            intro gg cap w3 hown3 hgrow hat hlt'
            have hI4 := hI.out.next (bel_trans (bel_drew wr) hb2) hO2 hgrow hown3 (by rcases hat with q | q; exact .inl q; exact .inr (by rw [q]; simp [Value.ownBlock]))
            have l2 := hI2.sz
            have fr : ∀ j : Nat, j < w.heap.size + 3 → w3.heap[j]? = w2.heap[j]? := fun j hj => (hgrow.block j (by simp; omega) (fun e => by have := (hI2.hN.lt _ e.symm).1; omega)).trans ((MapKept.heap_alloc _ _).2 j (by omega))
            have S3 := FK.out w3 ((fr _ (by omega)).trans hI2.F)
            have z1 : w3.frozen? ⟨w.heap.size + 2, 0, none⟩ = false := rw_cells ((fr _ (by omega)).trans hI2.G) 0
            have z2 := at_cells (j := 0) ((fr _ (by omega)).trans hI2.G) rfl
            refine hK.out _ _ S3 (fun hHeld => ?_)
            clear hK K
            try simp only [Act.put, List.getElem_toArray, List.getElem_cons_succ, List.getElem_cons_zero, List.setIfInBounds_toArray, List.set_cons_zero, List.set_cons_succ]
            refine wpAnyH_take (i := 7) (v := .pointer (some ⟨w.heap.size + 2, 0, none⟩)) rfl (by kernel_rfl) (by kernel_rfl) (by kernel_rfl) (fun _ _ _ h => h) (Or.inl ⟨by rfl, fun wq hSw => by (try dsimp only at hSw); go_simp⟩) hHeld ?_
            try simp only [Act.put, List.getElem_toArray, List.getElem_cons_succ, List.getElem_cons_zero, List.setIfInBounds_toArray, List.set_cons_zero, List.set_cons_succ]
            refine wpAnyH_ready (rs := [8]) (by kernel_rfl) (by simp) ?_
            refine AllReadyH.cons rfl (fun K hK => ?_) AllReadyH.nil
            go_simp
            refine hK.out _ _ (FK.out _ hI4.F) (fun hHeld => ?_)
            clear hK K
            try simp only [Act.put, List.getElem_toArray, List.getElem_cons_succ, List.getElem_cons_zero, List.setIfInBounds_toArray, List.set_cons_zero, List.set_cons_succ]
            refine wpAnyH_done (by kernel_rfl) ?_ _
            go_wp2_with fail
            go_meet
            exact ⟨_, _, hI4⟩
          · go_simp
            refine hK.out _ _ (FK.out _ (keep_cells hI2.F (bel_alloc _ _))) (fun hHeld => ?_)
            clear hK K
            try simp only [Act.put, List.getElem_toArray, List.getElem_cons_succ, List.getElem_cons_zero, List.setIfInBounds_toArray, List.set_cons_zero, List.set_cons_succ]
            refine wpAnyH_ready (rs := [1]) (by kernel_rfl) (by simp) ?_
            refine AllReadyH.cons rfl (fun K hK => ?_) AllReadyH.nil
            have y03 := at_keep y02 (bel_alloc w2 (Go.Obj.cells #[.slice av (nextL blocks b).length cv] 22))
            go_simp
            refine hK.out _ _ (FK.out _ (keep_cells hI2.F (bel_alloc _ _))) (fun hHeld => ?_)
            clear hK K
            try simp only [Act.put, List.getElem_toArray, List.getElem_cons_succ, List.getElem_cons_zero, List.setIfInBounds_toArray, List.set_cons_zero, List.set_cons_succ]
            refine wpAnyH_ready (rs := [6]) (by kernel_rfl) (by simp) ?_
            refine AllReadyH.cons rfl (fun K hK => ?_) AllReadyH.nil
            refine step_append_lies _ (by rfl) _ _ _ (by rfl) (w.heap.size + 3) 22 i0 _ 1 24 Try.underlying43 hi0 hz0 hz1 hz2 rfl (by omega) (.slice aN b cN) b ((List.range b).map f) (by rfl) (hI2.hN.alloc _)
              ⟨w2.heap.size, 0, none⟩ 1 1 [.slice av (nextL blocks b).length cv] (by rfl) (by rfl) (World.news_of_block (cs := #[.slice av (nextL blocks b).length cv]) (t := 22) (fr := (0, 0)) (heap_alloc_new w2 _)) (by simp [Value.oneCell'])
              (by omega) (by unfold maxLen; omega) (by omega) (by simp; have := hI2.sz; omega) (w2.heap.size + 1) (by simp) ?_
            intro gg cap w3 hown3 hgrow hat hlt'
            have hI4 := hI.out.next (bel_trans (bel_drew wr) hb2) hO2 hgrow hown3 (by rcases hat with q | q; exact .inl q; exact .inr (by rw [q]; simp [Value.ownBlock]))
            have l2 := hI2.sz
            have fr : ∀ j : Nat, j < w.heap.size + 3 → w3.heap[j]? = w2.heap[j]? := fun j hj => (hgrow.block j (by simp; omega) (fun e => by have := (hI2.hN.lt _ e.symm).1; omega)).trans ((MapKept.heap_alloc _ _).2 j (by omega))
            have S3 := FK.out w3 ((fr _ (by omega)).trans hI2.F)
            have z1 : w3.frozen? ⟨w.heap.size + 2, 0, none⟩ = false := rw_cells ((fr _ (by omega)).trans hI2.G) 0
            have z2 := at_cells (j := 0) ((fr _ (by omega)).trans hI2.G) rfl
            refine hK.out _ _ S3 (fun hHeld => ?_)
            clear hK K
            try simp only [Act.put, List.getElem_toArray, List.getElem_cons_succ, List.getElem_cons_zero, List.setIfInBounds_toArray, List.set_cons_zero, List.set_cons_succ]
            refine wpAnyH_take (i := 7) (v := .pointer (some ⟨w.heap.size + 2, 0, none⟩)) rfl (by kernel_rfl) (by kernel_rfl) (by kernel_rfl) (fun _ _ _ h => h) (Or.inl ⟨by rfl, fun wq hSw => by (try dsimp only at hSw); go_simp⟩) hHeld ?_
            try simp only [Act.put, List.getElem_toArray, List.getElem_cons_succ, List.getElem_cons_zero, List.setIfInBounds_toArray, List.set_cons_zero, List.set_cons_succ]
            refine wpAnyH_ready (rs := [8]) (by kernel_rfl) (by simp) ?_
            refine AllReadyH.cons rfl (fun K hK => ?_) AllReadyH.nil
            go_simp
            refine hK.out _ _ (FK.out _ hI4.F) (fun hHeld => ?_)
            clear hK K
            try simp only [Act.put, List.getElem_toArray, List.getElem_cons_succ, List.getElem_cons_zero, List.setIfInBounds_toArray, List.set_cons_zero, List.set_cons_succ]
            refine wpAnyH_done (by kernel_rfl) ?_ _
            go_wp2_with fail
            go_meet
            exact ⟨_, _, hI4⟩
      case rest =>
        clear hI y0 x4
        obtain ⟨vN', f', hI5⟩ := hcut
        have y1 := at_cells (j := 1) hI5.G rfl
        have l5 := hI5.sz
        replace hI5 := Kp.mk hI5
        have fr : ∀ (o : Obj) (w3 : World), (wc.alloc o).grownBy w3 (Value.slice aP b cP).ownBlock → ∀ j : Nat, j < w.heap.size + 3 → w3.heap[j]? = wc.heap[j]? := fun o w3 hg j hj => (hg.block j (by simp; omega) (fun e => by have := (hI5.out.hP.lt _ e.symm).1; omega)).trans ((MapKept.heap_alloc _ _).2 j (by omega))
        go_wp2_with (at_builtin; refine wpList_append_lies _ rfl _ _ _ rfl (w.heap.size + 3) 22 i0 _ 1 24 Try.underlying43 hi0 hz0 hz1 hz2 rfl (by omega) (.slice aP b cP) b (List.replicate b (.slice none 0 0)) rfl (hI5.out.hP.alloc _) ⟨wc.heap.size, 0, none⟩ 1 1 [.slice none 0 0] rfl rfl (World.news_of_block (cs := #[.slice none 0 0]) (t := 22) (fr := (0, 0)) (heap_alloc_new wc _)) (by simp [Value.oneCell']) (by omega) (by unfold maxLen; omega) (by omega) (by simp; omega) (wc.heap.size + 1) (by simp) ?_; intro gg cap w3 hown3 hgrow hat hlt'; have z1 : w3.frozen? ⟨w.heap.size + 2, 1, none⟩ = false := rw_cells ((fr _ _ hgrow _ (by omega)).trans hI5.out.G) 1; have z2 := at_cells (j := 1) ((fr _ _ hgrow _ (by omega)).trans hI5.out.G) rfl)
        have hI6 := hI5.out.prev hgrow (by rw [List.replicate_succ']; exact hown3) (by rcases hat with q | q; exact .inl q; exact .inr (by rw [q]; simp [Value.ownBlock]))
        exact ⟨⟨b + 1, _, _, _, by omega, by go_num, hI6⟩, by simp [intOf]; omega⟩
    · obtain rfl : b = blocks.length := by omega
      clear hb S0
      by_cases h0 : 0 < blocks.length
      · obtain ⟨bN, cN, bP, cP, rfl, rfl, hcN, hcP, hN, hP, hne, hB2', hB3'⟩ := hI.done h0
        have hB2 : w.heap.size + 2 ≤ bN := by omega
        have hB3 : w.heap.size + 2 ≤ bP := by omega
        have hBN : w.heap.size + 2 ≠ bN := by omega
        have hBP : w.heap.size + 2 ≠ bP := by omega
        obtain ⟨i1, hj0, hjz0, hjz1, hjz2⟩ := info_parts info64
        obtain ⟨Go', hGo⟩ : ∃ Go', Kp (Go' = Go.Obj.cells #[.slice (some ⟨bN, 0, none⟩) blocks.length cN, .slice (some ⟨bP, 0, none⟩) blocks.length cP] 45 (0, 0)) := ⟨_, ⟨rfl⟩⟩
        have hJ : GrI blocks w wr (w.heap.size + 2) bN bP Fo Go' Ro blocks.length (prevs blocks 0) (fun k => if k.1 = true then .slice none 0 0 else f k.2) (fun k => if k.1 = true then [] else nextL blocks k.2) := by
          refine ⟨⟨fun k hk => ?_, fun k l hk hl hkl => ?_⟩, hN.congr (fun i hi => rfl), hP.congr (fun i hi => rfl), fun i hi => by simp [hi], fun i hi => rfl, hI.F, by rw [hGo.out]; exact hI.G, hI.R, hI.bel⟩
          · obtain ⟨k1, k2⟩ := k
            cases k1 with
            | true => exact ⟨rfl, .inl ⟨rfl, rfl⟩⟩
            | false =>
              have := hI.fam.own k2 hk
              exact ⟨this.1, this.2.elim Or.inl (fun ⟨g, cap, cur, hv, hg', r⟩ => Or.inr ⟨g, cap, cur, hv, by omega, r⟩)⟩
          · obtain ⟨k1, k2⟩ := k
            obtain ⟨l1, l2⟩ := l
            cases k1 with
            | true => exact .inl rfl
            | false =>
              cases l1 with
              | true =>
                show (f k2).ownBlock = none ∨ (f k2).ownBlock ≠ none
                cases (f k2).ownBlock with
                | none => exact .inl rfl
                | some g => exact .inr (by simp)
              | false => exact hI.fam.apart k2 l2 hk hl (fun e => hkl (by rw [e]))
        have y0 := at_cells (j := 0) hI.G rfl
        replace hI := Kp.mk hI
        clear hN hP
        go_wp2_with fail
        go_loopw [5] (fun r wr => ∃ (k : Nat) (f : Bool × Nat → Value) (x : Bool × Nat → List Int), k ≤ blocks.length ∧ r = .int .i64 k ∧ GrI blocks w wr (w.heap.size + 2) bN bP Fo Go' Ro blocks.length (prevs blocks k) f x) (fun r _ => blocks.length - (intOf r).toNat)
        case atStart => exact ⟨0, _, _, Nat.zero_le _, rfl, hJ⟩
        case round =>
          clear hI hJ y0
          obtain ⟨k, f, x, hk0, rfl, hI⟩ := hrel
          have hG := hI.G
          rw [hGo.out] at hG
          have y0 := at_cells hG (j := 0) rfl
          have y1 := at_cells hG (j := 1) rfl
          by_cases hk : k < blocks.length
          · have hxb := hI.xN k hk
            rw [if_pos hk] at hxb
            have hOb : OwnI wr (w.heap.size + 2) (f (false, k)) (nextL blocks k) := ⟨by have := hI.fam.own (false, k) hk; rwa [hxb] at this⟩
            obtain ⟨au, cu, hu⟩ := hOb.shape
            obtain ⟨L, hL⟩ : ∃ L, L = nextL blocks k := ⟨_, rfl⟩
            rw [← hL] at hu hxb
            have hLb : ∀ y ∈ L, 0 ≤ y ∧ y < blocks.length := fun y hy => nextL_bd (hL ▸ hy)
            have hLn : L.length ≤ 1048576 := by have := @nextL_len blocks k; rw [hL]; omega
            replace hLb := Kp.mk hLb
            replace hL := Kp.mk hL
            replace hxb := Kp.mk hxb
            clear hOb hG
            go_wp2_with fail
            go_loopw [6] (fun r wr => ∃ (j : Nat) (f : Bool × Nat → Value) (x : Bool × Nat → List Int), j ≤ L.length ∧ r = .int .i64 j ∧ GrI blocks w wr (w.heap.size + 2) bN bP Fo Go' Ro blocks.length (pushL k (prevs blocks k) (L.take j)) f x ∧ f (false, k) = .slice au L.length cu) (fun r _ => L.length - (intOf r).toNat)
            case atStart => exact ⟨0, f, x, Nat.zero_le _, rfl, hI, hu⟩
            case round =>
              clear hI y0 y1 hu hxb
              obtain ⟨j, f, x, hj, rfl, hI, hu2⟩ := hrel
              have hs : w.heap.size + 2 ≤ wr.heap.size := Nat.le_trans hB2 (Nat.le_of_lt hI.hN.lt)
              have hG := hI.G
              rw [hGo.out] at hG
              have y0 := at_cells hG (j := 0) rfl
              have y1 := at_cells hG (j := 1) rfl
              have q1 := hI.hN.at hk
              rw [hu2] at q1
              by_cases hjl : j < L.length
              · have hxb2 := hI.xN k hk
                rw [if_pos hk, ← hL.out] at hxb2
                have hOb : OwnI wr (w.heap.size + 2) (f (false, k)) L := ⟨by have := hI.fam.own (false, k) hk; rwa [hxb2] at this⟩
                have hap := hI.fam.apart (false, k)
                rw [hu2] at hOb hap
                obtain ⟨gb, go, ⟨⟨_, _, eq, -, ga⟩, -⟩, -, gc⟩ := (hOb.ints hLn).ex
                cases eq
                obtain rfl := ga (by omega)
                have c0 := gc j hjl
                have hby := hLb.out L[j] (List.getElem_mem hjl)
                have hst : Kp (L.take (j + 1) = L.take j ++ [L[j]]) := ⟨List.take_succ_eq_append_getElem hjl⟩
                generalize L[j] = y at *
                obtain ⟨t, rfl⟩ : ∃ t : Nat, y = t := ⟨y.toNat, by omega⟩
                have ht : t < blocks.length := by omega
                have hrow := hI.fam.own (true, t) ht
                have p1 := hI.hP.at ht
                obtain ⟨at', ct, hft⟩ := OwnI.shape ⟨hrow⟩
                rw [hft] at p1 hrow
                have hxl : (x (true, t)).length ≤ 3145728 := by
                  rw [hI.xP t ht]
                  have h1 := pushL_len k (prevs blocks k) (L.take j) t
                  have h2 := prevs_len blocks k t
                  have h3 := nxtN_le blocks k (by omega)
                  have h4 := List.length_take_le' j L
                  omega
                obtain ⟨xs, hxs⟩ : ∃ xs, Kp (x (true, t) = xs) := ⟨_, ⟨rfl⟩⟩
                rw [hxs.out] at hrow hft p1 hxl
                have ht1 : (0 : Int) ≤ (t : Int) := by omega
                have ht2 : (t : Int) < (blocks.length : Int) := by omega
                have hk1 : (0 : Int) ≤ (k : Int) := by omega
                have hk2 : (k : Int) < (blocks.length : Int) := by omega
                have hj1 : (0 : Int) ≤ (j : Int) := by omega
                have hj2 : (j : Int) < (L.length : Int) := by omega
                have hnB : ∀ g, (Value.slice at' xs.length ct).ownBlock = some g → g ≠ w.heap.size + 2 := fun g hg e => by
                  subst e
                  exact own_ne hrow hG (by decide) hg.symm
                have hnP : some bP ≠ (Value.slice at' xs.length ct).ownBlock := hI.hP.ne_row hrow
                have hnN : some bN ≠ (Value.slice at' xs.length ct).ownBlock := hI.hN.ne_row hrow
                have hng : some gb ≠ (Value.slice at' xs.length ct).ownBlock := by
                  rcases hap (true, t) hk ht (by intro q; cases q) with q | q
                  · cases q
                  · rw [hft] at q; exact q
                have hgP : bP ≠ gb := fun e => by
                  subst e
                  exact hI.hP.ne_row hOb.r rfl
                have lB := (Array.getElem?_eq_some_iff.1 hG).1
                have lP := hI.hP.lt
                have lN := hI.hN.lt
                have lg : gb < wr.heap.size := Lib.lt_of_cell c0
                have nB : (Value.slice at' xs.length ct).ownBlock ≠ some (w.heap.size + 2) := fun e => hnB _ e rfl
                have M1 : Kp (∀ o, (fun W' => W'.cell? ⟨w.heap.size + 2, 0, none⟩ = some (.slice (some ⟨bN, 0, none⟩) blocks.length cN) ∧ W'.cell? ⟨w.heap.size + 2, 1, none⟩ = some (.slice (some ⟨bP, 0, none⟩) blocks.length cP) ∧ W'.cell? ⟨bN, k, none⟩ = some (.slice (some ⟨gb, go, none⟩) L.length cu) ∧ W'.cell? ⟨gb, go + j, none⟩ = some (.int .i64 t)) (wr.alloc o).drew) := ⟨fun o => ⟨at_keep y0 (bel_trans (bel_alloc _ _) (bel_drew _)), at_keep y1 (bel_trans (bel_alloc _ _) (bel_drew _)), at_keep q1 (bel_trans (bel_alloc _ _) (bel_drew _)), at_keep c0 (bel_trans (bel_alloc _ _) (bel_drew _))⟩⟩
                have MM : Kp (∀ (w1 : World) (o : Obj), (wr.alloc o).drew.grownBy w1 (Value.slice at' xs.length ct).ownBlock → (fun W' => W'.cell? ⟨w.heap.size + 2, 0, none⟩ = some (.slice (some ⟨bN, 0, none⟩) blocks.length cN) ∧ W'.cell? ⟨w.heap.size + 2, 1, none⟩ = some (.slice (some ⟨bP, 0, none⟩) blocks.length cP) ∧ W'.cell? ⟨bN, k, none⟩ = some (.slice (some ⟨gb, go, none⟩) L.length cu) ∧ W'.cell? ⟨gb, go + j, none⟩ = some (.int .i64 t)) w1) := ⟨fun w1 o hg => by
                  obtain ⟨a1, a2, a3, a4⟩ := M1.out o
                  exact ⟨(hg.cell_far _ (by simp; omega) (Ne.symm nB)).trans a1, (hg.cell_far _ (by simp; omega) (Ne.symm nB)).trans a2, (hg.cell_far _ (by simp; omega) hnN).trans a3, (hg.cell_far _ (by simp; omega) hng).trans a4⟩⟩
                have ME : Kp (∀ (w1 : World) (u : Value), (fun W' => W'.cell? ⟨w.heap.size + 2, 0, none⟩ = some (.slice (some ⟨bN, 0, none⟩) blocks.length cN) ∧ W'.cell? ⟨w.heap.size + 2, 1, none⟩ = some (.slice (some ⟨bP, 0, none⟩) blocks.length cP) ∧ W'.cell? ⟨bN, k, none⟩ = some (.slice (some ⟨gb, go, none⟩) L.length cu) ∧ W'.cell? ⟨gb, go + j, none⟩ = some (.int .i64 t)) w1 → (fun W' => W'.cell? ⟨w.heap.size + 2, 0, none⟩ = some (.slice (some ⟨bN, 0, none⟩) blocks.length cN) ∧ W'.cell? ⟨w.heap.size + 2, 1, none⟩ = some (.slice (some ⟨bP, 0, none⟩) blocks.length cP) ∧ W'.cell? ⟨bN, k, none⟩ = some (.slice (some ⟨gb, go, none⟩) L.length cu) ∧ W'.cell? ⟨gb, go + j, none⟩ = some (.int .i64 t)) (w1.setCell ⟨bP, t, none⟩ u)) := ⟨fun w1 u ⟨a1, a2, a3, a4⟩ => by
                  refine ⟨(World.cell?_setCell_other _ _ _ _ ?_).trans a1, (World.cell?_setCell_other _ _ _ _ ?_).trans a2, (World.cell?_setCell_other _ _ _ _ ?_).trans a3, (World.cell?_setCell_other _ _ _ _ ?_).trans a4⟩ <;> (intro e; injection e; omega)⟩
                have m2 : Kp (∀ o, (wr.alloc o).drew.cell? ⟨bP, t, none⟩ = some (.slice at' xs.length ct)) := ⟨fun o => at_keep p1 (bel_trans (bel_alloc _ _) (bel_drew _))⟩
                have m3 : Kp (∀ o, (wr.alloc o).drew.frozen? ⟨bP, t, none⟩ = false) := ⟨fun o => (hI.hP.keep (bel_trans (bel_alloc _ o) (bel_drew _))).rw t⟩
                have m2s := m2.out (Go.Obj.cells #[.int .i64 k] 2)
                replace hI := Kp.mk hI
                replace hft := Kp.mk hft
                replace hG := Kp.mk hG
                replace hap := Kp.mk hap
                clear gc
                go_upto_region 13 with fail
                refine wp_region_held_drew (S := fun W' => W'.cell? ⟨w.heap.size + 2, 0, none⟩ = some (.slice (some ⟨bN, 0, none⟩) blocks.length cN) ∧ W'.cell? ⟨w.heap.size + 2, 1, none⟩ = some (.slice (some ⟨bP, 0, none⟩) blocks.length cP) ∧ W'.cell? ⟨bN, k, none⟩ = some (.slice (some ⟨gb, go, none⟩) L.length cu) ∧ W'.cell? ⟨gb, go + j, none⟩ = some (.int .i64 t)) (by kernel_rfl) ⟨y0, y1, q1, c0⟩ (fun hHeld => ?_)
                refine wpAnyH_take (i := 0) (v := .pointer (some ⟨w.heap.size + 2, 1, none⟩)) rfl (by kernel_rfl) (by kernel_rfl) (by kernel_rfl) (fun _ _ _ h => h) (Or.inl ⟨by rfl, fun wq hSw => by (try dsimp only at hSw); go_simp⟩) hHeld ?_
                try simp only [Act.put, List.getElem_toArray, List.getElem_cons_succ, List.getElem_cons_zero, List.setIfInBounds_toArray, List.set_cons_zero, List.set_cons_succ]
                refine wpAnyH_take (i := 1) (v := .slice (some ⟨bP, 0, none⟩) blocks.length cP) rfl (by kernel_rfl) (by kernel_rfl) (by kernel_rfl) (fun _ _ _ h => h) (Or.inl ⟨by rfl, fun wq hSw => by (try dsimp only at hSw); go_simp⟩) hHeld ?_
                try simp only [Act.put, List.getElem_toArray, List.getElem_cons_succ, List.getElem_cons_zero, List.setIfInBounds_toArray, List.set_cons_zero, List.set_cons_succ]
                refine wpAnyH_take (i := 2) (v := .pointer (some ⟨w.heap.size + 2, 0, none⟩)) rfl (by kernel_rfl) (by kernel_rfl) (by kernel_rfl) (fun _ _ _ h => h) (Or.inl ⟨by rfl, fun wq hSw => by (try dsimp only at hSw); go_simp⟩) hHeld ?_
                try simp only [Act.put, List.getElem_toArray, List.getElem_cons_succ, List.getElem_cons_zero, List.setIfInBounds_toArray, List.set_cons_zero, List.set_cons_succ]
                refine wpAnyH_take (i := 3) (v := .slice (some ⟨bN, 0, none⟩) blocks.length cN) rfl (by kernel_rfl) (by kernel_rfl) (by kernel_rfl) (fun _ _ _ h => h) (Or.inl ⟨by rfl, fun wq hSw => by (try dsimp only at hSw); go_simp⟩) hHeld ?_
                try simp only [Act.put, List.getElem_toArray, List.getElem_cons_succ, List.getElem_cons_zero, List.setIfInBounds_toArray, List.set_cons_zero, List.set_cons_succ]
                refine wpAnyH_take (i := 4) (v := .int .i64 k) rfl (by kernel_rfl) (by kernel_rfl) (by kernel_rfl) (fun _ _ _ h => h) (Or.inl ⟨by rfl, fun wq hSw => by (try dsimp only at hSw); go_simp⟩) hHeld ?_
                try simp only [Act.put, List.getElem_toArray, List.getElem_cons_succ, List.getElem_cons_zero, List.setIfInBounds_toArray, List.set_cons_zero, List.set_cons_succ]
                refine wpAnyH_take (i := 5) (v := .pointer (some ⟨bN, k, none⟩)) rfl (by kernel_rfl) (by kernel_rfl) (by kernel_rfl) (fun _ _ _ h => h) (Or.inl ⟨by rfl, fun wq hSw => by (try dsimp only at hSw); go_simp⟩) hHeld ?_
                try simp only [Act.put, List.getElem_toArray, List.getElem_cons_succ, List.getElem_cons_zero, List.setIfInBounds_toArray, List.set_cons_zero, List.set_cons_succ]
                refine wpAnyH_take (i := 6) (v := .slice (some ⟨gb, go, none⟩) L.length cu) rfl (by kernel_rfl) (by kernel_rfl) (by kernel_rfl) (fun _ _ _ h => h) (Or.inl ⟨by rfl, fun wq hSw => by (try dsimp only at hSw); go_simp⟩) hHeld ?_
                try simp only [Act.put, List.getElem_toArray, List.getElem_cons_succ, List.getElem_cons_zero, List.setIfInBounds_toArray, List.set_cons_zero, List.set_cons_succ]
                refine wpAnyH_take (i := 7) (v := .int .i64 j) rfl (by kernel_rfl) (by kernel_rfl) (by kernel_rfl) (fun _ _ _ h => h) (Or.inl ⟨by rfl, fun wq hSw => by (try dsimp only at hSw); go_simp⟩) hHeld ?_
                try simp only [Act.put, List.getElem_toArray, List.getElem_cons_succ, List.getElem_cons_zero, List.setIfInBounds_toArray, List.set_cons_zero, List.set_cons_succ]
                refine wpAnyH_take (i := 8) (v := .pointer (some ⟨gb, go + j, none⟩)) rfl (by kernel_rfl) (by kernel_rfl) (by kernel_rfl) (fun _ _ _ h => h) (Or.inl ⟨by rfl, fun wq hSw => by (try dsimp only at hSw); go_simp⟩) hHeld ?_
                try simp only [Act.put, List.getElem_toArray, List.getElem_cons_succ, List.getElem_cons_zero, List.setIfInBounds_toArray, List.set_cons_zero, List.set_cons_succ]
                refine wpAnyH_take (i := 9) (v := .int .i64 t) rfl (by kernel_rfl) (by kernel_rfl) (by kernel_rfl) (fun _ _ _ h => h) (Or.inl ⟨by rfl, fun wq hSw => by (try dsimp only at hSw); go_simp⟩) hHeld ?_
                try simp only [Act.put, List.getElem_toArray, List.getElem_cons_succ, List.getElem_cons_zero, List.setIfInBounds_toArray, List.set_cons_zero, List.set_cons_succ]
                refine wpAnyH_take (i := 10) (v := .pointer (some ⟨w.heap.size + 2, 1, none⟩)) rfl (by kernel_rfl) (by kernel_rfl) (by kernel_rfl) (fun _ _ _ h => h) (Or.inl ⟨by rfl, fun wq hSw => by (try dsimp only at hSw); go_simp⟩) hHeld ?_
                try simp only [Act.put, List.getElem_toArray, List.getElem_cons_succ, List.getElem_cons_zero, List.setIfInBounds_toArray, List.set_cons_zero, List.set_cons_succ]
                refine wpAnyH_take (i := 11) (v := .slice (some ⟨bP, 0, none⟩) blocks.length cP) rfl (by kernel_rfl) (by kernel_rfl) (by kernel_rfl) (fun _ _ _ h => h) (Or.inl ⟨by rfl, fun wq hSw => by (try dsimp only at hSw); go_simp⟩) hHeld ?_
                try simp only [Act.put, List.getElem_toArray, List.getElem_cons_succ, List.getElem_cons_zero, List.setIfInBounds_toArray, List.set_cons_zero, List.set_cons_succ]
                refine wpAnyH_take (i := 12) (v := .pointer (some ⟨w.heap.size + 2, 0, none⟩)) rfl (by kernel_rfl) (by kernel_rfl) (by kernel_rfl) (fun _ _ _ h => h) (Or.inl ⟨by rfl, fun wq hSw => by (try dsimp only at hSw); go_simp⟩) hHeld ?_
                try simp only [Act.put, List.getElem_toArray, List.getElem_cons_succ, List.getElem_cons_zero, List.setIfInBounds_toArray, List.set_cons_zero, List.set_cons_succ]
                refine wpAnyH_take (i := 13) (v := .slice (some ⟨bN, 0, none⟩) blocks.length cN) rfl (by kernel_rfl) (by kernel_rfl) (by kernel_rfl) (fun _ _ _ h => h) (Or.inl ⟨by rfl, fun wq hSw => by (try dsimp only at hSw); go_simp⟩) hHeld ?_
                try simp only [Act.put, List.getElem_toArray, List.getElem_cons_succ, List.getElem_cons_zero, List.setIfInBounds_toArray, List.set_cons_zero, List.set_cons_succ]
                refine wpAnyH_take (i := 14) (v := .int .i64 k) rfl (by kernel_rfl) (by kernel_rfl) (by kernel_rfl) (fun _ _ _ h => h) (Or.inl ⟨by rfl, fun wq hSw => by (try dsimp only at hSw); go_simp⟩) hHeld ?_
                try simp only [Act.put, List.getElem_toArray, List.getElem_cons_succ, List.getElem_cons_zero, List.setIfInBounds_toArray, List.set_cons_zero, List.set_cons_succ]
                refine wpAnyH_take (i := 15) (v := .pointer (some ⟨bN, k, none⟩)) rfl (by kernel_rfl) (by kernel_rfl) (by kernel_rfl) (fun _ _ _ h => h) (Or.inl ⟨by rfl, fun wq hSw => by (try dsimp only at hSw); go_simp⟩) hHeld ?_
                try simp only [Act.put, List.getElem_toArray, List.getElem_cons_succ, List.getElem_cons_zero, List.setIfInBounds_toArray, List.set_cons_zero, List.set_cons_succ]
                refine wpAnyH_take (i := 16) (v := .slice (some ⟨gb, go, none⟩) L.length cu) rfl (by kernel_rfl) (by kernel_rfl) (by kernel_rfl) (fun _ _ _ h => h) (Or.inl ⟨by rfl, fun wq hSw => by (try dsimp only at hSw); go_simp⟩) hHeld ?_
                try simp only [Act.put, List.getElem_toArray, List.getElem_cons_succ, List.getElem_cons_zero, List.setIfInBounds_toArray, List.set_cons_zero, List.set_cons_succ]
                refine wpAnyH_take (i := 17) (v := .int .i64 j) rfl (by kernel_rfl) (by kernel_rfl) (by kernel_rfl) (fun _ _ _ h => h) (Or.inl ⟨by rfl, fun wq hSw => by (try dsimp only at hSw); go_simp⟩) hHeld ?_
                try simp only [Act.put, List.getElem_toArray, List.getElem_cons_succ, List.getElem_cons_zero, List.setIfInBounds_toArray, List.set_cons_zero, List.set_cons_succ]
                refine wpAnyH_take (i := 18) (v := .pointer (some ⟨gb, go + j, none⟩)) rfl (by kernel_rfl) (by kernel_rfl) (by kernel_rfl) (fun _ _ _ h => h) (Or.inl ⟨by rfl, fun wq hSw => by (try dsimp only at hSw); go_simp⟩) hHeld ?_
                try simp only [Act.put, List.getElem_toArray, List.getElem_cons_succ, List.getElem_cons_zero, List.setIfInBounds_toArray, List.set_cons_zero, List.set_cons_succ]
                refine wpAnyH_take (i := 19) (v := .int .i64 t) rfl (by kernel_rfl) (by kernel_rfl) (by kernel_rfl) (fun _ _ _ h => h) (Or.inl ⟨by rfl, fun wq hSw => by (try dsimp only at hSw); go_simp⟩) hHeld ?_
                try simp only [Act.put, List.getElem_toArray, List.getElem_cons_succ, List.getElem_cons_zero, List.setIfInBounds_toArray, List.set_cons_zero, List.set_cons_succ]
                refine wpAnyH_take (i := 20) (v := .pointer (some ⟨bP, t, none⟩)) rfl (by kernel_rfl) (by kernel_rfl) (by kernel_rfl) (fun _ _ _ h => h) (Or.inl ⟨by rfl, fun wq hSw => by (try dsimp only at hSw); go_simp⟩) hHeld ?_
                try simp only [Act.put, List.getElem_toArray, List.getElem_cons_succ, List.getElem_cons_zero, List.setIfInBounds_toArray, List.set_cons_zero, List.set_cons_succ]
                refine wpAnyH_take (i := 22) (v := .int .i64 k) rfl (by kernel_rfl) (by kernel_rfl) (by kernel_rfl) (fun _ _ _ h => h) (Or.inl ⟨by rfl, fun wq hSw => by (try dsimp only at hSw); go_simp⟩) hHeld ?_
                try simp only [Act.put, List.getElem_toArray, List.getElem_cons_succ, List.getElem_cons_zero, List.setIfInBounds_toArray, List.set_cons_zero, List.set_cons_succ]
                refine wpAnyH_ready (rs := [21, 23]) (by kernel_rfl) (by simp) ?_
                refine AllReadyH.cons rfl (fun K hK => ?_) (AllReadyH.cons rfl (fun K hK => ?_) AllReadyH.nil)
                · go_simp
                  refine hK.out _ _ ⟨y0, y1, q1, c0⟩ (fun hHeld => ?_)
                  clear hK K
                  try simp only [Act.put, List.getElem_toArray, List.getElem_cons_succ, List.getElem_cons_zero, List.setIfInBounds_toArray, List.set_cons_zero, List.set_cons_succ]
                  refine wpAnyH_ready (rs := [23]) (by kernel_rfl) (by simp) ?_
                  refine AllReadyH.cons rfl (fun K hK => ?_) AllReadyH.nil
                  go_simp
                  refine hK.out _ _ (M1.out _) (fun hHeld => ?_)
                  clear hK K
                  try simp only [Act.put, List.getElem_toArray, List.getElem_cons_succ, List.getElem_cons_zero, List.setIfInBounds_toArray, List.set_cons_zero, List.set_cons_succ]
                  refine wpAnyH_ready (rs := [24]) (by kernel_rfl) (by simp) ?_
                  refine AllReadyH.cons rfl (fun K hK => ?_) AllReadyH.nil
                  refine step_append_lies _ (by rfl) _ _ _ (by rfl) (w.heap.size + 2) 2 i1 _ 1 8 Try.underlying22 hj0 hjz0 hjz1 hjz2 rfl (by omega) (.slice at' xs.length ct) xs.length (xs.map (Value.int .i64)) (by rfl) ((hrow.alloc _).drew)
                    ⟨wr.heap.size, 0, none⟩ 1 1 [.int .i64 k] (by rfl) (by rfl) (World.news_of_block (cs := #[.int .i64 k]) (t := 2) (fr := (0, 0)) (heap_alloc_new wr _)) (by simp [Value.oneCell'])
                    (by omega) (by unfold maxLen; omega) (by omega) (by simp; omega) (wr.heap.size + 1) (by simp) ?_
                  intro gg cap w1 hown1 hgrow hat hlt'
                  have z1 : w1.frozen? ⟨bP, t, none⟩ = false := (hgrow.frozen_far _ (by simp; omega) hnP).trans (m3.out _)
                  have z2 : w1.cell? ⟨bP, t, none⟩ = some (.slice at' xs.length ct) := (hgrow.cell_far _ (by simp; omega) hnP).trans (m2.out _)
                  have z3 := MM.out w1 _ hgrow
                  have z4 := ME.out w1 (.slice (some ⟨gg, 0, none⟩) (xs.length + 1) cap) z3
                  refine hK.out _ _ z3 (fun hHeld => ?_)
                  clear hK K
                  try simp only [Act.put, List.getElem_toArray, List.getElem_cons_succ, List.getElem_cons_zero, List.setIfInBounds_toArray, List.set_cons_zero, List.set_cons_succ]
                  refine wpAnyH_take (i := 25) (v := .pointer (some ⟨bP, t, none⟩)) rfl (by kernel_rfl) (by kernel_rfl) (by kernel_rfl) (fun _ _ _ h => h) (Or.inl ⟨by rfl, fun wq hSw => by (try dsimp only at hSw); go_simp⟩) hHeld ?_
                  try simp only [Act.put, List.getElem_toArray, List.getElem_cons_succ, List.getElem_cons_zero, List.setIfInBounds_toArray, List.set_cons_zero, List.set_cons_succ]
                  refine wpAnyH_ready (rs := [26]) (by kernel_rfl) (by simp) ?_
                  refine AllReadyH.cons rfl (fun K hK => ?_) AllReadyH.nil
                  go_simp
                  refine hK.out _ _ z4 (fun hHeld => ?_)
                  clear hK K
                  try simp only [Act.put, List.getElem_toArray, List.getElem_cons_succ, List.getElem_cons_zero, List.setIfInBounds_toArray, List.set_cons_zero, List.set_cons_succ]
                  refine wpAnyH_done (by kernel_rfl) ?_ _
                  go_wp2_with fail
                  have hgrow' : (wr.alloc (Go.Obj.cells #[.int .i64 k] 2)).drew.grownBy w1 (f (true, t)).ownBlock := by rw [hft.out]; exact hgrow
                  have hpp := hI.out.push (k := (k : Int)) (v := .slice (some ⟨gg, 0, none⟩) (xs.length + 1) cap) ht (bel_trans (bel_alloc wr (Go.Obj.cells #[.int .i64 k] 2)) (bel_drew _)) hs hgrow' (by rw [hxs.out]; simpa using hown1)
                    (by rw [hft.out]; rcases hat with q | q; exact .inl q.symm; exact .inr (by rw [q]; simp [Value.ownBlock])) hne hBP hB3 (Nat.le_refl _) (fun g hg => hnB g (by rw [← hft.out]; exact hg))
                  rw [hxs.out, ← pushL_snoc, ← hst.out] at hpp
                  have hu3 : upd f (true, t) (.slice (some ⟨gg, 0, none⟩) (xs.length + 1) cap) (false, k) = _ := (upd_other _ _ _ _ (by intro q; cases q)).trans hu2
                  exact ⟨⟨j + 1, _, _, by omega, by go_num, hpp, hu3⟩, by simp [intOf]; omega⟩
                · go_simp
                  refine hK.out _ _ (M1.out _) (fun hHeld => ?_)
                  clear hK K
                  try simp only [Act.put, List.getElem_toArray, List.getElem_cons_succ, List.getElem_cons_zero, List.setIfInBounds_toArray, List.set_cons_zero, List.set_cons_succ]
                  refine wpAnyH_ready (rs := [21]) (by kernel_rfl) (by simp) ?_
                  refine AllReadyH.cons rfl (fun K hK => ?_) AllReadyH.nil
                  go_simp
                  refine hK.out _ _ (M1.out _) (fun hHeld => ?_)
                  clear hK K
                  try simp only [Act.put, List.getElem_toArray, List.getElem_cons_succ, List.getElem_cons_zero, List.setIfInBounds_toArray, List.set_cons_zero, List.set_cons_succ]
                  refine wpAnyH_ready (rs := [24]) (by kernel_rfl) (by simp) ?_
                  refine AllReadyH.cons rfl (fun K hK => ?_) AllReadyH.nil
                  refine step_append_lies _ (by rfl) _ _ _ (by rfl) (w.heap.size + 2) 2 i1 _ 1 8 Try.underlying22 hj0 hjz0 hjz1 hjz2 rfl (by omega) (.slice at' xs.length ct) xs.length (xs.map (Value.int .i64)) (by rfl) ((hrow.alloc _).drew)
                    ⟨wr.heap.size, 0, none⟩ 1 1 [.int .i64 k] (by rfl) (by rfl) (World.news_of_block (cs := #[.int .i64 k]) (t := 2) (fr := (0, 0)) (heap_alloc_new wr _)) (by simp [Value.oneCell'])
                    (by omega) (by unfold maxLen; omega) (by omega) (by simp; omega) (wr.heap.size + 1) (by simp) ?_
                  intro gg cap w1 hown1 hgrow hat hlt'
                  have z1 : w1.frozen? ⟨bP, t, none⟩ = false := (hgrow.frozen_far _ (by simp; omega) hnP).trans (m3.out _)
                  have z2 : w1.cell? ⟨bP, t, none⟩ = some (.slice at' xs.length ct) := (hgrow.cell_far _ (by simp; omega) hnP).trans (m2.out _)
                  have z3 := MM.out w1 _ hgrow
                  have z4 := ME.out w1 (.slice (some ⟨gg, 0, none⟩) (xs.length + 1) cap) z3
                  refine hK.out _ _ z3 (fun hHeld => ?_)
                  clear hK K
                  try simp only [Act.put, List.getElem_toArray, List.getElem_cons_succ, List.getElem_cons_zero, List.setIfInBounds_toArray, List.set_cons_zero, List.set_cons_succ]
                  refine wpAnyH_take (i := 25) (v := .pointer (some ⟨bP, t, none⟩)) rfl (by kernel_rfl) (by kernel_rfl) (by kernel_rfl) (fun _ _ _ h => h) (Or.inl ⟨by rfl, fun wq hSw => by (try dsimp only at hSw); go_simp⟩) hHeld ?_
                  try simp only [Act.put, List.getElem_toArray, List.getElem_cons_succ, List.getElem_cons_zero, List.setIfInBounds_toArray, List.set_cons_zero, List.set_cons_succ]
                  refine wpAnyH_ready (rs := [26]) (by kernel_rfl) (by simp) ?_
                  refine AllReadyH.cons rfl (fun K hK => ?_) AllReadyH.nil
                  go_simp
                  refine hK.out _ _ z4 (fun hHeld => ?_)
                  clear hK K
                  try simp only [Act.put, List.getElem_toArray, List.getElem_cons_succ, List.getElem_cons_zero, List.setIfInBounds_toArray, List.set_cons_zero, List.set_cons_succ]
                  refine wpAnyH_done (by kernel_rfl) ?_ _
                  go_wp2_with fail
                  have hgrow' : (wr.alloc (Go.Obj.cells #[.int .i64 k] 2)).drew.grownBy w1 (f (true, t)).ownBlock := by rw [hft.out]; exact hgrow
                  have hpp := hI.out.push (k := (k : Int)) (v := .slice (some ⟨gg, 0, none⟩) (xs.length + 1) cap) ht (bel_trans (bel_alloc wr (Go.Obj.cells #[.int .i64 k] 2)) (bel_drew _)) hs hgrow' (by rw [hxs.out]; simpa using hown1)
                    (by rw [hft.out]; rcases hat with q | q; exact .inl q.symm; exact .inr (by rw [q]; simp [Value.ownBlock])) hne hBP hB3 (Nat.le_refl _) (fun g hg => hnB g (by rw [← hft.out]; exact hg))
                  rw [hxs.out, ← pushL_snoc, ← hst.out] at hpp
                  have hu3 : upd f (true, t) (.slice (some ⟨gg, 0, none⟩) (xs.length + 1) cap) (false, k) = _ := (upd_other _ _ _ _ (by intro q; cases q)).trans hu2
                  exact ⟨⟨j + 1, _, _, by omega, by go_num, hpp, hu3⟩, by simp [intOf]; omega⟩
              · obtain rfl : j = L.length := by omega
                rw [List.take_length, hL.out] at hI
                replace hI := Kp.mk hI
                go_wp2_with fail
                exact ⟨⟨k + 1, f, x, by omega, by go_num, hI.out⟩, by simp [intOf]; omega⟩
          · obtain rfl : k = blocks.length := by omega
            have hR := hI.R
            rw [hRo.out] at hR
            have r0 := at_cells hR (j := 0) rfl
            have r1 := at_cells hR (j := 1) rfl
            have z0 := rw_cells hR 0
            have z1 := rw_cells hR 1
            replace hI := Kp.mk hI
            go_wp2_with fail
            have hc := (GrR.setR ⟨hI.out.fam, hI.out.hN, hI.out.hP, hI.out.xN, hI.out.xP, hI.out.bel⟩ (.slice (some ⟨bN, 0, none⟩) blocks.length cN) 0 hB2 hB3).setR (.slice (some ⟨bP, 0, none⟩) blocks.length cP) 1 hB2 hB3
            refine bodyPost_ret (v := .agg #[.slice (some ⟨bN, 0, none⟩) blocks.length cN, .slice (some ⟨bP, 0, none⟩) blocks.length cP]) ?_ rfl ⟨_, _, rfl, ?_, ?_, hc.bel⟩
            · simp [results, Try.results24, go_sem, y0, y1, r0, r1]
            · refine (rws_of hc.fam hc.hN hB2 hcN (by omega) (fun i => (false, i)) (fun i hi => ⟨hi, rfl, ?_⟩)).congr (by omega) (fun i hi => ?_)
              · rw [hc.xN i hi, if_pos hi]
                have := @nextL_len blocks i
                omega
              · rw [hc.xN i hi, if_pos hi]
            · refine (rws_of hc.fam hc.hP hB3 hcP (by omega) (fun i => (true, i)) (fun i hi => ⟨hi, rfl, ?_⟩)).congr (by omega) (fun i hi => ?_)
              · rw [hc.xP i hi]
                have h1 := prevs_len blocks blocks.length i
                have h2 := nxtN_le blocks blocks.length (Nat.le_refl _)
                omega
              · rw [hc.xP i hi]
      · have e0 : blocks.length = 0 := by omega
        obtain ⟨aN, cN, rfl⟩ := row_shape hI.hN
        obtain ⟨aP, cP, rfl⟩ := row_shape hI.hP
        have y0 := at_cells (j := 0) hI.G rfl
        have y1 := at_cells (j := 1) hI.G rfl
        have hR := hI.R
        rw [hRo.out] at hR
        have r0 := at_cells hR (j := 0) rfl
        have r1 := at_cells hR (j := 1) rfl
        have z0 := rw_cells hR 0
        have z1 := rw_cells hR 1
        have hB := hI.bel
        have rz : ∀ (W : World) (a : Option Addr) (c : Nat) (P : Nat → List Int), Rws w.heap.size W (.slice a blocks.length c) blocks.length P := fun W a c P => ⟨w.heap.size, 0, ⟨⟨a, c, rfl, by omega, fun h => absurd h h0⟩, by omega⟩, Nat.le_refl _, fun i hi => absurd hi (by omega)⟩
        replace rz := Kp.mk rz
        replace hI := Kp.mk hI
        go_wp2_with fail
        refine wp_loop_rounds 1 ?_
        rw [rounds_succ]
        go_wp2_with fail
        refine bodyPost_ret (v := .agg #[.slice aN blocks.length cN, .slice aP blocks.length cP]) ?_ rfl ⟨_, _, rfl, rz.out _ _ _ _, rz.out _ _ _ _, (hB.setCell (by show w.heap.size ≤ w.heap.size + 1; omega) _).setCell (by show w.heap.size ≤ w.heap.size + 1; omega) _⟩
        simp [results, Try.results24, go_sem, y0, y1, r0, r1]
        exact e0.symm
end Go.Proofs.Ytbfpfjkjeekbdaa
namespace Go.Proofs.Ytbfpfjkjeekbdaa
open Go.ChangeShapes Go.WideShapes Go.ChangeAt Go.RowKit
set_option linter.unusedVariables false
set_option linter.unusedSimpArgs false
/-- A row of Booleans: which blocks are on the list. -/
structure SeenAt (w : World) (b n : Nat) (s : List Int) : Prop where
  ex : ∃ cur, w.heap[b]? = some (Go.Obj.cells cur 4 (0, 0)) ∧ ∀ i : Nat, i < n → cur[i]? = some (.bool (s.contains (i : Int)))
section
variable {w w' : World} {b n : Nat} {s : List Int}
theorem SeenAt.at (h : SeenAt w b n s) {i : Nat} (hi : i < n) : At w b i (.bool (s.contains (i : Int))) := by
  obtain ⟨cur, h1, h2⟩ := h.ex
  exact at_cells h1 (h2 i hi)
theorem SeenAt.rw (h : SeenAt w b n s) (i : Nat) : w.frozen? ⟨b, i, none⟩ = false := by
  obtain ⟨cur, h1, h2⟩ := h.ex
  exact rw_cells h1 i
theorem SeenAt.lt (h : SeenAt w b n s) : b < w.heap.size := by
  obtain ⟨cur, h1, h2⟩ := h.ex
  exact (Array.getElem?_eq_some_iff.1 h1).1
theorem SeenAt.keep (h : SeenAt w b n s) (hb : Below w.heap.size w w') : SeenAt w' b n s := by
  obtain ⟨cur, h1, h2⟩ := h.ex
  exact ⟨cur, keep_cells h1 hb, h2⟩
theorem SeenAt.kept {row : Option Nat} (h : SeenAt w b n s) (hg : w.grownBy w' row) (hne : some b ≠ row) : SeenAt w' b n s := by
  obtain ⟨cur, h1, h2⟩ := h.ex
  exact ⟨cur, (hg.block _ (Array.getElem?_eq_some_iff.1 h1).1 hne).trans h1, h2⟩
theorem SeenAt.add (h : SeenAt w b n s) {j : Nat} (hj : j < n) : SeenAt (w.setCell ⟨b, j, none⟩ (.bool true)) b n (s ++ [(j : Int)]) := by
  obtain ⟨cur, h1, h2⟩ := h.ex
  refine ⟨_, set_cells h1 j _, fun i hi => ?_⟩
  have hc := (Array.getElem?_eq_some_iff.1 (h2 j hj)).1
  rw [List.contains_append]
  by_cases e : i = j
  · subst e
    simp [hc]
  · have : ([(j : Int)].contains (i : Int)) = false := by simp; omega
    rw [this, Bool.or_false]
    simp only [Array.getElem?_setIfInBounds]
    rw [if_neg (Ne.symm e)]
    exact h2 i hi
end
/-- But for the block sb and a row, what lay lies. -/
structure Fr (w w' : World) (sb : Nat) (row : Option Nat) : Prop where
  os : w'.os = w.os
  tape : w'.tape = w.tape
  output : w'.output = w.output
  size : w.heap.size ≤ w'.heap.size
  block : ∀ k, k < w.heap.size → k ≠ sb → some k ≠ row → w'.heap[k]? = w.heap[k]?
theorem Fr.below {w0 w w' : World} {sb E : Nat} {row : Option Nat} (h : Fr w w' sb row) (hb : Below E w0 w) (hE : E ≤ w.heap.size) (h1 : E ≤ sb) (h2 : ∀ g, row = some g → E ≤ g) : Below E w0 w' :=
  ⟨h.os.trans hb.os, h.tape.trans hb.tape, h.output.trans hb.output, Nat.le_trans hb.size h.size, fun k hk => (h.block k (by omega) (by omega) (fun e => by have := h2 k e.symm; omega)).trans (hb.block k hk)⟩
theorem Fr.below_then {w w1 w2 : World} {sb : Nat} {row : Option Nat} (h : Fr w w1 sb row) (hb : Below w1.heap.size w1 w2) : Fr w w2 sb row :=
  ⟨hb.os.trans h.os, hb.tape.trans h.tape, hb.output.trans h.output, Nat.le_trans h.size hb.size, fun k hk h1 h2 => (hb.block k (Nat.lt_of_lt_of_le hk h.size)).trans (h.block k hk h1 h2)⟩
theorem Fr.of_below {w w' : World} {sb : Nat} {row : Option Nat} (h : Below w.heap.size w w') : Fr w w' sb row := ⟨h.os, h.tape, h.output, h.size, fun k hk _ _ => h.block k hk⟩
theorem Fr.trans {w w1 w2 : World} {sb : Nat} {row row' : Option Nat} (h : Fr w w1 sb row) (h' : Fr w1 w2 sb row') (hr : row' = row ∨ ∀ g, row' = some g → w.heap.size ≤ g) : Fr w w2 sb row :=
  ⟨h'.os.trans h.os, h'.tape.trans h.tape, h'.output.trans h.output, Nat.le_trans h.size h'.size, fun k hk h1 h2 => (h'.block k (Nat.lt_of_lt_of_le hk h.size) h1 (fun e => by
    rcases hr with q | q
    · rw [q] at e; exact h2 e
    · have := q k e.symm; omega)).trans (h.block k hk h1 h2)⟩
theorem Fr.set {w : World} {sb : Nat} {row : Option Nat} (j : Nat) (u : Value) : Fr w (w.setCell ⟨sb, j, none⟩ u) sb row := ⟨rfl, rfl, rfl, by simp [World.setCell], fun k _ h1 _ => heap_set _ _ _ _ _ h1⟩
theorem Fr.grown {w w' : World} {sb : Nat} {row : Option Nat} (h : w.grownBy w' row) : Fr w w' sb row := ⟨h.os, h.tape, h.output, h.size, fun k hk _ h2 => h.block k hk h2⟩
theorem bel_trans' {E : Nat} {a b c : World} (h : Below E a b) (k : Below b.heap.size b c) (hE : E ≤ b.heap.size := by omega) : Below E a c := h.trans (k.mono hE)
theorem rec_take {nx : Int → List Int} {xs : List Int} {i : Nat} (hi : i < xs.length) : xs.drop i = xs[i] :: xs.drop (i + 1) := List.drop_eq_getElem_cons hi
theorem OwnI.ne {w : World} {base B : Nat} {v : Value} {xs : List Int} {arr : Array Value} {t : TypeId} {z : Nat × Nat} (h : OwnI w base v xs) (hB : w.heap[B]? = some (Go.Obj.cells arr t z)) (ht : t ≠ 2) : some B ≠ v.ownBlock := own_ne h.r hB ht
theorem OwnI.kept {w w' : World} {base : Nat} {v : Value} {xs : List Int} {row : Option Nat} (h : OwnI w base v xs) (hg : w.grownBy w' row) (hne : v.ownBlock = none ∨ v.ownBlock ≠ row) : OwnI w' base v xs := ⟨h.r.kept hg hne⟩
end Go.Proofs.Ytbfpfjkjeekbdaa
namespace Go.Proofs.Ytbfpfjkjeekbdaa
open Go.ChangeShapes Go.WideShapes Go.ChangeAt Go.RowKit
set_option linter.unusedVariables false
set_option linter.unusedSimpArgs false
/-- 'make([]bool, n)'. -/
theorem mkSeen (n : Nat) (hn : n ≤ 1048576) : ∃ O : Obj, (∀ W : World, (Instr.makeSlice 73 (.int .i64 (n : Int)) (.int .i64 (n : Int))).run Try.prog W = .ok (.slice (some ⟨W.heap.size, 0, none⟩) n n) (W.alloc O)) ∧ ∀ W : World, SeenAt (W.alloc O) W.heap.size n [] := by
  obtain ⟨i, hi, hzz⟩ := Option.map_eq_some_iff.1 (show (Try.prog.info? 4).map (fun i => (i.zero, i.size, i.bytes)) = some (some (.bool false), 1, 1) by kernel_rfl)
  simp only [Prod.mk.injEq] at hzz
  obtain ⟨hz, hs, hbb⟩ := hzz
  refine ⟨.cells (madeCells (Value.bool false).cells (n * 1)) 4, fun W => ?_, fun W => ⟨_, new_cells W _, fun j hj => ?_⟩⟩
  · have hb' : (i.bytes : Int) * (n : Int) ≤ 281474976710656 := by rw [hbb]; omega
    have hr := run_make (P := Try.prog) W 73 4 i _ Try.underlying73 hi hz .i64 .i64 n n (by omega) (Int.le_refl _) hb' (by omega)
    simp only [Int.toNat_natCast, hs] at hr
    exact hr
  · have e := size_madeCells (Value.bool false).cells (n * 1)
    have hj2 : j < (madeCells (Value.bool false).cells (n * 1)).size := by rw [e]; omega
    rw [Array.getElem?_eq_getElem hj2]
    simp [madeCells, Value.cells, Nat.mod_one]
theorem own_base {w : World} {base base' size n : Nat} {e : TypeId} {v : Value} {xs : List Value} (h : w.ownsRow base e size v n xs) (hb : base' ≤ base) : w.ownsRow base' e size v n xs :=
  ⟨h.1, h.2.elim Or.inl (fun ⟨g, cap, cur, hv, hg, r⟩ => Or.inr ⟨g, cap, cur, hv, by omega, r⟩)⟩
/-- The lists that an order may be: of no blocks the empty one; else what a walk leaves, turned round. -/
def OrdOf (nx : Int → List Int) (n : Nat) (L : List Int) : Prop := (n = 0 ∧ L = []) ∨ (0 < n ∧ ∃ k M, Lw nx k [(0, nx 0)] [0] M ∧ L = M.reverse)
theorem Lw.det {nx : Int → List Int} {k k' : Nat} {st : List (Int × List Int)} {s L L' : List Int} (h : Lw nx k st s L) (h' : Lw nx k' st s L') : L = L' := by
  induction h generalizing k' L' with
  | nil s => cases h'; rfl
  | leave k b st s L h ih => cases h' with | leave _ _ _ _ L2 h2 => rw [ih h2]
  | skip k b c r st s L hc h ih =>
    cases h' with
    | skip _ _ _ _ _ _ _ hc2 h2 => exact ih h2
    | come _ _ _ _ _ _ L2 hc2 h2 => rw [hc] at hc2; cases hc2
  | come k b c r st s L hc h ih =>
    cases h' with
    | skip _ _ _ _ _ _ _ hc2 h2 => rw [hc] at hc2; cases hc2
    | come _ _ _ _ _ _ L2 hc2 h2 => exact ih h2
theorem OrdOf.det {nx : Int → List Int} {n : Nat} {L L' : List Int} (h : OrdOf nx n L) (h' : OrdOf nx n L') : L = L' := by
  rcases h with ⟨h0, rfl⟩ | ⟨h0, k, M, hM, rfl⟩
  · rcases h' with ⟨-, rfl⟩ | ⟨h1, -⟩
    · rfl
    · omega
  · rcases h' with ⟨h1, -⟩ | ⟨-, k', M', hM', rfl⟩
    · omega
    · rw [hM.det hM']
theorem Fr.own {w w' : World} {sb : Nat} {row : Option Nat} (h : Fr w w' sb row) {base size n : Nat} {e : TypeId} {v : Value} {xs : List Value} (ho : w.ownsRow base e size v n xs) (h1 : v.ownBlock ≠ some sb) (h2 : v.ownBlock = none ∨ v.ownBlock ≠ row) : w'.ownsRow base e size v n xs := by
  refine ⟨ho.1, ?_⟩
  rcases ho.2 with h0 | ⟨g, cap, cur, rfl, hb1, hg, rest⟩
  · exact .inl h0
  · refine .inr ⟨g, cap, cur, rfl, hb1, (h.block g (Array.getElem?_eq_some_iff.1 hg).1 (fun e => h1 (by rw [← e]; rfl)) (fun e => ?_)).trans hg, rest⟩
    rcases h2 with q | q
    · cases q
    · exact q e
end Go.Proofs.Ytbfpfjkjeekbdaa
