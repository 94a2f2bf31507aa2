/- The specification's order of a long graph: the state of its loop. -/
import Derived.Test.YtoajibpconhkdaaWs2
import Derived.Test.YtoajibpconhkdaaRv1
import Derived.Deep.LoopGhost
namespace Go.Proofs.Ytoajibpconhkdaa
open Go.ChangeShapes Go.WideShapes Go.ChangeAt Go.RowKit
set_option linter.unusedVariables false
set_option linter.unusedSimpArgs false
abbrev stV (ps : List (Int × Nat)) : List Int := ps.map (fun p => p.1)
abbrev nxV (ps : List (Int × Nat)) : List Value := ps.map (fun p => Value.int .i64 (p.2 : Int))
def stOf (nx : Int → List Int) (ps : List (Int × Nat)) : List (Int × List Int) := ps.reverse.map (fun p => (p.1, (nx p.1).drop p.2))
theorem stOf_snoc (nx : Int → List Int) (us : List (Int × Nat)) (p : Int × Nat) : stOf nx (us ++ [p]) = (p.1, (nx p.1).drop p.2) :: stOf nx us := by simp [stOf]
structure LgI (n sb Bg E : Nat) (Go' : Obj) (W2 wr : World) (s5 s6 s7 : Value) (ps : List (Int × Nat)) (s Lf : List Int) : Prop where
  st : OwnI wr E s5 (stV ps)
  nx : wr.ownsRow E 3 1 s6 ps.length (nxV ps)
  lf : OwnI wr E s7 Lf
  seen : SeenAt wr sb n s
  ne : s5.ownBlock = none ∨ s5.ownBlock ≠ s7.ownBlock
  ne' : s7.ownBlock = none ∨ s7.ownBlock ≠ s5.ownBlock
  box : wr.heap[Bg]? = some Go'
  bel : Below W2.heap.size W2 wr
  sz : E ≤ wr.heap.size
section
variable {n sb Bg E : Nat} {Go' : Obj} {W2 wr w' : World} {s5 s6 s7 : Value} {ps us : List (Int × Nat)} {s Lf : List Int}
theorem LgI.keep (h : LgI n sb Bg E Go' W2 wr s5 s6 s7 ps s Lf) (hb : Below wr.heap.size wr w') (hE : W2.heap.size ≤ E) : LgI n sb Bg E Go' W2 w' s5 s6 s7 ps s Lf :=
  ⟨h.st.keep hb, row_kept h.nx hb, h.lf.keep hb, h.seen.keep hb, h.ne, h.ne', keep_cells h.box hb, h.bel.trans (hb.mono (by have := h.sz; omega)), Nat.le_trans h.sz hb.size⟩
/-- But for one row of the loop's own, what lay lies. -/
theorem LgI.move (h : LgI n sb Bg E Go' W2 wr s5 s6 s7 ps s Lf) (hE : W2.heap.size ≤ E) (hbg : Bg < E) (hsb : sb < E) {row : Option Nat} (hg : wr.grownBy w' row) (hr : ∀ k, row = some k → E ≤ k) :
    SeenAt w' sb n s ∧ w'.heap[Bg]? = some Go' ∧ Below W2.heap.size W2 w' ∧ E ≤ w'.heap.size :=
  ⟨h.seen.kept hg (fun e => by have := hr sb e.symm; omega), (hg.block Bg (Array.getElem?_eq_some_iff.1 h.box).1 (fun e => by have := hr Bg e.symm; omega)).trans h.box,
    h.bel.grown hg h.bel.size (fun k hk => by have := hr k hk; omega), Nat.le_trans h.sz hg.size⟩
theorem LgI.left (h : LgI n sb Bg E Go' W2 wr s5 s6 s7 ps s Lf) (hE : W2.heap.size ≤ E) (hbg : Bg < E) (hsb : sb < E) (hg : wr.grownBy w' s7.ownBlock) {g cap : Nat} {y : Int}
    (ho : w'.ownsRow E 2 1 (.slice (some ⟨g, 0, none⟩) (Lf.length + 1) cap) (Lf.length + 1) (Lf.map (Value.int .i64) ++ [.int .i64 y])) (hat : s7.ownBlock = some g ∨ g = wr.heap.size) :
    LgI n sb Bg E Go' W2 w' s5 s6 (.slice (some ⟨g, 0, none⟩) (Lf.length + 1) cap) ps s (Lf ++ [y]) := by
  obtain ⟨m1, m2, m3, m4⟩ := h.move hE hbg hsb hg (fun k hk => (h.lf.r.lt k hk).1)
  have hgs : s5.ownBlock ≠ some g := fun e => by
    rcases hat with q | q
    · rcases h.ne with z | z
      · rw [z] at e; cases e
      · exact z (e.trans q.symm)
    · have := (h.st.r.lt g e).2; omega
  refine ⟨h.st.kept hg h.ne, h.nx.kept hg (ne_types h.nx h.lf.r (by decide)), ⟨?_⟩, m1, .inr hgs, .inr (fun e => hgs e.symm), m2, m3, m4⟩
  have e : (Lf ++ [y]).length = Lf.length + 1 := by simp
  rw [e, List.map_append]; exact ho
theorem LgI.push (h : LgI n sb Bg E Go' W2 wr s5 s6 s7 ps s Lf) (hE : W2.heap.size ≤ E) (hbg : Bg < E) (hsb : sb < E) (hg : wr.grownBy w' s5.ownBlock) {g cap : Nat} {y : Int}
    (ho : w'.ownsRow E 2 1 (.slice (some ⟨g, 0, none⟩) ((stV ps).length + 1) cap) ((stV ps).length + 1) ((stV ps).map (Value.int .i64) ++ [.int .i64 y])) (hat : s5.ownBlock = some g ∨ g = wr.heap.size) {w2 : World} {g6 c6 : Nat}
    (hg2 : ∀ (h6 : w'.ownsRow E 3 1 s6 ps.length (nxV ps)), E ≤ w'.heap.size → w'.grownBy w2 s6.ownBlock) (ho2 : w2.ownsRow E 3 1 (.slice (some ⟨g6, 0, none⟩) (ps.length + 1) c6) (ps.length + 1) (nxV ps ++ [.int .i64 0])) :
    LgI n sb Bg E Go' W2 w2 (.slice (some ⟨g, 0, none⟩) ((stV ps).length + 1) cap) (.slice (some ⟨g6, 0, none⟩) (ps.length + 1) c6) s7 (ps ++ [(y, 0)]) s Lf := by
  obtain ⟨m1, m2, m3, m4⟩ := h.move hE hbg hsb hg (fun k hk => (h.st.r.lt k hk).1)
  have hgs : s7.ownBlock ≠ some g := fun e => by
    rcases hat with q | q
    · rcases h.ne' with z | z
      · rw [z] at e; cases e
      · exact z (e.trans q.symm)
    · have := (h.lf.r.lt g e).2; omega
  have h6 := h.nx.kept hg (ne_types h.nx h.st.r (by decide))
  have hl := h.lf.kept hg h.ne'
  have hG2 := hg2 h6 m4
  have hr6 : ∀ k, s6.ownBlock = some k → E ≤ k := fun k hk => (h6.lt k hk).1
  refine ⟨⟨?_⟩, ?_, hl.kept hG2 (ne_types hl.r h6 (by decide)), m1.kept hG2 (fun e => by have := hr6 sb e.symm; omega), .inr (fun e => hgs e.symm), .inr hgs, (hG2.block Bg (Array.getElem?_eq_some_iff.1 m2).1 (fun e => by have := hr6 Bg e.symm; omega)).trans m2, m3.grown hG2 m3.size (fun k hk => by have := hr6 k hk; omega), Nat.le_trans m4 hG2.size⟩
  · have e : (stV (ps ++ [(y, 0)])).length = (stV ps).length + 1 := by simp
    rw [e, show stV (ps ++ [(y, 0)]) = stV ps ++ [y] by simp, List.map_append]
    exact ho.kept hG2 (ne_types ho h6 (by decide))
  · have e : (ps ++ [(y, 0)]).length = ps.length + 1 := by simp
    rw [e, show nxV (ps ++ [(y, 0)]) = nxV ps ++ [.int .i64 0] by simp]
    exact ho2
theorem own_pop {w : World} {base g m cap : Nat} {e : TypeId} {xs : List Value} {y : Value} (h : w.ownsRow base e 1 (.slice (some ⟨g, 0, none⟩) (m + 1) cap) (m + 1) (xs ++ [y])) (hm : xs.length = m) : w.ownsRow base e 1 (.slice (some ⟨g, 0, none⟩) m cap) m xs := by
  obtain ⟨-, ⟨e, q⟩ | ⟨g', cap', cur, e, h1, h2, h3, h4, h5, h6⟩⟩ := h
  · cases e
  · injection e with e1 e2 e3
    cases e1
    subst e3
    refine ⟨by omega, .inr ⟨g, cap, cur, rfl, h1, h2, by omega, h4, h5, ?_⟩⟩
    have e1 : cur.toList.take (m * 1) = (cur.toList.take ((m + 1) * 1)).take (m * 1) := by rw [List.take_take, Nat.min_eq_left (by omega)]
    rw [e1, h6, List.take_append_of_le_length (by omega), List.take_of_length_le (by omega)]
theorem LgI.pop {p : Int × Nat} {g5 c5 g6 c6 : Nat} (h : LgI n sb Bg E Go' W2 wr (.slice (some ⟨g5, 0, none⟩) (us.length + 1) c5) (.slice (some ⟨g6, 0, none⟩) (us.length + 1) c6) s7 (us ++ [p]) s Lf) :
    LgI n sb Bg E Go' W2 wr (.slice (some ⟨g5, 0, none⟩) us.length c5) (.slice (some ⟨g6, 0, none⟩) us.length c6) s7 us s Lf := by
  refine ⟨⟨?_⟩, ?_, h.lf, h.seen, h.ne, h.ne', h.box, h.bel, h.sz⟩
  · have := h.st.r
    have e : (stV (us ++ [p])).length = us.length + 1 := by simp
    rw [e, show stV (us ++ [p]) = stV us ++ [p.1] by simp, List.map_append] at this
    have e2 : (stV us).length = us.length := by simp
    rw [e2]
    exact own_pop this (by simp)
  · have := h.nx
    have e : (us ++ [p]).length = us.length + 1 := by simp
    rw [e, show nxV (us ++ [p]) = nxV us ++ [.int .i64 (p.2 : Int)] by simp] at this
    exact own_pop this (by simp)
theorem LgI.inc {b : Int} {j : Nat} {g6 c6 : Nat} (h : LgI n sb Bg E Go' W2 wr s5 (.slice (some ⟨g6, 0, none⟩) (us.length + 1) c6) s7 (us ++ [(b, j)]) s Lf) (hE : W2.heap.size ≤ E) (hbg : Bg < E) (hsb : sb < E) :
    LgI n sb Bg E Go' W2 (wr.setCell ⟨g6, us.length, none⟩ (.int .i64 ((j : Int) + 1))) s5 (.slice (some ⟨g6, 0, none⟩) (us.length + 1) c6) s7 (us ++ [(b, j + 1)]) s Lf := by
  have hg := Fam.setHd.gset wr g6 us.length (.int .i64 ((j : Int) + 1))
  obtain ⟨m1, m2, m3, m4⟩ := h.move hE hbg hsb hg (fun k hk => by cases hk; exact (h.nx.lt g6 rfl).1)
  refine ⟨?_, ?_, h.lf.kept hg (ne_types h.lf.r h.nx (by decide)), m1, h.ne, h.ne', m2, m3, m4⟩
  · rw [show stV (us ++ [(b, j + 1)]) = stV (us ++ [(b, j)]) by simp]
    exact h.st.kept hg (ne_types h.st.r h.nx (by decide))
  · obtain ⟨hl, ⟨e, q⟩ | ⟨g', cap', cur, e, h1, h2, h3, h4, h5, h6⟩⟩ := h.nx
    · cases e
    · injection e with e1 e2 e3
      cases e1
      subst e3
      have el : (us ++ [(b, j + 1)]).length = us.length + 1 := by simp
      have el2 : (us ++ [(b, j)]).length = us.length + 1 := by simp
      rw [el]
      rw [el2] at h6
      refine ⟨by simp, .inr ⟨g6, c6, cur.setIfInBounds us.length (.int .i64 ((j : Int) + 1)), rfl, h1, set_cells h2 _ _, by rw [el2] at h3; exact h3, h4, by simp [h5], ?_⟩⟩
      rw [Array.toList_setIfInBounds, List.take_set, h6, show nxV (us ++ [(b, j)]) = nxV us ++ [.int .i64 (j : Int)] by simp, show nxV (us ++ [(b, j + 1)]) = nxV us ++ [.int .i64 ((j : Int) + 1)] by simp]
      rw [List.set_append, if_neg (by simp)]
      simp
theorem LgI.mark (h : LgI n sb Bg E Go' W2 wr s5 s6 s7 ps s Lf) (hE : W2.heap.size ≤ E) (hbg : Bg < sb) (hsb : sb < E) (hW : W2.heap.size ≤ Bg) {t : Nat} (ht : t < n) :
    LgI n sb Bg E Go' W2 (wr.setCell ⟨sb, t, none⟩ (.bool true)) s5 s6 s7 ps (s ++ [(t : Int)]) Lf := by
  have hg := Fam.setHd.gset wr sb t (.bool true)
  have far : ∀ {v : Value} {m : Nat} {e : TypeId} {xs : List Value}, wr.ownsRow E e 1 v m xs → v.ownBlock = none ∨ v.ownBlock ≠ some sb := fun ho => .inr (fun e => by have := (ho.lt sb e).1; omega)
  exact ⟨h.st.kept hg (far h.st.r), h.nx.kept hg (far h.nx), h.lf.kept hg (far h.lf.r), h.seen.add ht, h.ne, h.ne', (hg.block Bg (Array.getElem?_eq_some_iff.1 h.box).1 (fun e => by cases e; omega)).trans h.box, h.bel.setCell (by show W2.heap.size ≤ sb; omega) _, Nat.le_trans h.sz hg.size⟩
end
theorem Lw.inv_nil {nx : Int → List Int} {k : Nat} {s L : List Int} (h : Lw nx k [] s L) : L = [] := by cases h; rfl
theorem Lw.inv_leave {nx : Int → List Int} {k : Nat} {b : Int} {st : List (Int × List Int)} {s L : List Int} (h : Lw nx k ((b, []) :: st) s L) : ∃ k' L', k = k' + 1 ∧ L = b :: L' ∧ Lw nx k' st s L' := by
  cases h with | leave k' _ _ _ L' h => exact ⟨k', L', rfl, rfl, h⟩
theorem Lw.inv_cons {nx : Int → List Int} {k : Nat} {b c : Int} {r : List Int} {st : List (Int × List Int)} {s L : List Int} (h : Lw nx k ((b, c :: r) :: st) s L) :
    ∃ k', k = k' + 1 ∧ ((s.contains c = true ∧ Lw nx k' ((b, r) :: st) s L) ∨ (s.contains c = false ∧ Lw nx k' ((c, nx c) :: (b, r) :: st) (s ++ [c]) L)) := by
  cases h with
  | skip k' _ _ _ _ _ _ hc h => exact ⟨k', rfl, .inl ⟨hc, h⟩⟩
  | come k' _ _ _ _ _ _ hc h => exact ⟨k', rfl, .inr ⟨hc, h⟩⟩
end Go.Proofs.Ytoajibpconhkdaa
