/- The instructions of a function in memory, one after the other with their places. -/
import Derived.Test.YtmliokdeinlcgabDp16
import Derived.Test.YtmliokdeinlcgabRa
namespace Go.Proofs.Ytmliokdeinlcgab
open Go.ChangeShapes Go.WideShapes Go.ChangeAt Go.RowKit
set_option linter.unusedVariables false
set_option linter.unusedSimpArgs false
structure ItD where
  b : Nat
  i : Nat
  d : InD
  va : Value
  vb : Value
  vw : Value
instance : Inhabited ItD := ⟨⟨0, 0, default, undef, undef, undef⟩⟩
abbrev itE (x : ItD) : Array Value := #[.agg #[.int .i64 x.b, .int .i64 x.i], inV x.d x.va x.vb x.vw]
/-- Nine cells. -/
structure I9 (w : World) (b o : Nat) (d : InD) (va vb vw : Value) : Prop where
  c0 : At w b o (.int .i64 d.op)
  c1 : At w b (o + 1) (.int .i64 d.ty)
  c2 : At w b (o + 2) (.int .i64 d.fl)
  c3 : At w b (o + 3) (.int .i64 d.pr)
  c4 : At w b (o + 4) (.int .i64 d.ca)
  c5 : At w b (o + 5) (.int .i64 d.sz)
  c6 : At w b (o + 6) va
  c7 : At w b (o + 7) vb
  c8 : At w b (o + 8) vw
/-- What lies in a set of blocks lies there in another world too. -/
structure Kq (S : Nat → Prop) (A B : World) : Prop where
  size : A.heap.size ≤ B.heap.size
  low : ∀ k, S k → B.heap[k]? = A.heap[k]?
theorem Kq.at {S : Nat → Prop} {A B : World} (h : Kq S A B) {b o : Nat} {v : Value} (hb : S b) (c : At A b o v) : At B b o v := (World.cell?_of_block (a := ⟨b, o, none⟩) (h.low b hb)).trans c
theorem Kq.refl (S : Nat → Prop) (A : World) : Kq S A A := ⟨Nat.le_refl _, fun _ _ => rfl⟩
theorem Kq.trans {S : Nat → Prop} {A B C : World} (h : Kq S A B) (k : Kq S B C) : Kq S A C := ⟨Nat.le_trans h.size k.size, fun j hj => (k.low j hj).trans (h.low j hj)⟩
theorem Kd.kq {S : Nat → Prop} {L : Nat} {A B : World} (h : Kd S L A B) : Kq S A B := ⟨h.size, h.low⟩
theorem Kq.below {S : Nat → Prop} {n0 : Nat} {A B : World} (h : Below n0 A B) (hs : ∀ k, S k → k < n0) : Kq S A B := ⟨h.size, fun k hk => h.block k (hs k hk)⟩
theorem Kq.i9 {S : Nat → Prop} {A B : World} (h : Kq S A B) {b o : Nat} {d : InD} {va vb vw : Value} (hb : S b) (c : I9 A b o d va vb vw) : I9 B b o d va vb vw :=
  ⟨h.at hb c.c0, h.at hb c.c1, h.at hb c.c2, h.at hb c.c3, h.at hb c.c4, h.at hb c.c5, h.at hb c.c6, h.at hb c.c7, h.at hb c.c8⟩
/-- The three lists of an instruction are slices. -/
structure Sh (va vb vw : Value) : Prop where
  a : ∃ a n c, va = .slice a n c
  b : ∃ a n c, vb = .slice a n c
  c : ∃ a n c, vw = .slice a n c
theorem InV.sh {lo : Nat} {w : World} {va vb vw : Value} {d : InD} (h : InV lo w va vb vw d) : Sh va vb vw := by
  obtain ⟨_, _, ⟨⟨a, c, e, -, -⟩, -⟩, -, -⟩ := h.a.ex
  obtain ⟨_, _, ⟨⟨a2, c2, e2, -, -⟩, -⟩, -, -⟩ := h.b.ex
  obtain ⟨_, _, ⟨⟨a3, c3, e3, -, -⟩, -⟩, -, -⟩ := h.c.ex
  exact ⟨⟨_, _, _, e⟩, ⟨_, _, _, e2⟩, ⟨_, _, _, e3⟩⟩
structure ItIns (n0 : Nat) (w : World) (v : Value) (ys : List ItD) : Prop where
  ex : ∃ b o, Sl v ys.length b o ∧ ∀ i (h : i < ys.length), b < n0 ∧ Sh ys[i].va ys[i].vb ys[i].vw ∧ I9 w b (o + i * 9) ys[i].d ys[i].va ys[i].vb ys[i].vw
structure ItBls (n0 : Nat) (w : World) (v : Value) (Y : List (List ItD)) : Prop where
  ex : ∃ b o, Sl v Y.length b o ∧ ∀ k (h : k < Y.length), b < n0 ∧ ∃ vi, At w b (o + k) vi ∧ ItIns n0 w vi Y[k]
  ix : ∀ k (h : k < Y.length) j (hj : j < Y[k].length), Y[k][j].b = k ∧ Y[k][j].i = j
theorem ItIns.kq {S : Nat → Prop} {n0 : Nat} {A B : World} {v : Value} {ys : List ItD} (h : ItIns n0 A v ys) (k : Kq S A B) (hS : ∀ k, k < n0 → S k) : ItIns n0 B v ys := by
  obtain ⟨b, o, s, c⟩ := h.ex
  exact ⟨b, o, s, fun i hi => ⟨(c i hi).1, (c i hi).2.1, k.i9 (hS _ (c i hi).1) (c i hi).2.2⟩⟩
theorem ItBls.kq {S : Nat → Prop} {n0 : Nat} {A B : World} {v : Value} {Y : List (List ItD)} (h : ItBls n0 A v Y) (k : Kq S A B) (hS : ∀ k, k < n0 → S k) : ItBls n0 B v Y := by
  obtain ⟨b, o, s, c⟩ := h.ex
  refine ⟨⟨b, o, s, fun i hi => ?_⟩, h.ix⟩
  obtain ⟨hb, vi, q, r⟩ := c i hi
  exact ⟨hb, vi, k.at (hS _ hb) q, r.kq k hS⟩
theorem ItBls.sh {n0 : Nat} {A : World} {v : Value} {Y : List (List ItD)} (h : ItBls n0 A v Y) {y : ItD} (hy : y ∈ Y.flatten) : Sh y.va y.vb y.vw := by
  obtain ⟨ys, h1, h2⟩ := List.mem_flatten.1 hy
  obtain ⟨k, hk, rfl⟩ := List.mem_iff_getElem.1 h1
  obtain ⟨j, hj, rfl⟩ := List.mem_iff_getElem.1 h2
  obtain ⟨b, o, s, c⟩ := h.ex
  obtain ⟨-, vi, -, r⟩ := c k hk
  obtain ⟨b2, o2, s2, c2⟩ := r.ex
  exact (c2 j hj).2.1
theorem choose_list {α β : Type} (xs : List α) (R : Nat → α → β → Prop) (h : ∀ i (hi : i < xs.length), ∃ y, R i xs[i] y) : ∃ Y : List β, ∃ e : Y.length = xs.length, ∀ i (hi : i < xs.length), R i xs[i] (Y[i]'(by omega)) := by
  refine ⟨List.ofFn (fun i : Fin xs.length => Classical.choose (h i i.2)), by simp, fun i hi => ?_⟩
  rw [List.getElem_ofFn]
  exact Classical.choose_spec (h i hi)
theorem itIns_of {lo : Nat} {w : World} {v : Value} {xs : List InD} (h : Ins lo w v xs) (k : Nat) : ∃ ys : List ItD, ItIns w.heap.size w v ys ∧ ys.map (·.d) = xs ∧ (∀ j (hj : j < ys.length), ys[j].b = k ∧ ys[j].i = j) ∧ ∀ y, y ∈ ys → InV lo w y.va y.vb y.vw y.d := by
  obtain ⟨b, o, s, l, c⟩ := h.ex
  obtain ⟨ys, e, hy⟩ := choose_list (β := ItD) xs (fun i x y => y.b = k ∧ y.i = i ∧ y.d = x ∧ InAt lo w b (o + i * 9) x y.va y.vb y.vw) (fun i hi => by
    obtain ⟨va, vb, vw, q⟩ := c i hi
    exact ⟨⟨k, i, xs[i], va, vb, vw⟩, rfl, rfl, rfl, q⟩)
  refine ⟨ys, ⟨⟨b, o, e ▸ s, fun i hi => ?_⟩⟩, ?_, fun j hj => ?_, fun y hm => ?_⟩
  · obtain ⟨-, -, h3, h4⟩ := hy i (by omega)
    rw [h3]
    exact ⟨Lib.lt_of_cell h4.c0, h4.l.sh, h4.c0, h4.c1, h4.c2, h4.c3, h4.c4, h4.c5, h4.c6, h4.c7, h4.c8⟩
  · refine List.ext_getElem (by simp [e]) fun i h1 h2 => ?_
    rw [List.getElem_map]
    exact (hy i h2).2.2.1
  · exact ⟨(hy j (by omega)).1, (hy j (by omega)).2.1⟩
  · obtain ⟨j, hj, rfl⟩ := List.mem_iff_getElem.1 hm
    obtain ⟨-, -, h3, h4⟩ := hy j (by omega)
    rw [h3]
    exact h4.l
theorem itBls_of {lo : Nat} {w : World} {v : Value} {xs : List (List InD)} (h : Bls lo w v xs) : ∃ Y : List (List ItD), ItBls w.heap.size w v Y ∧ Y.map (·.map (·.d)) = xs ∧ ∀ y, y ∈ Y.flatten → InV lo w y.va y.vb y.vw y.d := by
  obtain ⟨b, o, s, l, c⟩ := h.ex
  obtain ⟨Y, e, hy⟩ := choose_list (β := List ItD) xs (fun k x ys => ∃ vi, At w b (o + k) vi ∧ ItIns w.heap.size w vi ys ∧ ys.map (·.d) = x ∧ (∀ j (hj : j < ys.length), ys[j].b = k ∧ ys[j].i = j) ∧ ∀ y, y ∈ ys → InV lo w y.va y.vb y.vw y.d) (fun k hk => by
    obtain ⟨vi, q, r⟩ := c k hk
    obtain ⟨ys, h1, h2, h3, h4⟩ := itIns_of r k
    exact ⟨ys, vi, q, h1, h2, h3, h4⟩)
  refine ⟨Y, ⟨⟨b, o, e ▸ s, fun k hk => ?_⟩, fun k hk j hj => ?_⟩, ?_, fun y hm => ?_⟩
  · obtain ⟨vi, q, r, -⟩ := hy k (by omega)
    exact ⟨Lib.lt_of_cell q, vi, q, r⟩
  · obtain ⟨vi, -, -, -, r, -⟩ := hy k (by omega)
    exact r j hj
  · refine List.ext_getElem (by simp [e]) fun i h1 h2 => ?_
    rw [List.getElem_map]
    obtain ⟨vi, -, -, r, -⟩ := hy i h2
    exact r
  · obtain ⟨ys, h1, h2⟩ := List.mem_flatten.1 hm
    obtain ⟨k, hk, rfl⟩ := List.mem_iff_getElem.1 h1
    obtain ⟨vi, -, -, -, -, r⟩ := hy k (by omega)
    exact r y h2
def offY (Y : List (List ItD)) (k : Nat) : Nat := ((Y.take k).flatten).length
theorem offY_zero (Y : List (List ItD)) : offY Y 0 = 0 := rfl
theorem offY_succ (Y : List (List ItD)) (k : Nat) (h : k < Y.length) : offY Y (k + 1) = offY Y k + Y[k].length := by
  unfold offY
  rw [List.take_succ_eq_append_getElem h, List.flatten_append, List.length_append]; simp
theorem offY_end (Y : List (List ItD)) : offY Y Y.length = Y.flatten.length := by unfold offY; rw [List.take_length]
theorem flat_at (Y : List (List ItD)) (k j : Nat) (h : k < Y.length) (hj : j < Y[k].length) : ∃ q : offY Y k + j < Y.flatten.length, Y.flatten[offY Y k + j] = Y[k][j] := by
  have e : Y.flatten = (Y.take k).flatten ++ (Y[k] ++ (Y.drop (k + 1)).flatten) := by
    rw [← List.flatten_cons, ← List.flatten_append, ← List.drop_eq_getElem_cons h, List.take_append_drop]
  have q : offY Y k + j < Y.flatten.length := by
    rw [e]; simp only [List.length_append]; unfold offY; omega
  refine ⟨q, ?_⟩
  have : Y.flatten[offY Y k + j]? = some Y[k][j] := by
    rw [e, List.getElem?_append_right (by unfold offY; omega)]
    have : offY Y k + j - ((Y.take k).flatten).length = j := by unfold offY; omega
    rw [this, List.getElem?_append_left hj, List.getElem?_eq_getElem hj]
  rw [List.getElem?_eq_getElem q] at this
  exact Option.some.inj this
end Go.Proofs.Ytmliokdeinlcgab
