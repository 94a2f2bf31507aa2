/- The packed texts It1, It2, It3, It4, It5, It6, Apn, Vt1. -/
import Derived.Test.YtbnkbbcncloedaaGreatDoorRows
import Derived.WalkKit
import Derived.ProofKit
import Derived.OpenShut
import Derived.WalkLawsBesides
import Derived.Below
import Derived.BigQuiet
import Derived.Lib.QuietBelow
import Derived.Lib.AtoiErrMem
import Derived.Deep.OwnRows
import Derived.Deep.DeepCutAuto
import Derived.RangeFuncNested
import Derived.RangeFuncBound
import Derived.RangeFuncCalls
import Derived.RangeFuncLeaves
import Derived.OwnWalkIn
import Derived.TacticsInMore
import Derived.LoopNIn
import Derived.LoopIn
import Derived.Shelf.Abstract
import Derived.Maps.AppendAt
import Derived.OwnWalk
import Derived.Test.YtbnkbbcncloedaaGreatDoorPk1
import Derived.Test.YtbnkbbcncloedaaGreatDoorPk2
import Derived.Test.YtbnkbbcncloedaaGreatDoorPk3
import Derived.Test.YtbnkbbcncloedaaGreatDoorPk5
namespace Go.Proofs.YtbnkbbcncloedaaGreatDoor
section
open Go.ChangeShapes Go.WideShapes Go.ChangeAt Go.RowKit

set_option linter.unusedVariables false

set_option linter.unusedSimpArgs false

structure ItD where
  b : Nat
  i : Nat
  d : InD
  va : Value
  vb : Value
  vw : Value

instance : Inhabited ItD := ⟨⟨0, 0, default, undef, undef, undef⟩⟩

abbrev itE (x : ItD) : Array Value := #[.agg #[.int .i64 x.b, .int .i64 x.i], inV x.d x.va x.vb x.vw]

structure I9 (w : World) (b o : Nat) (d : InD) (va vb vw : Value) : Prop where
  c0 : At w b o (.int .i64 d.op)
  c1 : At w b (o + 1) (.int .i64 d.ty)
  c2 : At w b (o + 2) (.int .i64 d.fl)
  c3 : At w b (o + 3) (.int .i64 d.pr)
  c4 : At w b (o + 4) (.int .i64 d.ca)
  c5 : At w b (o + 5) (.int .i64 d.sz)
  c6 : At w b (o + 6) va
  c7 : At w b (o + 7) vb
  c8 : At w b (o + 8) vw

structure Kq (S : Nat → Prop) (A B : World) : Prop where
  size : A.heap.size ≤ B.heap.size
  low : ∀ k, S k → B.heap[k]? = A.heap[k]?

theorem Kq.at {S : Nat → Prop} {A B : World} (h : Kq S A B) {b o : Nat} {v : Value} (hb : S b) (c : At A b o v) : At B b o v := (World.cell?_of_block (a := ⟨b, o, none⟩) (h.low b hb)).trans c

theorem Kq.refl (S : Nat → Prop) (A : World) : Kq S A A := ⟨Nat.le_refl _, fun _ _ => rfl⟩

theorem Kq.trans {S : Nat → Prop} {A B C : World} (h : Kq S A B) (k : Kq S B C) : Kq S A C := ⟨Nat.le_trans h.size k.size, fun j hj => (k.low j hj).trans (h.low j hj)⟩

theorem Kd.kq {S : Nat → Prop} {L : Nat} {A B : World} (h : Kd S L A B) : Kq S A B := ⟨h.size, h.low⟩

theorem Kq.below {S : Nat → Prop} {n0 : Nat} {A B : World} (h : Below n0 A B) (hs : ∀ k, S k → k < n0) : Kq S A B := ⟨h.size, fun k hk => h.block k (hs k hk)⟩

theorem Kq.i9 {S : Nat → Prop} {A B : World} (h : Kq S A B) {b o : Nat} {d : InD} {va vb vw : Value} (hb : S b) (c : I9 A b o d va vb vw) : I9 B b o d va vb vw :=
  ⟨h.at hb c.c0, h.at hb c.c1, h.at hb c.c2, h.at hb c.c3, h.at hb c.c4, h.at hb c.c5, h.at hb c.c6, h.at hb c.c7, h.at hb c.c8⟩

structure Sh (va vb vw : Value) : Prop where
  a : ∃ a n c, va = .slice a n c
  b : ∃ a n c, vb = .slice a n c
  c : ∃ a n c, vw = .slice a n c

theorem InV.sh {lo : Nat} {w : World} {va vb vw : Value} {d : InD} (h : InV lo w va vb vw d) : Sh va vb vw := by
  obtain ⟨_, _, ⟨⟨a, c, e, -, -⟩, -⟩, -, -⟩ := h.a.ex
  obtain ⟨_, _, ⟨⟨a2, c2, e2, -, -⟩, -⟩, -, -⟩ := h.b.ex
  obtain ⟨_, _, ⟨⟨a3, c3, e3, -, -⟩, -⟩, -, -⟩ := h.c.ex
  exact ⟨⟨_, _, _, e⟩, ⟨_, _, _, e2⟩, ⟨_, _, _, e3⟩⟩

structure ItIns (n0 : Nat) (w : World) (v : Value) (ys : List ItD) : Prop where
  ex : ∃ b o, Sl v ys.length b o ∧ ∀ i (h : i < ys.length), b < n0 ∧ Sh ys[i].va ys[i].vb ys[i].vw ∧ I9 w b (o + i * 9) ys[i].d ys[i].va ys[i].vb ys[i].vw

structure ItBls (n0 : Nat) (w : World) (v : Value) (Y : List (List ItD)) : Prop where
  ex : ∃ b o, Sl v Y.length b o ∧ ∀ k (h : k < Y.length), b < n0 ∧ ∃ vi, At w b (o + k) vi ∧ ItIns n0 w vi Y[k]
  ix : ∀ k (h : k < Y.length) j (hj : j < Y[k].length), Y[k][j].b = k ∧ Y[k][j].i = j

theorem ItIns.kq {S : Nat → Prop} {n0 : Nat} {A B : World} {v : Value} {ys : List ItD} (h : ItIns n0 A v ys) (k : Kq S A B) (hS : ∀ k, k < n0 → S k) : ItIns n0 B v ys := by
  obtain ⟨b, o, s, c⟩ := h.ex
  exact ⟨b, o, s, fun i hi => ⟨(c i hi).1, (c i hi).2.1, k.i9 (hS _ (c i hi).1) (c i hi).2.2⟩⟩

theorem ItBls.kq {S : Nat → Prop} {n0 : Nat} {A B : World} {v : Value} {Y : List (List ItD)} (h : ItBls n0 A v Y) (k : Kq S A B) (hS : ∀ k, k < n0 → S k) : ItBls n0 B v Y := by
  obtain ⟨b, o, s, c⟩ := h.ex
  refine ⟨⟨b, o, s, fun i hi => ?_⟩, h.ix⟩
  obtain ⟨hb, vi, q, r⟩ := c i hi
  exact ⟨hb, vi, k.at (hS _ hb) q, r.kq k hS⟩

theorem ItBls.sh {n0 : Nat} {A : World} {v : Value} {Y : List (List ItD)} (h : ItBls n0 A v Y) {y : ItD} (hy : y ∈ Y.flatten) : Sh y.va y.vb y.vw := by
  obtain ⟨ys, h1, h2⟩ := List.mem_flatten.1 hy
  obtain ⟨k, hk, rfl⟩ := List.mem_iff_getElem.1 h1
  obtain ⟨j, hj, rfl⟩ := List.mem_iff_getElem.1 h2
  obtain ⟨b, o, s, c⟩ := h.ex
  obtain ⟨-, vi, -, r⟩ := c k hk
  obtain ⟨b2, o2, s2, c2⟩ := r.ex
  exact (c2 j hj).2.1

theorem choose_list {α β : Type} (xs : List α) (R : Nat → α → β → Prop) (h : ∀ i (hi : i < xs.length), ∃ y, R i xs[i] y) : ∃ Y : List β, ∃ e : Y.length = xs.length, ∀ i (hi : i < xs.length), R i xs[i] (Y[i]'(by omega)) := by
  refine ⟨List.ofFn (fun i : Fin xs.length => Classical.choose (h i i.2)), by simp, fun i hi => ?_⟩
  rw [List.getElem_ofFn]
  exact Classical.choose_spec (h i hi)

theorem itIns_of {lo : Nat} {w : World} {v : Value} {xs : List InD} (h : Ins lo w v xs) (k : Nat) : ∃ ys : List ItD, ItIns w.heap.size w v ys ∧ ys.map (·.d) = xs ∧ (∀ j (hj : j < ys.length), ys[j].b = k ∧ ys[j].i = j) ∧ ∀ y, y ∈ ys → InV lo w y.va y.vb y.vw y.d := by
  obtain ⟨b, o, s, l, c⟩ := h.ex
  obtain ⟨ys, e, hy⟩ := choose_list (β := ItD) xs (fun i x y => y.b = k ∧ y.i = i ∧ y.d = x ∧ InAt lo w b (o + i * 9) x y.va y.vb y.vw) (fun i hi => by
    obtain ⟨va, vb, vw, q⟩ := c i hi
    exact ⟨⟨k, i, xs[i], va, vb, vw⟩, rfl, rfl, rfl, q⟩)
  refine ⟨ys, ⟨⟨b, o, e ▸ s, fun i hi => ?_⟩⟩, ?_, fun j hj => ?_, fun y hm => ?_⟩
  · obtain ⟨-, -, h3, h4⟩ := hy i (by omega)
    rw [h3]
    exact ⟨Lib.lt_of_cell h4.c0, h4.l.sh, h4.c0, h4.c1, h4.c2, h4.c3, h4.c4, h4.c5, h4.c6, h4.c7, h4.c8⟩
  · refine List.ext_getElem (by simp [e]) fun i h1 h2 => ?_
    rw [List.getElem_map]
    exact (hy i h2).2.2.1
  · exact ⟨(hy j (by omega)).1, (hy j (by omega)).2.1⟩
  · obtain ⟨j, hj, rfl⟩ := List.mem_iff_getElem.1 hm
    obtain ⟨-, -, h3, h4⟩ := hy j (by omega)
    rw [h3]
    exact h4.l

theorem itBls_of {lo : Nat} {w : World} {v : Value} {xs : List (List InD)} (h : Bls lo w v xs) : ∃ Y : List (List ItD), ItBls w.heap.size w v Y ∧ Y.map (·.map (·.d)) = xs ∧ ∀ y, y ∈ Y.flatten → InV lo w y.va y.vb y.vw y.d := by
  obtain ⟨b, o, s, l, c⟩ := h.ex
  obtain ⟨Y, e, hy⟩ := choose_list (β := List ItD) xs (fun k x ys => ∃ vi, At w b (o + k) vi ∧ ItIns w.heap.size w vi ys ∧ ys.map (·.d) = x ∧ (∀ j (hj : j < ys.length), ys[j].b = k ∧ ys[j].i = j) ∧ ∀ y, y ∈ ys → InV lo w y.va y.vb y.vw y.d) (fun k hk => by
    obtain ⟨vi, q, r⟩ := c k hk
    obtain ⟨ys, h1, h2, h3, h4⟩ := itIns_of r k
    exact ⟨ys, vi, q, h1, h2, h3, h4⟩)
  refine ⟨Y, ⟨⟨b, o, e ▸ s, fun k hk => ?_⟩, fun k hk j hj => ?_⟩, ?_, fun y hm => ?_⟩
  · obtain ⟨vi, q, r, -⟩ := hy k (by omega)
    exact ⟨Lib.lt_of_cell q, vi, q, r⟩
  · obtain ⟨vi, -, -, -, r, -⟩ := hy k (by omega)
    exact r j hj
  · refine List.ext_getElem (by simp [e]) fun i h1 h2 => ?_
    rw [List.getElem_map]
    obtain ⟨vi, -, -, r, -⟩ := hy i h2
    exact r
  · obtain ⟨ys, h1, h2⟩ := List.mem_flatten.1 hm
    obtain ⟨k, hk, rfl⟩ := List.mem_iff_getElem.1 h1
    obtain ⟨vi, -, -, -, -, r⟩ := hy k (by omega)
    exact r y h2

def offY (Y : List (List ItD)) (k : Nat) : Nat := ((Y.take k).flatten).length

theorem offY_succ (Y : List (List ItD)) (k : Nat) (h : k < Y.length) : offY Y (k + 1) = offY Y k + Y[k].length := by
  unfold offY
  rw [List.take_succ_eq_append_getElem h, List.flatten_append, List.length_append]; simp

theorem offY_end (Y : List (List ItD)) : offY Y Y.length = Y.flatten.length := by unfold offY; rw [List.take_length]

theorem flat_at (Y : List (List ItD)) (k j : Nat) (h : k < Y.length) (hj : j < Y[k].length) : ∃ q : offY Y k + j < Y.flatten.length, Y.flatten[offY Y k + j] = Y[k][j] := by
  have e : Y.flatten = (Y.take k).flatten ++ (Y[k] ++ (Y.drop (k + 1)).flatten) := by
    rw [← List.flatten_cons, ← List.flatten_append, ← List.drop_eq_getElem_cons h, List.take_append_drop]
  have q : offY Y k + j < Y.flatten.length := by
    rw [e]; simp only [List.length_append]; unfold offY; omega
  refine ⟨q, ?_⟩
  have : Y.flatten[offY Y k + j]? = some Y[k][j] := by
    rw [e, List.getElem?_append_right (by unfold offY; omega)]
    have : offY Y k + j - ((Y.take k).flatten).length = j := by unfold offY; omega
    rw [this, List.getElem?_append_left hj, List.getElem?_eq_getElem hj]
  rw [List.getElem?_eq_getElem q] at this
  exact Option.some.inj this
end
section
open Go.ChangeShapes Go.WideShapes Go.ChangeAt Go.RowKit

attribute [local go_sem] Oper.semAt_some

set_option linter.unusedVariables false

set_option linter.unusedSimpArgs false
end
section
open Go.ChangeShapes Go.WideShapes Go.ChangeAt Go.RowKit

attribute [local go_sem] Oper.semAt_some

set_option linter.unusedVariables false

set_option linter.unusedSimpArgs false

theorem instrsOf_c (name : ByteArray) (link res : Int) (vp vb : Value) (hp : ∃ a n c, vp = .slice a n c) (hb : ∃ a n c, vb = .slice a n c) (w : World) :
    Calls Tryz.prog 145 #[.agg #[.string name, .int .i64 link, vp, .int .i64 res, vb]] w fun e w' => e = .returned (.func (.func 187) #[] #[.pointer (some ⟨w.heap.size, 0, none⟩)]) ∧ w' = w.alloc (.cells #[.string name, .int .i64 link, vp, .int .i64 res, vb] 74) := by
  obtain ⟨a1, n1, c1, rfl⟩ := hp
  obtain ⟨a2, n2, c2, rfl⟩ := hb
  go_enter Tryz.func145, Tryz.ntmps145
  go_wp2
  go_ret
  exact ⟨rfl, rfl⟩
end
section
open Go.ChangeShapes Go.WideShapes Go.ChangeAt Go.RowKit

attribute [local go_sem] Oper.semAt_some

set_option linter.unusedVariables false

set_option linter.unusedSimpArgs false

abbrev trip (y : ItD) : Nat × Nat × Int := (y.b, y.i, y.d.ty)

theorem inPl_trip (b : Nat) : ∀ (ys : List ItD) (i0 : Nat), (∀ j (h : j < ys.length), ys[j].b = b ∧ ys[j].i = i0 + j) → inPl b i0 (ys.map (·.d)) = ys.map trip
  | [], _, _ => rfl
  | y :: r, i0, h => by
    have h0 := h 0 (by simp)
    simp only [List.getElem_cons_zero, Nat.add_zero] at h0
    have := inPl_trip b r (i0 + 1) (fun j hj => by
      have := h (j + 1) (by simpa using hj)
      simp only [List.getElem_cons_succ] at this
      exact ⟨this.1, by omega⟩)
    simp only [List.map_cons, inPl, this, trip, h0.1, h0.2]

theorem blPl_trip : ∀ (Y : List (List ItD)) (b0 : Nat), (∀ k (h : k < Y.length) j (hj : j < Y[k].length), Y[k][j].b = b0 + k ∧ Y[k][j].i = j) → blPl b0 (Y.map (·.map (·.d))) = Y.flatten.map trip
  | [], _, _ => rfl
  | ys :: R, b0, h => by
    have h0 := inPl_trip b0 ys 0 (fun j hj => by
      have := h 0 (by simp) j (by simpa using hj)
      simpa using this)
    have := blPl_trip R (b0 + 1) (fun k hk j hj => by
      have := h (k + 1) (by simpa using hk) j (by simpa using hj)
      simp only [List.getElem_cons_succ] at this
      exact ⟨by omega, this.2⟩)
    simp only [List.map_cons, blPl, List.flatten_cons, List.map_append, h0, this]
end
section
open Go.ChangeShapes Go.WideShapes Go.ChangeAt Go.RowKit

attribute [local go_sem] Oper.semAt_some

set_option linter.unusedVariables false

set_option linter.unusedSimpArgs false

theorem at_cells {w : World} {b : Nat} {arr : Array Value} {t : TypeId} (h : w.heap[b]? = some (Go.Obj.cells arr t (0, 0))) {j : Nat} {v : Value} (hj : arr[j]? = some v) : At w b j v := by
  show World.cell? _ _ = _
  simp [World.cell?, h, hj]

theorem rw_cells {w : World} {b : Nat} {arr : Array Value} {t : TypeId} (h : w.heap[b]? = some (Go.Obj.cells arr t (0, 0))) : ∀ j, w.frozen? ⟨b, j, none⟩ = false := fun j => by simp [World.frozen?, h]
end
section
open Go.ChangeShapes Go.WideShapes Go.ChangeAt Go.RowKit

attribute [local go_sem] Oper.semAt_some

set_option linter.unusedVariables false

set_option linter.unusedSimpArgs false
end
section
open Go.ChangeShapes Go.WideShapes Go.ChangeAt Go.RowKit

set_option linter.unusedVariables false

set_option linter.unusedSimpArgs false

theorem run_append_none {P : Program} (w : World) (base : Nat) (t ty e : TypeId) (i : TypeInfo) (size : Nat) (ht : P.underlying t = some (.slice e)) (hi : P.info? e = some i) (hsize : i.size = size)
    (v : Value) (n : Nat) (xs : List Value) (hown : w.ownsRow base e size v n xs) (c : Nat) :
    (Builtin.append_ #[t, t] ty #[v, .slice none 0 c]).run P w = .ok v w := by
  rcases hown.2 with ⟨rfl, rfl⟩ | ⟨g, cap, cur, rfl, hbg, hg, hnc, hcm, hcs, htake⟩
  · simp [Builtin.append_, run_underlying ht, sizeOf, typeInfo, hi, Builtin.lenOf, Builtin.firstCells, loadCells, loadCellsFrom]
  · simp [Builtin.append_, run_underlying ht, sizeOf, typeInfo, hi, Builtin.lenOf, Builtin.firstCells, loadCells, loadCellsFrom, hnc]
    simp [storeCells, Result.andThen]

theorem run_append_vals {P : Program} (w : World) (base : Nat) (t ty e : TypeId) (i : TypeInfo) (z : Value) (size bytes : Nat) (ht : P.underlying t = some (.slice e)) (hi : P.info? e = some i) (hz : i.zero = some z)
    (hsize : i.size = size) (hby : i.bytes = bytes) (hzs : z.cells.size = size) (hsz : 0 < size)
    (v : Value) (n : Nat) (xs : List Value) (hown : w.ownsRow base e size v n xs)
    (a : Option Addr) (b o m c : Nat) (news : List Value) (ha : 0 < m → a = some ⟨b, o, none⟩) (hl : news.length = m * size) (hnews : ∀ j (hj : j < news.length), At w b (o + j) news[j]) (h1 : ∀ u ∈ news, u.oneCell' = true)
    (h63 : n + m ≤ maxLen) (hbytes : (n + m) * bytes ≤ 140737488355328) (hbase : base ≤ w.heap.size) :
    ∃ v' w', (Builtin.append_ #[t, t] ty #[v, .slice a m c]).run P w = .ok v' w' ∧ w'.ownsRow base e size v' (n + m) (xs ++ news) ∧ w.grownBy w' v.ownBlock := by
  cases a with
  | none =>
    obtain rfl : m = 0 := by
      rcases Nat.eq_zero_or_pos m with h | h
      · exact h
      · cases ha h
    obtain rfl : news = [] := List.eq_nil_of_length_eq_zero (by simpa using hl)
    exact ⟨v, w, run_append_none w base t ty e i size ht hi hsize v n xs hown c, by simpa using hown, ⟨rfl, rfl, rfl, Nat.le_refl _, fun _ _ _ => rfl⟩⟩
  | some ad =>
    obtain ⟨v', w', h1, h2, h3, -⟩ := run_append_own w base t ty e i z size bytes ht hi hz hsize hby hzs hsz v n xs hown ad m c news hl (fun j u hj => by
      obtain ⟨hlt, rfl⟩ := List.getElem?_eq_some_iff.1 hj
      have hm : 0 < m := by
        rcases Nat.eq_zero_or_pos m with h | h
        · subst h; simp at hl; rw [hl] at hlt; simp at hlt
        · exact h
      have := ha hm
      cases this
      rw [Go.WideShapes.add_plain]
      exact hnews j hlt) h1 h63 hbytes hbase
    exact ⟨v', w', h1, h2, h3⟩

theorem wpList_append_vals {P : Program} (w : World) {ops : Array Oper} {rest : List Oper} {op : Oper} {ac : Act} {Q : Exit → Act → World → Prop} (hgd : op.guard = none) (s x : Operand) (t : TypeId)
    (ho : op.op = .call { callee := .builtin .append, args := #[s, x], argTypes := #[t, t] })
    (base : Nat) (e : TypeId) (i : TypeInfo) (z : Value) (size bytes : Nat) (ht : P.underlying t = some (.slice e)) (hi : P.info? e = some i) (hz : i.zero = some z)
    (hsize : i.size = size) (hby : i.bytes = bytes) (hzs : z.cells.size = size) (hsz : 0 < size)
    (v : Value) (n : Nat) (xs : List Value) (hs : ac.eval s = v) (hown : w.ownsRow base e size v n xs)
    (a : Option Addr) (b o m c : Nat) (news : List Value) (hx : ac.eval x = .slice a m c) (ha : 0 < m → a = some ⟨b, o, none⟩) (hl : news.length = m * size) (hnews : ∀ j (hj : j < news.length), At w b (o + j) news[j]) (h1 : ∀ u ∈ news, u.oneCell' = true)
    (h63 : n + m ≤ maxLen) (hbytes : (n + m) * bytes ≤ 140737488355328) (hbase : base ≤ w.heap.size)
    (h : ∀ v' w', w'.ownsRow base e size v' (n + m) (xs ++ news) → w.grownBy w' v.ownBlock → wpList P ops Q rest (ac.put op.dst v') w') : wpList P ops Q (op :: rest) ac w := by
  refine wpList_plain hgd fun K hK => ?_
  obtain ⟨v', w', hr, h2, h3⟩ := run_append_vals w base t op.type e i z size bytes ht hi hz hsize hby hzs hsz v n xs hown a b o m c news ha hl hnews h1 h63 hbytes hbase
  unfold Oper.wp execOp
  simp only [ho, resolve, invoke, builtin, Sem.run_bind, Sem.run_pure, Result.andThen_ok, List.map_toArray, List.map_cons, List.map_nil, hs, hx, hr]
  exact hK _ _ (h v' w' h2 h3)

theorem one_new (w : World) (x : Value) (T : TypeId) : ∀ j (hj : j < [x].length), At (w.alloc (Go.Obj.cells #[x] T)) w.heap.size (0 + j) [x][j] := fun j hj => by
  obtain rfl : j = 0 := by simpa using hj
  exact at_cells (MapKept.heap_alloc w _).1 rfl

theorem one_cell {k : IntKind} {t : Int} : ∀ u ∈ [Value.int k t], u.oneCell' = true := fun u hu => by
  obtain rfl : u = .int k t := by simpa using hu
  rfl

theorem own_bel {base : Nat} {e : TypeId} {size : Nat} {v : Value} {n : Nat} {xs : List Value} {w0 w w' : World} (hB : Below base w0 w) (hown : w.ownsRow base e size v n xs) (hg : w.grownBy w' v.ownBlock) (hb : base ≤ w.heap.size) : Below base w0 w' :=
  hB.grown hg hb (fun k hk => (hown.lt k hk).1)
end
section
open Go.ChangeShapes Go.WideShapes Go.ChangeAt Go.RowKit

set_option linter.unusedVariables false

set_option linter.unusedSimpArgs false

def tysOf : List (Nat × Nat × Int) → List Int
  | [] => []
  | (_, _, t) :: r => if t = 0 then tysOf r else t :: tysOf r

theorem tysOf_len (a : List (Nat × Nat × Int)) : (tysOf a).length ≤ a.length := by
  induction a with
  | nil => exact Nat.le_refl _
  | cons x r ih =>
    obtain ⟨p, q, t⟩ := x
    simp only [tysOf]
    split <;> simp only [List.length_cons] <;> omega

theorem info64 : (Tryz.prog.info? 2).map (fun i => (i.zero, i.size, i.bytes)) = some (some (.int .i64 0), 1, 8) := by kernel_rfl

structure OwnI (w : World) (base : Nat) (v : Value) (xs : List Int) : Prop where
  r : w.ownsRow base 2 1 v xs.length (xs.map (Value.int .i64))

theorem OwnI.ints {w : World} {base : Nat} {v : Value} {xs : List Int} (h : OwnI w base v xs) (hn : xs.length ≤ 1048576) : Ints base .i64 w v xs := by
  obtain ⟨hl, h0 | ⟨g, cap, cur, rfl, hb, hg, h1, h2, h3, h4⟩⟩ := h.r
  · obtain ⟨rfl, h0⟩ := h0
    obtain rfl : xs = [] := List.length_eq_zero_iff.1 h0
    exact ⟨base, 0, ⟨⟨none, 0, rfl, Nat.le_refl _, fun h => absurd h (by simp)⟩, by simp⟩, Nat.le_refl _, fun i hi => by simp at hi⟩
  · refine ⟨g, 0, ⟨⟨_, _, rfl, h1, fun _ => rfl⟩, by omega⟩, hb, fun i hi => ?_⟩
    refine at_cells hg ?_
    have : (cur.toList.take (xs.length * 1))[i]? = some (.int .i64 xs[i]) := by rw [h4]; simp [hi]
    rw [List.getElem?_take] at this
    split at this
    · simpa using this
    · cases this

theorem OwnI.keep {w w' : World} {base : Nat} {v : Value} {xs : List Int} (h : OwnI w base v xs) (hb : Below w.heap.size w w') : OwnI w' base v xs := by
  refine ⟨h.r.1, ?_⟩
  rcases h.r.2 with h0 | ⟨g, cap, cur, rfl, hb1, hg, rest⟩
  · exact .inl h0
  · exact .inr ⟨g, cap, cur, rfl, hb1, keep_cells' hg hb, rest⟩
where keep_cells' {w w' : World} {b : Nat} {o : Obj} (h : w.heap[b]? = some o) (hb : Below w.heap.size w w') : w'.heap[b]? = some o := (hb.block b (Array.getElem?_eq_some_iff.1 h).1).trans h

theorem Joins_le {w : World} {base size n : Nat} {e : TypeId} {v : Value} {xs : List Value} (h : w.ownsRow (base + 1) e size v n xs) : w.ownsRow base e size v n xs :=
  ⟨h.1, h.2.elim Or.inl (fun ⟨g, cap, cur, hv, hg, r⟩ => Or.inr ⟨g, cap, cur, hv, by omega, r⟩)⟩

theorem OwnI.own {w : World} {base : Nat} {v : Value} {xs : List Int} (h : OwnI w base v xs) (hn : xs.length ≤ 1048576) (h0 : 0 < xs.length) : ∃ B, Own64 w v xs.length B 0 ∧ base ≤ B := by
  obtain ⟨hl, q | ⟨g, cap, cur, rfl, hb, hg, h1, h2, h3, h4⟩⟩ := h.r
  · omega
  · exact ⟨g, ⟨⟨⟨_, _, rfl, h1, fun _ => rfl⟩, by omega⟩, cap * 1, ⟨2, fun j => cur.getD j undef, cur, hg, h3, fun i hi => by simp [Array.getD, show i < cur.size by omega]⟩, by omega⟩, hb⟩

set_option maxRecDepth 100000 in
set_option maxHeartbeats 2000000 in
theorem valTyS (d : FnD) (vp vb : Value) (w : World) {lo : Nat} (h : FnAt lo w d vp vb) (hn : fnN d ≤ 1048576) :
    Calls Tryz.prog 72 #[fnV d vp vb] w fun e w' => ∃ v, e = .returned v ∧ OwnI w' w.heap.size v (d.params ++ tysOf (blPl 0 d.blocks)) ∧ Below w.heap.size w w' := by
  unfold fnN at hn
  obtain ⟨name, link, params, res, blocks⟩ := d
  obtain ⟨-, hp, hb⟩ := h
  dsimp only [fnV] at *
  have nn := blsN_nn blocks
  have n1 : (params.length : Int) ≤ 1048576 := by omega
  have n2 : (blocks.length : Int) ≤ 1048576 := by omega
  obtain ⟨b0, o0, ⟨⟨a1, k1, rfl, s1, s2⟩, s3⟩, -, pc⟩ := hp.ex
  obtain ⟨b, o, ⟨⟨a2, k2, rfl, h1, h2⟩, h3⟩, -, hc⟩ := hb.ex
  obtain ⟨i0, hi0, hz0, hz1, hz2⟩ := info_parts info64
  replace hp := Kp.mk hp
  replace hb := Kp.mk hb
  replace hc := Kp.mk hc
  replace h2 := Kp.mk h2
  replace s2 := Kp.mk s2
  have n3 : (params.length : Int) + blsN blocks ≤ 1048576 := by omega
  clear hn nn
  obtain ⟨A, hA⟩ : ∃ A, A = params ++ tysOf (blPl 0 blocks) := ⟨_, rfl⟩
  have hAK := Kp.mk hA
  rw [← hA]
  clear hA
  go_enter Tryz.func72, Tryz.ntmps72
  have hmk : ∀ (W : World) (o : Obj) (H : Nat), H = W.heap.size + 1 → ((W.alloc o).alloc (Go.Obj.cells #[] 2)).ownsRow (W.heap.size + 1) 2 1 (.slice (some ⟨H, 0, none⟩) 0 0) 0 [] := fun W o H h => by
    subst h
    have := World.ownsRow_made (base := W.heap.size + 1) (e := 2) (size := 1) (W.alloc o) #[] 0 (by simp) (Nat.zero_le _) rfl
    rwa [World.size_alloc] at this
  replace hmk := Kp.mk hmk
  go_wp2_with (at_builtin; refine wpList_append_vals _ rfl _ _ 66 rfl (w.heap.size + 1) 2 i0 (.int .i64 0) 1 8 Tryz.underlying66 hi0 hz0 hz1 hz2 rfl (by decide) _ _ _ rfl (hmk.out w _ _ rfl) a1 b0 o0 params.length k1 (params.map (Value.int .i64)) rfl s2.out ?qc1 ?qc2 ?qc3 ?qc4 ?qc5 ?qc6 ?_)
  case qc1 => simp
  case qc2 =>
    intro j hj
    rw [List.getElem_map]
    exact at_keep (pc j (by simpa using hj)) (bel_trans (bel_alloc _ _) (bel_alloc _ _))
  case qc3 => intro u hu; obtain ⟨x, _, rfl⟩ := List.mem_map.1 hu; rfl
  case qc4 => unfold maxLen; omega
  case qc5 => omega
  case qc6 => simp
  intro v1 w1 hown hgrow
  obtain ⟨F, hF⟩ : ∃ F, F = Go.Obj.cells #[.string name, .int .i64 link, .slice a1 params.length k1, .int .i64 res, .slice a2 blocks.length k2] 74 (0, 0) := ⟨_, rfl⟩
  have hbx : w1.heap[w.heap.size]? = some F := by
    rw [hF, hgrow.block w.heap.size (by simp; omega) (by simp [Value.ownBlock]), (MapKept.heap_alloc _ _).2 _ (by simp)]
    exact (MapKept.heap_alloc w _).1
  have hB1 : Below w.heap.size w w1 := (bel_trans (bel_alloc w _) (bel_alloc _ _)).grown hgrow (by simp; omega) (fun k hk => by simp [Value.ownBlock] at hk; omega)
  have hsz1 : w.heap.size + 1 ≤ w1.heap.size := by have := hgrow.size; simp at this; omega
  replace hF := Kp.mk hF
  clear hgrow s2 pc s1 hmk
  go_wp2_with fail
  go_loopw [3, 4] (fun s r wr => ∃ (B : Nat) (xs : List Int), B ≤ blocks.length ∧ r = .int .i64 B ∧ wr.ownsRow (w.heap.size + 1) 2 1 s xs.length (xs.map (Value.int .i64)) ∧ Kp (xs ++ tysOf (blPl B (blocks.drop B)) = A) ∧ xs.length + (blPl B (blocks.drop B)).length ≤ 2097152 ∧ wr.heap[w.heap.size]? = some F ∧ w.heap.size + 1 ≤ wr.heap.size ∧ Below w.heap.size w wr) (fun _ r _ => blocks.length - (intOf r).toNat)
  case atStart => exact ⟨0, params, Nat.zero_le _, rfl, hown, ⟨hAK.out.symm⟩, by have := blPl_len 0 blocks; simp only [List.drop_zero]; omega, hbx, hsz1, hB1⟩
  case round =>
    clear hown hbx hB1 hsz1 hAK
    obtain ⟨B, xs, hB, rfl, hown, hd, hn1, hbx, hsz, hBl⟩ := hrel
    have x4 : wr.cell? ⟨w.heap.size, 4, none⟩ = some (.slice a2 blocks.length k2) := at_cells (hbx.trans (by rw [hF.out])) rfl
    by_cases hlt : B < blocks.length
    · obtain rfl := h2.out (by omega)
      obtain ⟨vi, c0, hv⟩ := hc.out B hlt
      obtain ⟨ys, hys⟩ : ∃ ys, Kp (blocks[B] = ys) := ⟨_, ⟨rfl⟩⟩
      rw [hys.out] at hv
      have hdr := Kp.mk (blPl_drop B blocks hlt)
      rw [hys.out] at hdr
      rw [hdr.out] at hn1 hd
      obtain ⟨bi, oi, ⟨⟨ai, ki, rfl, i1, i2⟩, i3⟩, -, ic⟩ := hv.ex
      have C0 : Kp (∀ W, Below w.heap.size w W → At W b (o + B) (.slice ai ys.length ki)) := ⟨fun W h => at_keep c0 h⟩
      replace c0 := at_keep c0 hBl
      have ic' : Kp (∀ W, Below w.heap.size w W → ∀ i (h : i < ys.length), At W bi (oi + i * 9 + 1) (.int .i64 (ys[i]).ty)) := ⟨fun W hW i h => by
        obtain ⟨_, _, _, q⟩ := ic i h
        exact at_keep q.c1 hW⟩
      replace i2 := Kp.mk i2
      have hl := Kp.mk hlt
      clear ic hv hdr
      rw [List.length_append] at hn1
      simp only [List.drop_zero] at hn1 hd
      go_wp2_with fail
      go_loopw [3, 5] (fun s r wq => ∃ (i : Nat) (xs : List Int), i ≤ ys.length ∧ r = .int .i64 i ∧ wq.ownsRow (w.heap.size + 1) 2 1 s xs.length (xs.map (Value.int .i64)) ∧ Kp (xs ++ tysOf (inPl B i (ys.drop i) ++ blPl (B + 1) (blocks.drop (B + 1))) = A) ∧ xs.length + ((inPl B i (ys.drop i)).length + (blPl (B + 1) (blocks.drop (B + 1))).length) ≤ 2097152 ∧ wq.heap[w.heap.size]? = some F ∧ w.heap.size + 1 ≤ wq.heap.size ∧ Below w.heap.size w wq) (fun _ r _ => ys.length - (intOf r).toNat)
      case atStart => exact ⟨0, xs, Nat.zero_le _, rfl, hown, hd, hn1, hbx, hsz, hBl⟩
      case round =>
        clear hd hn1 hown hbx hBl c0 x4 hsz
        obtain ⟨i, xs, hi, rfl, hown, hd, hn1, hbx, hsz, hBl⟩ := hrel
        have x4 : wr.cell? ⟨w.heap.size, 4, none⟩ = some (.slice (some ⟨b, o, none⟩) blocks.length k2) := at_cells (hbx.trans (by rw [hF.out])) rfl
        have c0 := C0.out _ hBl
        by_cases hlt2 : i < ys.length
        · obtain rfl := i2.out (by omega)
          have c1 := ic'.out _ hBl i hlt2
          have hdr := inPl_drop B i ys hlt2
          rw [hdr, List.cons_append] at hd
          rw [hdr, List.length_cons] at hn1
          obtain ⟨t, ht⟩ : ∃ t, (ys[i]).ty = t := ⟨_, rfl⟩
          rw [ht] at c1 hd
          clear hdr ht
          by_cases ht0 : t = 0
          · subst ht0
            rw [show tysOf ((B, i, (0 : Int)) :: (inPl B (i + 1) (ys.drop (i + 1)) ++ blPl (B + 1) (blocks.drop (B + 1)))) = tysOf (inPl B (i + 1) (ys.drop (i + 1)) ++ blPl (B + 1) (blocks.drop (B + 1))) by simp [tysOf]] at hd
            go_wp2_with fail
            exact ⟨⟨i + 1, xs, by omega, by go_num, hown, hd, by omega, hbx, hsz, hBl⟩, by simp [intOf]; omega⟩
          · have tb : (t != 0) = true := bne_iff_ne.2 ht0
            have hd2 : Kp ((xs ++ [t]) ++ tysOf (inPl B (i + 1) (ys.drop (i + 1)) ++ blPl (B + 1) (blocks.drop (B + 1))) = A) := ⟨by
              rw [← hd.out]
              simp [tysOf, ht0]⟩
            replace hn1 := Kp.mk hn1
            have hx1 : xs.length ≤ 2097152 := by have := hn1.out; omega
            clear hd
            go_wp2_with (at_builtin; refine wpList_append_vals _ rfl _ _ 66 rfl (w.heap.size + 1) 2 i0 (.int .i64 0) 1 8 Tryz.underlying66 hi0 hz0 hz1 hz2 rfl (by decide) _ _ _ rfl (hown.alloc _) (some ⟨wr.heap.size, 0, none⟩) wr.heap.size 0 1 1 [.int .i64 t] rfl (fun _ => rfl) rfl (one_new wr _ _) one_cell (by unfold maxLen; omega) (by omega) (by simp; omega) ?_; intro v2 w2 hown2 hgrow2)
            have hB2 := own_bel (hBl.alloc hBl.size _) (Joins_le (hown.alloc _)) hgrow2 (by simp; omega)
            have hbx2 : w2.heap[w.heap.size]? = some F := by
              rw [hgrow2.block w.heap.size (by simp; omega) (fun e => by have := (hown.lt _ e.symm).1; omega), (MapKept.heap_alloc _ _).2 _ (by omega)]
              exact hbx
            have hsz2 : w.heap.size + 1 ≤ w2.heap.size := by have := hgrow2.size; simp at this; omega
            have hown3 : w2.ownsRow (w.heap.size + 1) 2 1 v2 (xs ++ [t]).length ((xs ++ [t]).map (Value.int .i64)) := by simpa using hown2
            clear hown hown2 hgrow2 hBl hbx
            go_wp2_with fail
            exact ⟨⟨i + 1, xs ++ [t], by omega, by go_num, hown3, hd2, by have := hn1.out; simp; omega, hbx2, hsz2, hB2⟩, by simp [intOf]; omega⟩
        · rw [inPl_end B i ys (by omega), List.nil_append] at hd
          rw [inPl_end B i ys (by omega)] at hn1
          go_wp2_with fail
          exact ⟨⟨B + 1, xs, by omega, by go_num, hown, hd, by simp at hn1; omega, hbx, hsz, hBl⟩, by simp [intOf]; omega⟩
    · rw [blPl_end B blocks (by omega)] at hd
      have e : xs = A := by rw [← hd.out]; simp [tysOf]
      replace e := Kp.mk e
      replace hown := Kp.mk hown
      go_wp2_with fail
      go_ret
      exact ⟨_, rfl, ⟨by rw [← e.out]; exact Joins_le hown.out⟩, hBl⟩
end
end Go.Proofs.YtbnkbbcncloedaaGreatDoor
