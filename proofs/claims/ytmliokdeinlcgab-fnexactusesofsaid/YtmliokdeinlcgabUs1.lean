/- Where a value is used: the data, and whether an instruction names a value. -/
import Derived.Test.YtmliokdeinlcgabVt2
import Derived.Test.YtmliokdeinlcgabIts
import Derived.Test.YtmliokdeinlcgabIt7
namespace Go.Proofs.Ytmliokdeinlcgab
open Go.ChangeShapes Go.WideShapes Go.ChangeAt Go.RowKit
set_option linter.unusedVariables false
set_option linter.unusedSimpArgs false
/-- Is it an operand that names the value? -/
def opV (v : Int) (o : OpD) : Bool := (o.k == 4) && (o.i == v)
/-- Does the instruction name the value? -/
def hasV (v : Int) (d : InD) : Bool := d.args.any (opV v)
def inQ (b i : Nat) : List InD → List (Nat × Nat × InD)
  | [] => []
  | d :: r => (b, i, d) :: inQ b (i + 1) r
def blQ (b : Nat) : List (List InD) → List (Nat × Nat × InD)
  | [] => []
  | x :: r => inQ b 0 x ++ blQ (b + 1) r
theorem inQ_drop (b i : Nat) (xs : List InD) (h : i < xs.length) : inQ b i (xs.drop i) = (b, i, xs[i]) :: inQ b (i + 1) (xs.drop (i + 1)) := by
  rw [List.drop_eq_getElem_cons h]; rfl
theorem inQ_end (b i : Nat) (xs : List InD) (h : xs.length ≤ i) : inQ b i (xs.drop i) = [] := by
  rw [List.drop_eq_nil_of_le h]; rfl
theorem blQ_drop (b : Nat) (xs : List (List InD)) (h : b < xs.length) : blQ b (xs.drop b) = inQ b 0 ((xs[b]).drop 0) ++ blQ (b + 1) (xs.drop (b + 1)) := by
  rw [List.drop_eq_getElem_cons h]; rfl
theorem blQ_end (b : Nat) (xs : List (List InD)) (h : xs.length ≤ b) : blQ b (xs.drop b) = [] := by
  rw [List.drop_eq_nil_of_le h]; rfl
theorem inQ_len (b i : Nat) (xs : List InD) : (inQ b i xs).length = xs.length := by
  induction xs generalizing i with
  | nil => rfl
  | cons d r ih => simp only [inQ, List.length_cons, ih]
theorem blQ_len (b : Nat) (xs : List (List InD)) : ((blQ b xs).length : Int) ≤ blsN xs := by
  induction xs generalizing b with
  | nil => exact Int.le_refl _
  | cons d r ih =>
    have := ih (b + 1)
    have e : blsN (d :: r) = blN d + blsN r := by simp [blsN]
    have n0 := insN_nn d
    unfold blN at e
    simp only [blQ, List.length_append, inQ_len]
    omega
/-- The places of those that name the value. -/
def useL (v : Int) : List (Nat × Nat × InD) → List (Nat × Nat)
  | [] => []
  | (b, i, d) :: r => if hasV v d then (b, i) :: useL v r else useL v r
theorem useL_app (v : Int) (a b : List (Nat × Nat × InD)) : useL v (a ++ b) = useL v a ++ useL v b := by
  induction a with
  | nil => rfl
  | cons x r ih =>
    obtain ⟨p, q, t⟩ := x
    simp only [List.cons_append, useL, ih]
    split <;> rfl
theorem useL_len (v : Int) (a : List (Nat × Nat × InD)) : (useL v a).length ≤ a.length := by
  induction a with
  | nil => exact Nat.le_refl _
  | cons x r ih =>
    obtain ⟨p, q, t⟩ := x
    simp only [useL]
    split <;> simp only [List.length_cons] <;> omega
abbrev quad (y : ItD) : Nat × Nat × InD := (y.b, y.i, y.d)
theorem inQ_quad (b : Nat) : ∀ (ys : List ItD) (i0 : Nat), (∀ j (h : j < ys.length), ys[j].b = b ∧ ys[j].i = i0 + j) → inQ b i0 (ys.map (·.d)) = ys.map quad
  | [], _, _ => rfl
  | y :: r, i0, h => by
    have h0 := h 0 (by simp)
    simp only [List.getElem_cons_zero, Nat.add_zero] at h0
    have := inQ_quad b r (i0 + 1) (fun j hj => by
      have := h (j + 1) (by simpa using hj)
      simp only [List.getElem_cons_succ] at this
      exact ⟨this.1, by omega⟩)
    simp only [List.map_cons, inQ, this, quad, h0.1, h0.2]
theorem blQ_quad : ∀ (Y : List (List ItD)) (b0 : Nat), (∀ k (h : k < Y.length) j (hj : j < Y[k].length), Y[k][j].b = b0 + k ∧ Y[k][j].i = j) → blQ b0 (Y.map (·.map (·.d))) = Y.flatten.map quad
  | [], _, _ => rfl
  | ys :: R, b0, h => by
    have h0 := inQ_quad b0 ys 0 (fun j hj => by
      have := h 0 (by simp) j (by simpa using hj)
      simpa using this)
    have := blQ_quad R (b0 + 1) (fun k hk j hj => by
      have := h (k + 1) (by simpa using hk) j (by simpa using hj)
      simp only [List.getElem_cons_succ] at this
      exact ⟨by omega, this.2⟩)
    simp only [List.map_cons, blQ, List.flatten_cons, List.map_append, h0, this]
/-- The cells of places. -/
def plV : List (Nat × Nat) → List Value
  | [] => []
  | (b, i) :: r => .int .i64 b :: .int .i64 i :: plV r
theorem plV_app (a b : List (Nat × Nat)) : plV (a ++ b) = plV a ++ plV b := by
  induction a with
  | nil => rfl
  | cons x r ih => simp only [List.cons_append, plV, ih]
theorem plV_len (a : List (Nat × Nat)) : (plV a).length = a.length * 2 := by
  induction a with
  | nil => rfl
  | cons x r ih => simp only [plV, List.length_cons, ih]; omega
theorem plV_at (a : List (Nat × Nat)) (i : Nat) (h : i < a.length) : (plV a)[i * 2]? = some (.int .i64 a[i].1) ∧ (plV a)[i * 2 + 1]? = some (.int .i64 a[i].2) := by
  induction a generalizing i with
  | nil => simp at h
  | cons x r ih =>
    cases i with
    | zero => exact ⟨rfl, rfl⟩
    | succ i =>
      have := ih i (by simpa using h)
      rw [show (i + 1) * 2 = i * 2 + 1 + 1 by omega]
      exact this
theorem infoPl : (Try.prog.info? 49).map (fun i => (i.zero, i.size, i.bytes)) = some (some (.agg #[.int .i64 0, .int .i64 0]), 2, 16) := by kernel_rfl
/-- A row of places that a call owns. -/
structure OwnP (w : World) (base : Nat) (v : Value) (ps : List (Nat × Nat)) : Prop where
  r : w.ownsRow base 49 2 v ps.length (plV ps)
/-- A row of places. -/
structure Pls (w : World) (v : Value) (ps : List (Nat × Nat)) : Prop where
  ex : ∃ b o, Sl v ps.length b o ∧ ∀ i (h : i < ps.length), At w b (o + i * 2) (.int .i64 ps[i].1) ∧ At w b (o + i * 2 + 1) (.int .i64 ps[i].2)
theorem OwnP.pls {w : World} {base : Nat} {v : Value} {ps : List (Nat × Nat)} (h : OwnP w base v ps) (hn : ps.length ≤ 1048576) : Pls w v ps := by
  obtain ⟨hl, h0 | ⟨g, cap, cur, rfl, hb, hg, h1, h2, h3, h4⟩⟩ := h.r
  · obtain ⟨rfl, h0⟩ := h0
    obtain rfl : ps = [] := List.length_eq_zero_iff.1 h0
    exact ⟨base, 0, ⟨⟨none, 0, rfl, Nat.le_refl _, fun h => absurd h (by simp)⟩, by simp⟩, fun i hi => by simp at hi⟩
  · refine ⟨g, 0, ⟨⟨_, _, rfl, h1, fun _ => rfl⟩, by omega⟩, fun i hi => ?_⟩
    have hA := plV_at ps i hi
    rw [← h4] at hA
    constructor
    · refine at_cells hg ?_
      have := hA.1
      rw [List.getElem?_take] at this
      split at this
      · simpa using this
      · cases this
    · refine at_cells hg ?_
      have := hA.2
      rw [List.getElem?_take] at this
      split at this
      · simpa using this
      · cases this
theorem OwnP.keep {w w' : World} {base : Nat} {v : Value} {ps : List (Nat × Nat)} (h : OwnP w base v ps) (hb : Below w.heap.size w w') : OwnP w' base v ps := by
  refine ⟨h.r.1, ?_⟩
  rcases h.r.2 with h0 | ⟨g, cap, cur, rfl, hb1, hg, rest⟩
  · exact .inl h0
  · exact .inr ⟨g, cap, cur, rfl, hb1, keep_cells hg hb, rest⟩
theorem OwnP.mkd {w w' : World} {lo E base : Nat} {v : Value} {ps : List (Nat × Nat)} (h : OwnP w base v ps) (m : Mk lo E w w') (hb : E ≤ base) : OwnP w' base v ps := by
  refine ⟨h.r.1, ?_⟩
  rcases h.r.2 with h0 | ⟨g, cap, cur, rfl, hb1, hg, rest⟩
  · exact .inl h0
  · exact .inr ⟨g, cap, cur, rfl, hb1, (m.hi g (by omega)).trans hg, rest⟩
set_option maxRecDepth 100000 in
set_option maxHeartbeats 2000000 in
theorem namesS (d : InD) (va vb vw : Value) (v : Int) (w : World) {lo : Nat} (h : Ops lo w va d.args) (hs : Sh va vb vw) (hn : d.args.length ≤ 1048576) :
    Calls Try.prog 15 #[inV d va vb vw, .int .i64 v] w fun e w' => e = .returned (.bool (hasV v d)) ∧ Below w.heap.size w w' := by
  obtain ⟨b, o, ⟨⟨a, cap, rfl, h1, h2⟩, h3⟩, -, hc⟩ := h.ex
  obtain ⟨-, ⟨p2, m2, g2, rfl⟩, ⟨p3, m3, g3, rfl⟩⟩ := hs
  obtain ⟨op, ty, fl, pr, ca, sz, args, bl, ws⟩ := d
  unfold hasV
  dsimp only at *
  have g1 : (args.length : Int) ≤ 1048576 := by omega
  obtain ⟨R, hR⟩ : ∃ R, R = args.any (opV v) := ⟨_, rfl⟩
  rw [← hR]
  replace hR := Kp.mk hR
  replace h2 := Kp.mk h2
  replace hc := Kp.mk hc
  go_enter Try.func15, Try.ntmps15
  go_wp2_with fail
  obtain ⟨W0, hW⟩ : ∃ W0, W0 = w.alloc (Go.Obj.cells #[.int .i64 op, .int .i64 ty, .int .i64 fl, .int .i64 pr, .int .i64 ca, .int .i64 sz, .slice a args.length cap, .slice p2 m2 g2, .slice p3 m3 g3] 47) := ⟨_, rfl⟩
  rw [← hW]
  have hB0 : Below w.heap.size w W0 := by rw [hW]; exact bel_alloc _ _
  have hx : W0.heap[w.heap.size]? = some (Go.Obj.cells #[.int .i64 op, .int .i64 ty, .int .i64 fl, .int .i64 pr, .int .i64 ca, .int .i64 sz, .slice a args.length cap, .slice p2 m2 g2, .slice p3 m3 g3] 47 (0, 0)) := by rw [hW]; exact new_cells _ _
  have x6 : W0.cell? ⟨w.heap.size, 6, none⟩ = some (.slice a args.length cap) := at_cells hx rfl
  clear hW hx
  go_loopw [5] (fun s wr => ∃ i : Nat, i ≤ args.length ∧ s = .int .i64 i ∧ Kp ((args.drop i).any (opV v) = R) ∧ wr = W0) (fun s _ => args.length - (intOf s).toNat)
  case atStart => exact ⟨0, Nat.zero_le _, rfl, ⟨by rw [List.drop_zero]; exact hR.out.symm⟩, rfl⟩
  case round =>
    obtain ⟨i, hi, rfl, hd, rfl⟩ := hrel
    by_cases hlt : i < args.length
    · obtain rfl := h2.out (by omega)
      obtain ⟨c0, c1, c2, c3⟩ := (hc.out i hlt).keep hB0
      have hd2 : Kp ((opV v args[i] || (args.drop (i + 1)).any (opV v)) = R) := ⟨by rw [← hd.out, List.drop_eq_getElem_cons hlt, List.any_cons]⟩
      unfold opV at hd2
      generalize args[i] = q at *
      obtain ⟨q1, q2, q3, q4⟩ := q
      dsimp only at c0 c1 c2 c3 hd2
      clear c1 c3 hd
      by_cases e1 : q1 = 4
      · subst e1
        by_cases e2 : q3 = v
        · subst e2
          have e : R = true := by rw [← hd2.out]; simp
          subst e
          go_wp2_with fail
          go_ret
          exact ⟨rfl, hB0⟩
        · have b2 : (q3 == v) = false := beq_eq_false_iff_ne.2 e2
          rw [b2] at hd2
          have hd3 := hd2.out
          simp only [Bool.and_false, Bool.false_or] at hd3
          replace hd3 := Kp.mk hd3
          clear hd2
          go_wp2_with fail
          exact ⟨⟨i + 1, by omega, by go_num, hd3, trivial⟩, by simp [intOf]; omega⟩
      · have b1 : (q1 == 4) = false := beq_eq_false_iff_ne.2 e1
        rw [b1] at hd2
        have hd3 := hd2.out
        simp only [Bool.false_and, Bool.false_or] at hd3
        replace hd3 := Kp.mk hd3
        clear hd2
        go_wp2_with fail
        exact ⟨⟨i + 1, by omega, by go_num, hd3, trivial⟩, by simp [intOf]; omega⟩
    · have e : R = false := by rw [← hd.out, List.drop_eq_nil_of_le (by omega)]; rfl
      subst e
      go_wp2_with fail
      go_ret
      exact ⟨rfl, hB0⟩
end Go.Proofs.Ytmliokdeinlcgab
