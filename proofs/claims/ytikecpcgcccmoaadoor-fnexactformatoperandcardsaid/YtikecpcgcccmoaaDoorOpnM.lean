/- A module that is handed in, opened: its data with its bounds, and where it lies. -/
import Derived.Test.YtikecpcgcccmoaaDoorOpn
import Derived.Test.YtikecpcgcccmoaaDoorBnd
namespace Go.Proofs.YtikecpcgcccmoaaDoor
open Go.ChangeShapes Go.WideShapes Go.ChangeAt Go.RowKit
set_option linter.unusedVariables false
set_option linter.unusedSimpArgs false
theorem wf_i64 {z : Int} (h : (Lit.int .i64 z).wf = true) : I64 z := by
  obtain ⟨a, b⟩ := bounds_i64 h
  exact ⟨a, b⟩
theorem list_of2 {α : Type} (n : Nat) (R : Nat → α → Prop) (B : α → Prop) (h : ∀ i, i < n → ∃ y, R i y ∧ B y) : ∃ ys : List α, ys.length = n ∧ (∀ i (hi : i < ys.length), R i ys[i]) ∧ ∀ y ∈ ys, B y := by
  obtain ⟨ys, h1, h2⟩ := list_of n (fun i y => R i y ∧ B y) h
  refine ⟨ys, h1, fun i hi => (h2 i hi).1, fun y hy => ?_⟩
  obtain ⟨i, hi, rfl⟩ := List.getElem_of_mem hy
  exact (h2 i hi).2
section
variable {H : Type} {enc : TypeId × Value → H} {w : World} {spare : Nat → Bool} {held : Bool}
theorem opn_intsB {t e : TypeId} {k : IntKind} {fuel : Nat} {v : Value} {x : DataW H × List MemPlace} (ht : Tryd.prog.underlying t = some (.slice e)) (he : Tryd.prog.underlying e = some (.int k)) (hc : Tryd.prog.cellsOf e = 1) (hb : decide (0 < Tryd.prog.bytesOf e) = true)
    (h : DataW.trod enc Tryd.prog w 0 spare held fuel t [v] = some x) (hw : ∀ n ∈ x.1.weights Tryd.prog t, n ≤ reachBytes) : ∃ xs, Ints 0 k w v xs ∧ ∀ z ∈ xs, (Lit.int k z).wf = true := by
  obtain ⟨b, o, len, s, hel⟩ := opn_slice ht hc (by decide) hb h hw
  obtain ⟨zs, e, hz, hzb⟩ := list_of2 len (fun i (z : Int) => At w b (o + i) (.int k z)) (fun z => (Lit.int k z).wf = true) (fun i hi => by
    obtain ⟨cs, y, n, c1, c2, c3, -⟩ := hel i hi
    obtain ⟨z, rfl, -, hwf⟩ := DataW.trod_int he c3
    exact ⟨z, by simpa using c2 0 (by simp), hwf⟩)
  subst e
  exact ⟨zs, ⟨b, o, s, Nat.zero_le _, hz⟩, hzb⟩
theorem one_intB {e : TypeId} {k : IntKind} {n : Nat} {v : Value} {y : DataW H × List MemPlace} (he : Tryd.prog.underlying e = some (.int k)) (h : DataW.trod enc Tryd.prog w 0 spare held n e [v] = some y) : ∃ a, v = .int k a ∧ (Lit.int k a).wf = true := by
  obtain ⟨a, h1, -, h3⟩ := DataW.trod_int he h
  exact ⟨a, by simpa using h1, h3⟩
theorem opn_opsB {fuel : Nat} {v : Value} {x : DataW H × List MemPlace} (h : DataW.trod enc Tryd.prog w 0 spare held fuel 111 [v] = some x) (hw : ∀ n ∈ x.1.weights Tryd.prog 111, n ≤ reachBytes) : ∃ xs, Ops 0 w v xs ∧ ∀ q ∈ xs, OpB q := by
  obtain ⟨b, o, len, s, hel⟩ := opn_slice Tryd.underlying111 (size := 4) (by kernel_rfl) (by decide) (by kernel_rfl) h hw
  obtain ⟨zs, e, hz, hzb⟩ := list_of2 len (fun i (d : OpD) => OpAt w b (o + i * 4) d) OpB (fun i hi => by
    obtain ⟨cs, y, n, c1, c2, c3, -⟩ := hel i hi
    match cs, c1 with
    | [v0, v1, v2, v3], _ =>
      obtain ⟨ys, m, rfl, -, -, hl, hd⟩ := DataW.trod_struct Tryd.underlying28 c3
      match ys, hl with
      | [y0, y1, y2, y3], _ =>
        obtain ⟨a0, rfl, z0⟩ := one_intB Tryd.underlying2 (by simpa [show Tryd.prog.cellsOf 2 = 1 by kernel_rfl] using hd 0 _ rfl)
        obtain ⟨a1, rfl, z1⟩ := one_intB Tryd.underlying2 (by simpa [show Tryd.prog.cellsOf 2 = 1 by kernel_rfl] using hd 1 _ rfl)
        obtain ⟨a2, rfl, z2⟩ := one_intB Tryd.underlying2 (by simpa [show Tryd.prog.cellsOf 2 = 1 by kernel_rfl] using hd 2 _ rfl)
        obtain ⟨a3, rfl, z3⟩ := one_intB Tryd.underlying26 (by simpa [show Tryd.prog.cellsOf 26 = 1 by kernel_rfl] using hd 3 _ rfl)
        exact ⟨⟨a0, a1, a2, a3⟩, ⟨c2 0 (by simp), c2 1 (by simp), c2 2 (by simp), c2 3 (by simp)⟩, ⟨(wf_i64 z2).a, (wf_i64 z2).b, (bounds_u64 z3).1, (bounds_u64 z3).2⟩⟩)
  subst e
  exact ⟨zs, ⟨b, o, s, Nat.zero_le _, hz⟩, hzb⟩
theorem opn_insB {fuel : Nat} {v : Value} {x : DataW H × List MemPlace} (h : DataW.trod enc Tryd.prog w 0 spare held fuel 84 [v] = some x) (hw : ∀ n ∈ x.1.weights Tryd.prog 84, n ≤ reachBytes) : ∃ xs, Ins 0 w v xs ∧ ∀ x ∈ xs, InB x := by
  obtain ⟨b, o, len, s, hel⟩ := opn_slice Tryd.underlying84 (size := 9) (by kernel_rfl) (by decide) (by kernel_rfl) h hw
  obtain ⟨zs, e, hz, hzb⟩ := list_of2 len (fun i (d : InD) => ∃ va vb vw, InAt 0 w b (o + i * 9) d va vb vw) InB (fun i hi => by
    obtain ⟨cs, y, n, c1, c2, c3, c4⟩ := hel i hi
    match cs, c1 with
    | [v0, v1, v2, v3, v4, v5, v6, v7, v8], _ =>
      obtain ⟨ys, m, rfl, hx, -, hl, hd⟩ := DataW.trod_struct Tryd.underlying114 c3
      match ys, hl with
      | [y0, y1, y2, y3, y4, y5, y6, y7, y8], _ =>
        simp only [hx, DataW.weights, Tryd.underlying114, DataW.weightsEach, List.map_cons, List.map_nil, List.mem_append] at c4
        obtain ⟨a0, rfl, z0⟩ := one_intB Tryd.underlying2 (by simpa [show Tryd.prog.cellsOf 2 = 1 by kernel_rfl] using hd 0 _ rfl)
        obtain ⟨a1, rfl, z1⟩ := one_intB Tryd.underlying2 (by simpa [show Tryd.prog.cellsOf 2 = 1 by kernel_rfl] using hd 1 _ rfl)
        obtain ⟨a2, rfl, z2⟩ := one_intB Tryd.underlying2 (by simpa [show Tryd.prog.cellsOf 2 = 1 by kernel_rfl] using hd 2 _ rfl)
        obtain ⟨a3, rfl, z3⟩ := one_intB Tryd.underlying2 (by simpa [show Tryd.prog.cellsOf 2 = 1 by kernel_rfl] using hd 3 _ rfl)
        obtain ⟨a4, rfl, z4⟩ := one_intB Tryd.underlying2 (by simpa [show Tryd.prog.cellsOf 2 = 1 by kernel_rfl] using hd 4 _ rfl)
        obtain ⟨a5, rfl, z5⟩ := one_intB Tryd.underlying2 (by simpa [show Tryd.prog.cellsOf 2 = 1 by kernel_rfl] using hd 5 _ rfl)
        obtain ⟨xa, ha, ya⟩ := opn_opsB (by simpa [show Tryd.prog.cellsOf 111 = 1 by kernel_rfl] using hd 6 _ rfl) (fun n hn => c4 n (by simp [hn]))
        obtain ⟨xb, hb, yb⟩ := opn_intsB Tryd.underlying55 Tryd.underlying2 (by kernel_rfl) (by kernel_rfl) (by simpa [show Tryd.prog.cellsOf 55 = 1 by kernel_rfl] using hd 7 _ rfl) (fun n hn => c4 n (by simp [hn]))
        obtain ⟨xc, hc, yc⟩ := opn_intsB Tryd.underlying112 Tryd.underlying26 (by kernel_rfl) (by kernel_rfl) (by simpa [show Tryd.prog.cellsOf 112 = 1 by kernel_rfl] using hd 8 _ rfl) (fun n hn => c4 n (by simp [hn]))
        exact ⟨⟨a0, a1, a2, a3, a4, a5, xa, xb, xc⟩, ⟨v6, v7, v8, c2 0 (by simp), c2 1 (by simp), c2 2 (by simp), c2 3 (by simp), c2 4 (by simp), c2 5 (by simp), c2 6 (by simp), c2 7 (by simp), c2 8 (by simp), ⟨ha, hb, hc⟩⟩, ⟨wf_i64 z2, wf_i64 z5, ya, fun z hz => wf_i64 (yb z hz), fun z hz => bounds_u64 (yc z hz)⟩⟩)
  subst e
  exact ⟨zs, ⟨b, o, s, Nat.zero_le _, hz⟩, hzb⟩
theorem opn_blsB {fuel : Nat} {v : Value} {x : DataW H × List MemPlace} (h : DataW.trod enc Tryd.prog w 0 spare held fuel 56 [v] = some x) (hw : ∀ n ∈ x.1.weights Tryd.prog 56, n ≤ reachBytes) : ∃ xs, Bls 0 w v xs ∧ ∀ ys ∈ xs, ∀ x ∈ ys, InB x := by
  obtain ⟨b, o, len, s, hel⟩ := opn_slice Tryd.underlying56 (size := 1) (by kernel_rfl) (by decide) (by kernel_rfl) h hw
  obtain ⟨zs, e, hz, hzb⟩ := list_of2 len (fun i (xs : List InD) => ∃ vi, At w b (o + i) vi ∧ Ins 0 w vi xs) (fun xs => ∀ x ∈ xs, InB x) (fun i hi => by
    obtain ⟨cs, y, n, c1, c2, c3, c4⟩ := hel i hi
    match cs, c1 with
    | [v0], _ =>
      obtain ⟨ys, m, rfl, hx, -, hl, hd⟩ := DataW.trod_struct Tryd.underlying86 c3
      match ys, hl with
      | [y0], _ =>
        simp only [hx, DataW.weights, Tryd.underlying86, DataW.weightsEach, List.map_cons, List.map_nil, List.mem_append] at c4
        obtain ⟨xs, hx, hxb⟩ := opn_insB (by simpa [show Tryd.prog.cellsOf 84 = 1 by kernel_rfl] using hd 0 _ rfl) (fun n hn => c4 n (by simp [hn]))
        exact ⟨xs, ⟨v0, by simpa using c2 0 (by simp), hx⟩, hxb⟩)
  subst e
  exact ⟨zs, ⟨b, o, s, Nat.zero_le _, hz⟩, hzb⟩
set_option maxRecDepth 100000 in
theorem opn_fnB {fuel : Nat} {cs : List Value} {x : DataW H × List MemPlace} (h : DataW.trod enc Tryd.prog w 0 spare held fuel 58 cs = some x) (hw : ∀ n ∈ x.1.weights Tryd.prog 58, n ≤ reachBytes) : ∃ d vp vb, cs = [.string d.name, .int .i64 d.link, vp, .int .i64 d.res, vb] ∧ FnAt 0 w d vp vb ∧ FnB d := by
  obtain ⟨ys, m, rfl, hx, hcl, hl, hd⟩ := DataW.trod_struct Tryd.underlying58 h
  rw [show Tryd.prog.cellsOf 58 = 5 by kernel_rfl] at hcl
  match cs, hcl with
  | [v0, v1, v2, v3, v4], _ =>
    match ys, hl with
    | [y0, y1, y2, y3, y4], _ =>
      simp only [hx, DataW.weights, Tryd.underlying58, DataW.weightsEach, List.map_cons, List.map_nil, List.mem_append] at hw
      obtain ⟨s, e0, e00, -⟩ := DataW.trod_string Tryd.underlying9 (by simpa [show Tryd.prog.cellsOf 9 = 1 by kernel_rfl] using hd 0 _ rfl)
      obtain rfl : v0 = .string s := by simpa using e0
      obtain ⟨a1, rfl, -⟩ := one_intB Tryd.underlying2 (by simpa [show Tryd.prog.cellsOf 2 = 1 by kernel_rfl] using hd 1 _ rfl)
      obtain ⟨a3, rfl, -⟩ := one_intB Tryd.underlying2 (by simpa [show Tryd.prog.cellsOf 2 = 1 by kernel_rfl] using hd 3 _ rfl)
      obtain ⟨xp, hp, -⟩ := opn_intsB Tryd.underlying55 Tryd.underlying2 (by kernel_rfl) (by kernel_rfl) (by simpa [show Tryd.prog.cellsOf 55 = 1 by kernel_rfl] using hd 2 _ rfl) (fun n hn => hw n (by simp [hn]))
      obtain ⟨xb, hb, yb⟩ := opn_blsB (by simpa [show Tryd.prog.cellsOf 56 = 1 by kernel_rfl] using hd 4 _ rfl) (fun n hn => hw n (by simp [hn]))
      have hn : s.size ≤ 140737488355328 := by
        have := hw s.data.toList.length (.inl (by rw [e00]; simp [DataW.weights]))
        have h2 := reachBytes_lt
        simp at this
        have e : s.data.size = s.size := rfl
        omega
      exact ⟨⟨s, a1, xp, a3, xb⟩, v2, v4, rfl, ⟨hn, hp, hb⟩, ⟨yb⟩⟩
set_option maxRecDepth 100000 in
theorem opn_fns {fuel : Nat} {v : Value} {x : DataW H × List MemPlace} (h : DataW.trod enc Tryd.prog w 0 spare held fuel 23 [v] = some x) (hw : ∀ n ∈ x.1.weights Tryd.prog 23, n ≤ reachBytes) : ∃ xs, Fns 0 w v xs ∧ ∀ f ∈ xs, FnB f := by
  obtain ⟨b, o, len, s, hel⟩ := opn_slice Tryd.underlying23 (size := 5) (by kernel_rfl) (by decide) (by kernel_rfl) h hw
  obtain ⟨zs, e, hz, hzb⟩ := list_of2 len (fun i (d : FnD) => ∃ vp vb, FcAt 0 w b (o + i * 5) d vp vb) FnB (fun i hi => by
    obtain ⟨cs, y, n, c1, c2, c3, c4⟩ := hel i hi
    obtain ⟨d, vp, vb, rfl, hd, hb⟩ := opn_fnB c3 c4
    exact ⟨d, ⟨vp, vb, c2 0 (by simp), c2 1 (by simp), c2 2 (by simp), c2 3 (by simp), c2 4 (by simp), hd⟩, hb⟩)
  subst e
  exact ⟨zs, ⟨b, o, s, Nat.zero_le _, hz⟩, hzb⟩
set_option maxRecDepth 100000 in
theorem opn_gls {fuel : Nat} {v : Value} {x : DataW H × List MemPlace} (h : DataW.trod enc Tryd.prog w 0 spare held fuel 22 [v] = some x) (hw : ∀ n ∈ x.1.weights Tryd.prog 22, n ≤ reachBytes) : ∃ xs, Gls 0 w v xs ∧ ∀ g ∈ xs, GlB g := by
  obtain ⟨b, o, len, s, hel⟩ := opn_slice Tryd.underlying22 (size := 5) (by kernel_rfl) (by decide) (by kernel_rfl) h hw
  obtain ⟨zs, e, hz, hzb⟩ := list_of2 len (fun i (d : GlD) => ∃ vb, GlAt 0 w b (o + i * 5) d vb) GlB (fun i hi => by
    obtain ⟨cs, y, n, c1, c2, c3, c4⟩ := hel i hi
    obtain ⟨ys, m, rfl, hx, hcl, hl, hd⟩ := DataW.trod_struct Tryd.underlying53 c3
    match cs, c1 with
    | [v0, v1, v2, v3, v4], _ =>
      match ys, hl with
      | [y0, y1, y2, y3, y4], _ =>
        simp only [hx, DataW.weights, Tryd.underlying53, DataW.weightsEach, List.map_cons, List.map_nil, List.mem_append] at c4
        obtain ⟨s', e0, e00, -⟩ := DataW.trod_string Tryd.underlying9 (by simpa [show Tryd.prog.cellsOf 9 = 1 by kernel_rfl] using hd 0 _ rfl)
        obtain rfl : v0 = .string s' := by simpa using e0
        obtain ⟨a1, rfl, -⟩ := one_intB Tryd.underlying2 (by simpa [show Tryd.prog.cellsOf 2 = 1 by kernel_rfl] using hd 1 _ rfl)
        obtain ⟨a2, e2, -⟩ := DataW.trod_bool Tryd.underlying4 (by simpa [show Tryd.prog.cellsOf 4 = 1 by kernel_rfl] using hd 2 _ rfl)
        obtain rfl : v2 = .bool a2 := by simpa using e2
        obtain ⟨a3, rfl, z3⟩ := one_intB Tryd.underlying2 (by simpa [show Tryd.prog.cellsOf 2 = 1 by kernel_rfl] using hd 3 _ rfl)
        obtain ⟨xp, hp, yp⟩ := opn_intsB Tryd.underlying44 Tryd.underlying5 (by kernel_rfl) (by kernel_rfl) (by simpa [show Tryd.prog.cellsOf 44 = 1 by kernel_rfl] using hd 4 _ rfl) (fun n hn => c4 n (by simp [hn]))
        have hn : s'.size ≤ 140737488355328 := by
          have := c4 s'.data.toList.length (.inl (by rw [e00]; simp [DataW.weights]))
          have h2 := reachBytes_lt
          simp at this
          have e : s'.data.size = s'.size := rfl
          omega
        exact ⟨⟨s', a1, a2, a3, xp⟩, ⟨v4, hn, c2 0 (by simp), c2 1 (by simp), c2 2 (by simp), c2 3 (by simp), c2 4 (by simp), hp⟩, ⟨wf_i64 z3, fun z hz => bounds_u8 (yp z hz)⟩⟩)
  subst e
  exact ⟨zs, ⟨b, o, s, Nat.zero_le _, hz⟩, hzb⟩
set_option maxRecDepth 100000 in
theorem opn_mo {fuel : Nat} {cs : List Value} {x : DataW H × List MemPlace} (h : DataW.trod enc Tryd.prog w 0 spare held fuel 25 cs = some x) (hw : ∀ n ∈ x.1.weights Tryd.prog 25, n ≤ reachBytes) : ∃ gs fs vg vf, cs = [vg, vf] ∧ MoAt 0 w gs fs vg vf ∧ MoB gs fs := by
  obtain ⟨ys, m, rfl, hx, hcl, hl, hd⟩ := DataW.trod_struct Tryd.underlying25 h
  rw [show Tryd.prog.cellsOf 25 = 2 by kernel_rfl] at hcl
  match cs, hcl with
  | [v0, v1], _ =>
    match ys, hl with
    | [y0, y1], _ =>
      simp only [hx, DataW.weights, Tryd.underlying25, DataW.weightsEach, List.map_cons, List.map_nil, List.mem_append] at hw
      obtain ⟨xg, hg, yg⟩ := opn_gls (by simpa [show Tryd.prog.cellsOf 22 = 1 by kernel_rfl] using hd 0 _ rfl) (fun n hn => hw n (by simp [hn]))
      obtain ⟨xf, hf, yf⟩ := opn_fns (by simpa [show Tryd.prog.cellsOf 23 = 1 by kernel_rfl] using hd 1 _ rfl) (fun n hn => hw n (by simp [hn]))
      exact ⟨xg, xf, v0, v1, rfl, ⟨hg, hf⟩, ⟨yg, yf⟩⟩
set_option maxRecDepth 100000 in
theorem opn_op {fuel : Nat} {cs : List Value} {x : DataW H × List MemPlace} (h : DataW.trod enc Tryd.prog w 0 spare held fuel 28 cs = some x) : ∃ q : OpD, cs = [.int .i64 q.k, .int .i64 q.t, .int .i64 q.i, .int .u64 q.w] ∧ OpB q := by
  obtain ⟨ys, m, rfl, hx, hcl, hl, hd⟩ := DataW.trod_struct Tryd.underlying28 h
  rw [show Tryd.prog.cellsOf 28 = 4 by kernel_rfl] at hcl
  match cs, hcl with
  | [v0, v1, v2, v3], _ =>
    match ys, hl with
    | [y0, y1, y2, y3], _ =>
      obtain ⟨a0, rfl, z0⟩ := one_intB Tryd.underlying2 (by simpa [show Tryd.prog.cellsOf 2 = 1 by kernel_rfl] using hd 0 _ rfl)
      obtain ⟨a1, rfl, z1⟩ := one_intB Tryd.underlying2 (by simpa [show Tryd.prog.cellsOf 2 = 1 by kernel_rfl] using hd 1 _ rfl)
      obtain ⟨a2, rfl, z2⟩ := one_intB Tryd.underlying2 (by simpa [show Tryd.prog.cellsOf 2 = 1 by kernel_rfl] using hd 2 _ rfl)
      obtain ⟨a3, rfl, z3⟩ := one_intB Tryd.underlying26 (by simpa [show Tryd.prog.cellsOf 26 = 1 by kernel_rfl] using hd 3 _ rfl)
      exact ⟨⟨a0, a1, a2, a3⟩, rfl, ⟨(wf_i64 z2).a, (wf_i64 z2).b, (bounds_u64 z3).1, (bounds_u64 z3).2⟩⟩
end
end Go.Proofs.YtikecpcgcccmoaaDoor
