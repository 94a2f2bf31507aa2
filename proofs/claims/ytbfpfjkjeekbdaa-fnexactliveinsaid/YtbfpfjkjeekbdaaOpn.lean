/- A function of a module that is handed in, opened: its data, and where it lies. -/
import Derived.Test.YtbfpfjkjeekbdaaDp1
import Derived.ProofKit
import Derived.Deep.Slices
import Derived.OpenShut
import Derived.SizedLaws
namespace Go.Proofs.Ytbfpfjkjeekbdaa
open Go.ChangeShapes Go.WideShapes Go.ChangeAt Go.RowKit
set_option linter.unusedVariables false
set_option linter.unusedSimpArgs false
theorem mem_weightsAll {H : Type} {P : Program} {e : TypeId} {ds : List (DataW H)} {d : DataW H} {n : Nat} (hd : d ∈ ds) (hn : n ∈ d.weights P e) : n ∈ DataW.weightsAll P e ds := by
  induction ds with
  | nil => simp at hd
  | cons y r ih =>
    simp only [DataW.weightsAll, List.mem_append]
    rcases List.mem_cons.1 hd with rfl | h
    · exact .inl hn
    · exact .inr (ih h)
theorem list_of {α : Type} (n : Nat) (R : Nat → α → Prop) (h : ∀ i, i < n → ∃ y, R i y) : ∃ ys : List α, ys.length = n ∧ ∀ i (hi : i < ys.length), R i ys[i] := by
  refine ⟨List.ofFn (fun i : Fin n => Classical.choose (h i i.2)), by simp, fun i hi => ?_⟩
  rw [List.getElem_ofFn]
  exact Classical.choose_spec (h i (by simpa using hi))
section
variable {H : Type} {enc : TypeId × Value → H} {w : World} {spare : Nat → Bool} {held : Bool}
/-- Cells in a row at an address: where it lies, each of them. -/
theorem cells_in {a : Addr} {m n : Nat} {cs : List Value} (h : w.cells? 0 (a.add m) n = some cs) (hn : 0 < n) : (m = 0 → a.spot = none) ∧ cs.length = n ∧ ∀ j (hj : j < cs.length), At w a.block (a.off + m + j) cs[j] := by
  have h2 := World.cells?_some h
  obtain ⟨-, hl, hc⟩ := h2
  refine ⟨fun hm => ?_, hl, fun j hj => ?_⟩
  · have := hc 0 hn
    rw [Deep.add_add, hm, List.getElem?_eq_getElem (by omega)] at this
    exact World.cell?_spot this
  · have := hc j (by omega)
    rw [Deep.add_add, List.getElem?_eq_getElem hj] at this
    obtain ⟨b, o, s⟩ := a
    show w.cell? ⟨b, o + m + j, none⟩ = _
    rw [Nat.add_assoc]
    by_cases q : m + j = 0
    · have hs : s = none := by
        rw [q] at this
        exact World.cell?_spot this
      subst hs
      rwa [Go.WideShapes.add_plain] at this
    · unfold Addr.add at this
      rwa [if_neg q] at this
/-- A slice opened: where its elements lie, each of them as it reads. -/
theorem opn_slice {t e : TypeId} {size fuel : Nat} {v : Value} {x : DataW H × List MemPlace} (ht : Try.prog.underlying t = some (.slice e)) (hc : Try.prog.cellsOf e = size) (hs : 0 < size) (hb : decide (0 < Try.prog.bytesOf e) = true)
    (h : DataW.trod enc Try.prog w 0 spare held fuel t [v] = some x) (hw : ∀ n ∈ x.1.weights Try.prog t, n ≤ reachBytes) :
    ∃ b o len, Sl v len b o ∧ ∀ i, i < len → ∃ cs y n, cs.length = size ∧ (∀ j (hj : j < cs.length), At w b (o + i * size + j) cs[j]) ∧ DataW.trod enc Try.prog w 0 spare held n e cs = some y ∧ ∀ n ∈ y.1.weights Try.prog e, n ≤ reachBytes := by
  rcases Deep.open_slice ht h with ⟨hcs, -⟩ | ⟨a, len, cap, m, n, D, Pl, hcs, -, hl, hm, hmm, hx, hel⟩
  · obtain rfl : v = .slice none 0 0 := by simpa using hcs
    exact ⟨0, 0, 0, ⟨⟨none, 0, rfl, Nat.le_refl _, fun h => absurd h (by simp)⟩, by simp⟩, fun i hi => absurd hi (by omega)⟩
  · obtain rfl : v = .slice (some a) len cap := by simpa using hcs
    have hlm : len ≤ m := by rw [hmm]; split <;> omega
    subst hx
    simp only [DataW.weights, ht, List.mem_cons, List.mem_append] at hw
    have hlen : len ≤ 140737488355328 := by
      have h1 := hw _ (.inl rfl)
      simp only [List.length_map, List.length_range] at h1
      have h2 := reachBytes_lt
      have h3 : len * 1 ≤ (len + (m - len)) * Try.prog.bytesOf e := Nat.mul_le_mul (by omega) (of_decide_eq_true hb)
      omega
    refine ⟨a.block, a.off, len, ⟨⟨some a, cap, rfl, hl, fun h0 => ?_⟩, hlen⟩, fun i hi => ?_⟩
    · obtain ⟨cs', h1, h2⟩ := hel 0 (by omega)
      rw [hc] at h1
      have q := (cells_in h1 hs).1 (by omega)
      obtain ⟨b, o, s⟩ := a
      simp only at q
      subst q
      rfl
    · obtain ⟨cs', h1, h2⟩ := hel i (by omega)
      rw [hc] at h1
      obtain ⟨-, q2, q3⟩ := cells_in h1 hs
      exact ⟨cs', _, n, q2, q3, h2, fun k hk => hw k (.inr (.inl (mem_weightsAll (List.mem_map.2 ⟨i, List.mem_range.2 hi, rfl⟩) hk)))⟩
theorem opn_ints {t e : TypeId} {k : IntKind} {fuel : Nat} {v : Value} {x : DataW H × List MemPlace} (ht : Try.prog.underlying t = some (.slice e)) (he : Try.prog.underlying e = some (.int k)) (hc : Try.prog.cellsOf e = 1) (hb : decide (0 < Try.prog.bytesOf e) = true)
    (h : DataW.trod enc Try.prog w 0 spare held fuel t [v] = some x) (hw : ∀ n ∈ x.1.weights Try.prog t, n ≤ reachBytes) : ∃ xs, Ints 0 k w v xs := by
  obtain ⟨b, o, len, s, hel⟩ := opn_slice ht hc (by decide) hb h hw
  obtain ⟨zs, e, hz⟩ := list_of len (fun i (z : Int) => At w b (o + i) (.int k z)) (fun i hi => by
    obtain ⟨cs, y, n, c1, c2, c3, -⟩ := hel i hi
    obtain ⟨z, rfl, -, -⟩ := DataW.trod_int he c3
    exact ⟨z, by simpa using c2 0 (by simp)⟩)
  subst e
  exact ⟨zs, ⟨b, o, s, Nat.zero_le _, hz⟩⟩
theorem one_int {e : TypeId} {k : IntKind} {n : Nat} {v : Value} {y : DataW H × List MemPlace} (he : Try.prog.underlying e = some (.int k)) (h : DataW.trod enc Try.prog w 0 spare held n e [v] = some y) : ∃ a, v = .int k a := by
  obtain ⟨a, h1, -, -⟩ := DataW.trod_int he h
  exact ⟨a, by simpa using h1⟩
theorem opn_ops {fuel : Nat} {v : Value} {x : DataW H × List MemPlace} (h : DataW.trod enc Try.prog w 0 spare held fuel 142 [v] = some x) (hw : ∀ n ∈ x.1.weights Try.prog 142, n ≤ reachBytes) : ∃ xs, Ops 0 w v xs := by
  obtain ⟨b, o, len, s, hel⟩ := opn_slice Try.underlying142 (size := 4) (by kernel_rfl) (by decide) (by kernel_rfl) h hw
  obtain ⟨zs, e, hz⟩ := list_of len (fun i (d : OpD) => OpAt w b (o + i * 4) d) (fun i hi => by
    obtain ⟨cs, y, n, c1, c2, c3, -⟩ := hel i hi
    match cs, c1 with
    | [v0, v1, v2, v3], _ =>
      obtain ⟨ys, m, rfl, -, -, hl, hd⟩ := DataW.trod_struct Try.underlying183 c3
      match ys, hl with
      | [y0, y1, y2, y3], _ =>
        obtain ⟨a0, rfl⟩ := one_int Try.underlying2 (by simpa [show Try.prog.cellsOf 2 = 1 by kernel_rfl] using hd 0 _ rfl)
        obtain ⟨a1, rfl⟩ := one_int Try.underlying2 (by simpa [show Try.prog.cellsOf 2 = 1 by kernel_rfl] using hd 1 _ rfl)
        obtain ⟨a2, rfl⟩ := one_int Try.underlying2 (by simpa [show Try.prog.cellsOf 2 = 1 by kernel_rfl] using hd 2 _ rfl)
        obtain ⟨a3, rfl⟩ := one_int Try.underlying113 (by simpa [show Try.prog.cellsOf 113 = 1 by kernel_rfl] using hd 3 _ rfl)
        exact ⟨⟨a0, a1, a2, a3⟩, c2 0 (by simp), c2 1 (by simp), c2 2 (by simp), c2 3 (by simp)⟩)
  subst e
  exact ⟨zs, ⟨b, o, s, Nat.zero_le _, hz⟩⟩
theorem opn_ins {fuel : Nat} {v : Value} {x : DataW H × List MemPlace} (h : DataW.trod enc Try.prog w 0 spare held fuel 85 [v] = some x) (hw : ∀ n ∈ x.1.weights Try.prog 85, n ≤ reachBytes) : ∃ xs, Ins 0 w v xs := by
  obtain ⟨b, o, len, s, hel⟩ := opn_slice Try.underlying85 (size := 9) (by kernel_rfl) (by decide) (by kernel_rfl) h hw
  obtain ⟨zs, e, hz⟩ := list_of len (fun i (d : InD) => ∃ va vb vw, InAt 0 w b (o + i * 9) d va vb vw) (fun i hi => by
    obtain ⟨cs, y, n, c1, c2, c3, c4⟩ := hel i hi
    match cs, c1 with
    | [v0, v1, v2, v3, v4, v5, v6, v7, v8], _ =>
      obtain ⟨ys, m, rfl, hx, -, hl, hd⟩ := DataW.trod_struct Try.underlying144 c3
      match ys, hl with
      | [y0, y1, y2, y3, y4, y5, y6, y7, y8], _ =>
        simp only [hx, DataW.weights, Try.underlying144, DataW.weightsEach, List.map_cons, List.map_nil, List.mem_append] at c4
        obtain ⟨a0, rfl⟩ := one_int Try.underlying2 (by simpa [show Try.prog.cellsOf 2 = 1 by kernel_rfl] using hd 0 _ rfl)
        obtain ⟨a1, rfl⟩ := one_int Try.underlying2 (by simpa [show Try.prog.cellsOf 2 = 1 by kernel_rfl] using hd 1 _ rfl)
        obtain ⟨a2, rfl⟩ := one_int Try.underlying2 (by simpa [show Try.prog.cellsOf 2 = 1 by kernel_rfl] using hd 2 _ rfl)
        obtain ⟨a3, rfl⟩ := one_int Try.underlying2 (by simpa [show Try.prog.cellsOf 2 = 1 by kernel_rfl] using hd 3 _ rfl)
        obtain ⟨a4, rfl⟩ := one_int Try.underlying2 (by simpa [show Try.prog.cellsOf 2 = 1 by kernel_rfl] using hd 4 _ rfl)
        obtain ⟨a5, rfl⟩ := one_int Try.underlying2 (by simpa [show Try.prog.cellsOf 2 = 1 by kernel_rfl] using hd 5 _ rfl)
        obtain ⟨xa, ha⟩ := opn_ops (by simpa [show Try.prog.cellsOf 142 = 1 by kernel_rfl] using hd 6 _ rfl) (fun n hn => c4 n (by simp [hn]))
        obtain ⟨xb, hb⟩ := opn_ints Try.underlying22 Try.underlying2 (by kernel_rfl) (by kernel_rfl) (by simpa [show Try.prog.cellsOf 22 = 1 by kernel_rfl] using hd 7 _ rfl) (fun n hn => c4 n (by simp [hn]))
        obtain ⟨xc, hc⟩ := opn_ints Try.underlying110 Try.underlying113 (by kernel_rfl) (by kernel_rfl) (by simpa [show Try.prog.cellsOf 110 = 1 by kernel_rfl] using hd 8 _ rfl) (fun n hn => c4 n (by simp [hn]))
        exact ⟨⟨a0, a1, a2, a3, a4, a5, xa, xb, xc⟩, v6, v7, v8, c2 0 (by simp), c2 1 (by simp), c2 2 (by simp), c2 3 (by simp), c2 4 (by simp), c2 5 (by simp), c2 6 (by simp), c2 7 (by simp), c2 8 (by simp), ⟨ha, hb, hc⟩⟩)
  subst e
  exact ⟨zs, ⟨b, o, s, Nat.zero_le _, hz⟩⟩
theorem opn_bls {fuel : Nat} {v : Value} {x : DataW H × List MemPlace} (h : DataW.trod enc Try.prog w 0 spare held fuel 23 [v] = some x) (hw : ∀ n ∈ x.1.weights Try.prog 23, n ≤ reachBytes) : ∃ xs, Bls 0 w v xs := by
  obtain ⟨b, o, len, s, hel⟩ := opn_slice Try.underlying23 (size := 1) (by kernel_rfl) (by decide) (by kernel_rfl) h hw
  obtain ⟨zs, e, hz⟩ := list_of len (fun i (xs : List InD) => ∃ vi, At w b (o + i) vi ∧ Ins 0 w vi xs) (fun i hi => by
    obtain ⟨cs, y, n, c1, c2, c3, c4⟩ := hel i hi
    match cs, c1 with
    | [v0], _ =>
      obtain ⟨ys, m, rfl, hx, -, hl, hd⟩ := DataW.trod_struct Try.underlying87 c3
      match ys, hl with
      | [y0], _ =>
        simp only [hx, DataW.weights, Try.underlying87, DataW.weightsEach, List.map_cons, List.map_nil, List.mem_append] at c4
        obtain ⟨xs, hx⟩ := opn_ins (by simpa [show Try.prog.cellsOf 85 = 1 by kernel_rfl] using hd 0 _ rfl) (fun n hn => c4 n (by simp [hn]))
        exact ⟨xs, v0, by simpa using c2 0 (by simp), hx⟩)
  subst e
  exact ⟨zs, ⟨b, o, s, Nat.zero_le _, hz⟩⟩
set_option maxRecDepth 100000 in
theorem opn_fn {fuel : Nat} {cs : List Value} {x : DataW H × List MemPlace} (h : DataW.trod enc Try.prog w 0 spare held fuel 25 cs = some x) (hw : ∀ n ∈ x.1.weights Try.prog 25, n ≤ reachBytes) : ∃ d vp vb, cs = [.string d.name, .int .i64 d.link, vp, .int .i64 d.res, vb] ∧ FnAt 0 w d vp vb := by
  obtain ⟨ys, m, rfl, hx, hcl, hl, hd⟩ := DataW.trod_struct Try.underlying25 h
  rw [show Try.prog.cellsOf 25 = 5 by kernel_rfl] at hcl
  match cs, hcl with
  | [v0, v1, v2, v3, v4], _ =>
    match ys, hl with
    | [y0, y1, y2, y3, y4], _ =>
      simp only [hx, DataW.weights, Try.underlying25, DataW.weightsEach, List.map_cons, List.map_nil, List.mem_append] at hw
      obtain ⟨s, e0, e00, -⟩ := DataW.trod_string Try.underlying9 (by simpa [show Try.prog.cellsOf 9 = 1 by kernel_rfl] using hd 0 _ rfl)
      obtain rfl : v0 = .string s := by simpa using e0
      obtain ⟨a1, rfl⟩ := one_int Try.underlying2 (by simpa [show Try.prog.cellsOf 2 = 1 by kernel_rfl] using hd 1 _ rfl)
      obtain ⟨a3, rfl⟩ := one_int Try.underlying2 (by simpa [show Try.prog.cellsOf 2 = 1 by kernel_rfl] using hd 3 _ rfl)
      obtain ⟨xp, hp⟩ := opn_ints Try.underlying22 Try.underlying2 (by kernel_rfl) (by kernel_rfl) (by simpa [show Try.prog.cellsOf 22 = 1 by kernel_rfl] using hd 2 _ rfl) (fun n hn => hw n (by simp [hn]))
      obtain ⟨xb, hb⟩ := opn_bls (by simpa [show Try.prog.cellsOf 23 = 1 by kernel_rfl] using hd 4 _ rfl) (fun n hn => hw n (by simp [hn]))
      have hn : s.size ≤ 140737488355328 := by
        have := hw s.data.toList.length (.inl (by rw [e00]; simp [DataW.weights]))
        have h2 := reachBytes_lt
        simp at this
        have e : s.data.size = s.size := rfl
        omega
      exact ⟨⟨s, a1, xp, a3, xb⟩, v2, v4, rfl, hn, hp, hb⟩
end
end Go.Proofs.Ytbfpfjkjeekbdaa
