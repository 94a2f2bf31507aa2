/- Outcomes that are handed in, opened. -/
import Derived.Test.YtbacbigcecmfbaaBi0
import Derived.ProofKit
import Derived.Deep.Slices
import Derived.OpenShut
import Derived.SizedLaws
namespace Go.Proofs.Ytbacbigcecmfbaa
open Go.ChangeShapes Go.WideShapes Go.ChangeAt Go.RowKit
set_option linter.unusedVariables false
set_option linter.unusedSimpArgs false
theorem i64_of {n : Int} (h : (Lit.int .i64 n).wf = true) : -9223372036854775808 ≤ n ∧ n ≤ 9223372036854775807 := by
  simp [Lit.wf, IntKind.min, IntKind.max, IntKind.bits, IntKind.signed] at h
  omega
theorem u64_of {n : Int} (h : (Lit.int .u64 n).wf = true) : 0 ≤ n ∧ n < 18446744073709551616 := by
  simp [Lit.wf, IntKind.min, IntKind.max, IntKind.bits, IntKind.signed] at h
  omega
theorem u8_of {n : Int} (h : (Lit.int .u8 n).wf = true) : 0 ≤ n ∧ n < 256 := by
  simp [Lit.wf, IntKind.min, IntKind.max, IntKind.bits, IntKind.signed] at h
  omega
theorem mem_weightsAll {H : Type} {P : Program} {e : TypeId} {ds : List (DataW H)} {d : DataW H} {n : Nat} (hd : d ∈ ds) (hn : n ∈ d.weights P e) : n ∈ DataW.weightsAll P e ds := by
  induction ds with
  | nil => simp at hd
  | cons y r ih =>
    simp only [DataW.weightsAll, List.mem_append]
    rcases List.mem_cons.1 hd with rfl | h
    · exact .inl hn
    · exact .inr (ih h)
theorem list_of {α : Type} (n : Nat) (R : Nat → α → Prop) (h : ∀ i, i < n → ∃ y, R i y) : ∃ ys : List α, ys.length = n ∧ ∀ i (hi : i < ys.length), R i ys[i] := by
  refine ⟨List.ofFn (fun i : Fin n => Classical.choose (h i i.2)), by simp, fun i hi => ?_⟩
  rw [List.getElem_ofFn]
  exact Classical.choose_spec (h i (by simpa using hi))
section
variable {H : Type} {enc : TypeId × Value → H} {w : World} {spare : Nat → Bool} {held : Bool}
/-- Cells in a row at an address: where it lies, each of them. -/
theorem cells_in {a : Addr} {m n : Nat} {cs : List Value} (h : w.cells? 0 (a.add m) n = some cs) (hn : 0 < n) : (m = 0 → a.spot = none) ∧ cs.length = n ∧ ∀ j (hj : j < cs.length), At w a.block (a.off + m + j) cs[j] := by
  have h2 := World.cells?_some h
  obtain ⟨-, hl, hc⟩ := h2
  refine ⟨fun hm => ?_, hl, fun j hj => ?_⟩
  · have := hc 0 hn
    rw [Deep.add_add, hm, List.getElem?_eq_getElem (by omega)] at this
    exact World.cell?_spot this
  · have := hc j (by omega)
    rw [Deep.add_add, List.getElem?_eq_getElem hj] at this
    obtain ⟨b, o, s⟩ := a
    show w.cell? ⟨b, o + m + j, none⟩ = _
    rw [Nat.add_assoc]
    by_cases q : m + j = 0
    · have hs : s = none := by
        rw [q] at this
        exact World.cell?_spot this
      subst hs
      rwa [Go.WideShapes.add_plain] at this
    · unfold Addr.add at this
      rwa [if_neg q] at this
/-- A slice opened: where its elements lie, each of them as it reads. -/
theorem opn_slice {t e : TypeId} {size fuel : Nat} {v : Value} {x : DataW H × List MemPlace} (ht : Try.prog.underlying t = some (.slice e)) (hc : Try.prog.cellsOf e = size) (hs : 0 < size) (hb : decide (0 < Try.prog.bytesOf e) = true)
    (h : DataW.trod enc Try.prog w 0 spare held fuel t [v] = some x) (hw : ∀ n ∈ x.1.weights Try.prog t, n ≤ reachBytes) :
    ∃ b o len, Sl v len b o ∧ ∀ i, i < len → ∃ cs y n, cs.length = size ∧ (∀ j (hj : j < cs.length), At w b (o + i * size + j) cs[j]) ∧ DataW.trod enc Try.prog w 0 spare held n e cs = some y ∧ ∀ n ∈ y.1.weights Try.prog e, n ≤ reachBytes := by
  rcases Deep.open_slice ht h with ⟨hcs, -⟩ | ⟨a, len, cap, m, n, D, Pl, hcs, -, hl, hm, hmm, hx, hel⟩
  · obtain rfl : v = .slice none 0 0 := by simpa using hcs
    exact ⟨0, 0, 0, ⟨⟨none, 0, rfl, Nat.le_refl _, fun h => absurd h (by simp)⟩, by simp⟩, fun i hi => absurd hi (by omega)⟩
  · obtain rfl : v = .slice (some a) len cap := by simpa using hcs
    have hlm : len ≤ m := by rw [hmm]; split <;> omega
    subst hx
    simp only [DataW.weights, ht, List.mem_cons, List.mem_append] at hw
    have hlen : len ≤ 140737488355328 := by
      have h1 := hw _ (.inl rfl)
      simp only [List.length_map, List.length_range] at h1
      have h2 := reachBytes_lt
      have h3 : len * 1 ≤ (len + (m - len)) * Try.prog.bytesOf e := Nat.mul_le_mul (by omega) (of_decide_eq_true hb)
      omega
    refine ⟨a.block, a.off, len, ⟨⟨some a, cap, rfl, hl, fun h0 => ?_⟩, hlen⟩, fun i hi => ?_⟩
    · obtain ⟨cs', h1, h2⟩ := hel 0 (by omega)
      rw [hc] at h1
      have q := (cells_in h1 hs).1 (by omega)
      obtain ⟨b, o, s⟩ := a
      simp only at q
      subst q
      rfl
    · obtain ⟨cs', h1, h2⟩ := hel i (by omega)
      rw [hc] at h1
      obtain ⟨-, q2, q3⟩ := cells_in h1 hs
      exact ⟨cs', _, n, q2, q3, h2, fun k hk => hw k (.inr (.inl (mem_weightsAll (List.mem_map.2 ⟨i, List.mem_range.2 hi, rfl⟩) hk)))⟩
theorem opn_ints {t e : TypeId} {k : IntKind} {fuel : Nat} {v : Value} {x : DataW H × List MemPlace} (ht : Try.prog.underlying t = some (.slice e)) (he : Try.prog.underlying e = some (.int k)) (hc : Try.prog.cellsOf e = 1) (hb : decide (0 < Try.prog.bytesOf e) = true)
    (h : DataW.trod enc Try.prog w 0 spare held fuel t [v] = some x) (hw : ∀ n ∈ x.1.weights Try.prog t, n ≤ reachBytes) : ∃ xs, Ints 0 k w v xs := by
  obtain ⟨b, o, len, s, hel⟩ := opn_slice ht hc (by decide) hb h hw
  obtain ⟨zs, e, hz⟩ := list_of len (fun i (z : Int) => At w b (o + i) (.int k z)) (fun i hi => by
    obtain ⟨cs, y, n, c1, c2, c3, -⟩ := hel i hi
    obtain ⟨z, rfl, -, -⟩ := DataW.trod_int he c3
    exact ⟨z, by simpa using c2 0 (by simp)⟩)
  subst e
  exact ⟨zs, ⟨b, o, s, Nat.zero_le _, hz⟩⟩
theorem one_int {e : TypeId} {k : IntKind} {n : Nat} {v : Value} {y : DataW H × List MemPlace} (he : Try.prog.underlying e = some (.int k)) (h : DataW.trod enc Try.prog w 0 spare held n e [v] = some y) : ∃ a, v = .int k a ∧ (Lit.int k a).wf = true := by
  obtain ⟨a, h1, h2, h3⟩ := DataW.trod_int he h
  exact ⟨a, by simpa using h1, by assumption⟩
theorem one_bool {e : TypeId} {n : Nat} {v : Value} {y : DataW H × List MemPlace} (he : Try.prog.underlying e = some .bool) (h : DataW.trod enc Try.prog w 0 spare held n e [v] = some y) : ∃ a, v = .bool a := by
  obtain ⟨a, h1, h2⟩ := DataW.trod_bool he h
  exact ⟨a, by simpa using h1⟩
theorem opn_words {fuel : Nat} {v : Value} {x : DataW H × List MemPlace} (h : DataW.trod enc Try.prog w 0 spare held fuel 25 [v] = some x) (hw : ∀ n ∈ x.1.weights Try.prog 25, n ≤ reachBytes) : ∃ xs, Ints 0 .u64 w v xs :=
  opn_ints Try.underlying25 Try.underlying22 (by kernel_rfl) (by kernel_rfl) h hw
set_option maxRecDepth 100000 in
theorem opn_val {fuel : Nat} {cs : List Value} {x : DataW H × List MemPlace} (h : DataW.trod enc Try.prog w 0 spare held fuel 24 cs = some x) : ∃ p o q, cs = [.bool p, .int .i64 o, .int .u64 q] := by
  obtain ⟨ys, m, rfl, hx, hcl, hl, hd⟩ := DataW.trod_struct Try.underlying24 h
  rw [show Try.prog.cellsOf 24 = 3 by kernel_rfl] at hcl
  match cs, hcl with
  | [v0, v1, v2], _ =>
    match ys, hl with
    | [y0, y1, y2], _ =>
      obtain ⟨p, rfl⟩ := one_bool Try.underlying4 (by simpa [show Try.prog.cellsOf 4 = 1 by kernel_rfl] using hd 0 _ rfl)
      obtain ⟨o, rfl, -⟩ := one_int Try.underlying2 (by simpa [show Try.prog.cellsOf 2 = 1 by kernel_rfl] using hd 1 _ rfl)
      obtain ⟨q, rfl, -⟩ := one_int Try.underlying22 (by simpa [show Try.prog.cellsOf 22 = 1 by kernel_rfl] using hd 2 _ rfl)
      exact ⟨p, o, q, rfl⟩
set_option maxRecDepth 100000 in
theorem opn_out {fuel : Nat} {cs : List Value} {x : DataW H × List MemPlace} (h : DataW.trod enc Try.prog w 0 spare held fuel 27 cs = some x) (hw : ∀ n ∈ x.1.weights Try.prog 27, n ≤ reachBytes) : ∃ e p o q v xs s, cs = [.int .i64 e, .bool p, .int .i64 o, .int .u64 q, v, .int .i64 s] ∧ Ints 0 .u64 w v xs := by
  obtain ⟨ys, m, rfl, hx, hcl, hl, hd⟩ := DataW.trod_struct Try.underlying27 h
  rw [show Try.prog.cellsOf 27 = 6 by kernel_rfl] at hcl
  match cs, hcl with
  | [v0, v1, v2, v3, v4, v5], _ =>
    match ys, hl with
    | [y0, y1, y2, y3], _ =>
      simp only [hx, DataW.weights, Try.underlying27, DataW.weightsEach, List.map_cons, List.map_nil, List.mem_append] at hw
      obtain ⟨e, rfl, -⟩ := one_int Try.underlying2 (by simpa [show Try.prog.cellsOf 2 = 1 by kernel_rfl] using hd 0 _ rfl)
      obtain ⟨p, o, q, h1⟩ := opn_val (by simpa [show Try.prog.cellsOf 24 = 3 by kernel_rfl] using hd 1 _ rfl)
      obtain ⟨xs, h2⟩ := opn_words (by simpa [show Try.prog.cellsOf 25 = 1 by kernel_rfl] using hd 2 _ rfl) (fun n hn => hw n (by simp [hn]))
      obtain ⟨s, rfl, -⟩ := one_int Try.underlying2 (by simpa [show Try.prog.cellsOf 2 = 1 by kernel_rfl] using hd 3 _ rfl)
      simp at h1
      obtain ⟨rfl, rfl, rfl⟩ := h1
      exact ⟨e, p, o, q, v4, xs, s, rfl, h2⟩
end
end Go.Proofs.Ytbacbigcecmfbaa
