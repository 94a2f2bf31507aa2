/- Dominating: what the program reckons is what the word says. -/
import Derived.Test.YtbfpfjkjeekbdaaDm1
import Derived.Test.YtbfpfjkjeekbdaaHo1
namespace Go.Proofs.Ytbfpfjkjeekbdaa
set_option linter.unusedVariables false
set_option linter.unusedSimpArgs false
theorem pushL_mem (k x : Int) (i : Nat) : ∀ (ts : List Int) (P : Nat → List Int), (∀ t ∈ ts, 0 ≤ t) → (x ∈ pushL k P ts i ↔ x ∈ P i ∨ (x = k ∧ (i : Int) ∈ ts))
  | [], P, _ => by simp [pushL]
  | t :: r, P, h => by
    have ht := h t (by simp)
    show x ∈ pushL k (pushT k P t) r i ↔ _
    rw [pushL_mem k x i r (pushT k P t) (fun q hq => h q (by simp [hq]))]
    unfold pushT
    by_cases e : i = t.toNat
    · subst e
      rw [upd_same]
      have : ((t.toNat : Nat) : Int) = t := by omega
      rw [this]
      rw [List.mem_append, List.mem_singleton, List.mem_cons]
      constructor
      · rintro ((q | q) | q)
        · exact .inl q
        · exact .inr ⟨q, .inl rfl⟩
        · exact .inr ⟨q.1, .inr q.2⟩
      · rintro (q | ⟨q, -⟩)
        · exact .inl (.inl q)
        · exact .inl (.inr q)
    · rw [upd_other _ _ _ _ e]
      simp only [List.mem_cons]
      constructor
      · rintro (q | q)
        · exact .inl q
        · exact .inr ⟨q.1, .inr q.2⟩
      · rintro (q | ⟨q1, q2 | q2⟩)
        · exact .inl q
        · omega
        · exact .inr ⟨q1, q2⟩
theorem prevs_mem (bls : List (List InD)) (i : Nat) (x : Int) : ∀ b : Nat, x ∈ prevs bls b i ↔ ∃ j : Nat, x = j ∧ j < b ∧ (i : Int) ∈ nextL bls j
  | 0 => by simp [prevs]
  | b + 1 => by
    show x ∈ pushL b (prevs bls b) (nextL bls b) i ↔ _
    rw [pushL_mem _ _ _ _ _ (fun t ht => (nextL_bd ht).1), prevs_mem bls i x b]
    constructor
    · rintro (⟨j, h1, h2, h3⟩ | ⟨h1, h2⟩)
      · exact ⟨j, h1, by omega, h3⟩
      · exact ⟨b, h1, by omega, h2⟩
    · rintro ⟨j, h1, h2, h3⟩
      by_cases e : j = b
      · subst e; exact .inr ⟨h1, h3⟩
      · exact .inl ⟨j, h1, by omega, h3⟩
/-- What is come to from a block is a block. -/
theorem way_in {nx : Int → List Int} {n : Nat} (hnx : ∀ i : Nat, i < n → ∀ y ∈ nx i, 0 ≤ y ∧ y < n) {S : Int → Prop} {x y : Int} (h : Way (EB nx) S x y) : 0 ≤ x ∧ x < n → 0 ≤ y ∧ y < n := by
  induction h with
  | nil x _ => exact id
  | cons x c y _ he _ ih =>
    intro hx
    obtain ⟨t, rfl⟩ : ∃ t : Nat, x = t := ⟨x.toNat, by omega⟩
    exact ih (hnx t (by omega) c he)
/-- Each way goes past what is no block. -/
theorem way_past {nx : Int → List Int} {n : Nat} (hnx : ∀ i : Nat, i < n → ∀ y ∈ nx i, 0 ≤ y ∧ y < n) {a : Int} (ha : ¬ (0 ≤ a ∧ a < n)) {x y : Int} (h : Way (EB nx) (fun _ => True) x y) : 0 ≤ x ∧ x < n → Way (EB nx) (fun z => z ≠ a) x y := by
  induction h with
  | nil x _ => exact fun hx => .nil _ (fun e => ha (e ▸ hx))
  | cons x c y _ he _ ih =>
    intro hx
    obtain ⟨t, rfl⟩ : ∃ t : Nat, x = t := ⟨x.toNat, by omega⟩
    exact .cons _ _ _ (fun e => ha (e ▸ hx)) he (ih (hnx t (by omega) c he))
/-- What the program reckons. -/
theorem hold_iff {nx : Int → List Int} {nb : Nat} {prs : List (Int × Int)} {ab st sz : Nat → Nat} (hA : Arr nb 0 prs) (hD : Dv prs.length (frN prs) nx (prs.map (·.1)) []) (hnear : ∀ u, 0 < u → u < prs.length → Near (EN nx (prs.map (·.1))) (ab u) u) (hS : Stretch prs.length ab st sz) (a b : Int) :
    holdB (numL (prs.map (·.1))) (fun i => (st i : Int)) (fun i => (sz i : Int)) nb a b = true ↔ DomB nx 0 a b := by
  have hM : prs.length = (prs.map (·.1)).length := by simp
  have h0 : (prs.map (·.1))[0]? = some (0 : Int) := by rw [List.getElem?_map, hA.hd]; rfl
  have D := hD.deep hM
  have hin : ∀ (t : Nat), (t : Int) ∈ prs.map (·.1) → t < nb := fun t ht => by
    obtain ⟨e, he, h⟩ := List.mem_map.1 ht
    have := hA.bd e he
    rw [h] at this
    omega
  rw [hD.dom hM h0 a b]
  unfold holdB
  constructor
  · intro h
    simp only [Bool.and_eq_true, decide_eq_true_eq] at h
    obtain ⟨ha, hb, h1, h2⟩ := h
    obtain ⟨ka, rfl, ka1, ka2⟩ := isC_true ha
    obtain ⟨kb, rfl, kb1, kb2⟩ := isC_true hb
    obtain ⟨i, hi⟩ := List.getElem?_of_mem ((hA.num ka).1.1 ka2)
    obtain ⟨j, hj⟩ := List.getElem?_of_mem ((hA.num kb).1.1 kb2)
    have ei := (hA.num ka).2.1 i hi
    have ej := (hA.num kb).2.1 j hj
    rw [Int.toNat_natCast, Int.toNat_natCast, ei, ej, Int.toNat_natCast, Int.toNat_natCast] at h1 h2
    have il : i < prs.length := by rw [hM]; exact lt_of_get hi
    have jl : j < prs.length := by rw [hM]; exact lt_of_get hj
    exact ⟨i, j, hi, hj, (Near.up D hnear i j jl).2 ((hS.iff il jl).2 ⟨by omega, by omega⟩)⟩
  · rintro ⟨i, j, hi, hj, hd⟩
    have il : i < prs.length := by rw [hM]; exact lt_of_get hi
    have jl : j < prs.length := by rw [hM]; exact lt_of_get hj
    have hu := (hS.iff il jl).1 ((Near.up D hnear i j jl).1 hd)
    have ma := List.mem_of_getElem? hi
    have mb := List.mem_of_getElem? hj
    obtain ⟨ea, hea, rfl⟩ := List.mem_map.1 ma
    obtain ⟨eb, heb, rfl⟩ := List.mem_map.1 mb
    have ba := hA.bd ea hea
    have bb := hA.bd eb heb
    generalize ea.1 = a at *
    generalize eb.1 = b at *
    obtain ⟨ka, rfl⟩ : ∃ t : Nat, a = t := ⟨a.toNat, by omega⟩
    obtain ⟨kb, rfl⟩ : ∃ t : Nat, b = t := ⟨b.toNat, by omega⟩
    have ei := (hA.num ka).2.1 i hi
    have ej := (hA.num kb).2.1 j hj
    unfold isC
    rw [Int.toNat_natCast, Int.toNat_natCast, ei, ej, Int.toNat_natCast, Int.toNat_natCast]
    simp only [Bool.and_eq_true, decide_eq_true_eq]
    exact ⟨⟨⟨by omega, by omega⟩, by omega⟩, ⟨⟨by omega, by omega⟩, by omega⟩, by omega, by omega⟩
/-- Whether a block dominates another one. -/
noncomputable def dmB (bls : List (List InD)) (a b : Int) : Bool := @decide (0 < bls.length ∧ DomB (nextL bls) 0 a b) (Classical.propDecidable _)
theorem dmB_true {bls : List (List InD)} {a b : Int} : dmB bls a b = true ↔ 0 < bls.length ∧ DomB (nextL bls) 0 a b := by
  unfold dmB
  exact @decide_eq_true_iff _ (Classical.propDecidable _)
theorem dmB_eq {bls : List (List InD)} {a b : Int} {r : Bool} (h : r = true ↔ 0 < bls.length ∧ DomB (nextL bls) 0 a b) : dmB bls a b = r := by
  rw [Bool.eq_iff_iff, dmB_true]
  exact h.symm
theorem nextL_in (bls : List (List InD)) : ∀ i : Nat, i < bls.length → ∀ y ∈ nextL bls i, 0 ≤ y ∧ y < bls.length := fun i _ y hy => nextL_bd hy
/-- What is no block dominates none, and none dominates it. -/
theorem dmB_out {bls : List (List InD)} {a b : Int} (h : ¬ (0 ≤ a ∧ a < bls.length) ∨ ¬ (0 ≤ b ∧ b < bls.length)) : dmB bls a b = false := by
  rw [Bool.eq_false_iff]
  intro q
  obtain ⟨h0, h1, h2⟩ := dmB_true.1 q
  have hr : (0 : Int) ≤ 0 ∧ (0 : Int) < bls.length := ⟨by omega, by omega⟩
  rcases h with h | h
  · exact h2 (way_past (nextL_in bls) h h1 hr)
  · exact h (way_in (nextL_in bls) h1 hr)
end Go.Proofs.Ytbfpfjkjeekbdaa
