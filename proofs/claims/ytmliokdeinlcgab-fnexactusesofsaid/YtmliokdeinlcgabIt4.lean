/- Where a value is defined, and which value a place defines: the program's answers are the specification's. -/
import Derived.Test.YtmliokdeinlcgabIt3
namespace Go.Proofs.Ytmliokdeinlcgab
open Go.ChangeShapes Go.WideShapes Go.ChangeAt Go.RowKit
attribute [local go_sem] Oper.semAt_some
set_option linter.unusedVariables false
set_option linter.unusedSimpArgs false
abbrev trip (y : ItD) : Nat × Nat × Int := (y.b, y.i, y.d.ty)
theorem inPl_trip (b : Nat) : ∀ (ys : List ItD) (i0 : Nat), (∀ j (h : j < ys.length), ys[j].b = b ∧ ys[j].i = i0 + j) → inPl b i0 (ys.map (·.d)) = ys.map trip
  | [], _, _ => rfl
  | y :: r, i0, h => by
    have h0 := h 0 (by simp)
    simp only [List.getElem_cons_zero, Nat.add_zero] at h0
    have := inPl_trip b r (i0 + 1) (fun j hj => by
      have := h (j + 1) (by simpa using hj)
      simp only [List.getElem_cons_succ] at this
      exact ⟨this.1, by omega⟩)
    simp only [List.map_cons, inPl, this, trip, h0.1, h0.2]
theorem blPl_trip : ∀ (Y : List (List ItD)) (b0 : Nat), (∀ k (h : k < Y.length) j (hj : j < Y[k].length), Y[k][j].b = b0 + k ∧ Y[k][j].i = j) → blPl b0 (Y.map (·.map (·.d))) = Y.flatten.map trip
  | [], _, _ => rfl
  | ys :: R, b0, h => by
    have h0 := inPl_trip b0 ys 0 (fun j hj => by
      have := h 0 (by simp) j (by simpa using hj)
      simpa using this)
    have := blPl_trip R (b0 + 1) (fun k hk j hj => by
      have := h (k + 1) (by simpa using hk) j (by simpa using hj)
      simp only [List.getElem_cons_succ] at this
      exact ⟨by omega, this.2⟩)
    simp only [List.map_cons, blPl, List.flatten_cons, List.map_append, h0, this]
theorem defL_mem {n : Int} {L : List ItD} {x : Int × Nat × Nat} (h : x ∈ defL n L) : ∃ y, y ∈ L ∧ y.d.ty ≠ 0 ∧ x.2 = (y.b, y.i) := by
  induction L generalizing n with
  | nil => simp [defL] at h
  | cons y r ih =>
    by_cases q : y.d.ty = 0
    · simp only [defL, q, if_true] at h
      obtain ⟨z, h1, h2⟩ := ih h
      exact ⟨z, by simp [h1], h2⟩
    · simp only [defL, q, if_false, List.mem_cons] at h
      rcases h with rfl | h
      · exact ⟨y, by simp, q, rfl⟩
      · obtain ⟨z, h1, h2⟩ := ih h
        exact ⟨z, by simp [h1], h2⟩
theorem mem_defL {n : Int} {L : List ItD} {y : ItD} (h : y ∈ L) (q : y.d.ty ≠ 0) : ∃ x, x ∈ defL n L ∧ x.2 = (y.b, y.i) := by
  induction L generalizing n with
  | nil => simp at h
  | cons z r ih =>
    rcases List.mem_cons.1 h with rfl | h
    · exact ⟨_, by simp [defL, q]; exact .inl rfl, rfl⟩
    · by_cases qz : z.d.ty = 0
      · obtain ⟨x, h1, h2⟩ := ih (n := n) h
        exact ⟨x, by simpa [defL, qz] using h1, h2⟩
      · obtain ⟨x, h1, h2⟩ := ih (n := n + 1) h
        exact ⟨x, by simp only [defL, qz, if_false, List.mem_cons]; exact .inr h1, h2⟩
theorem dAt_none (v n : Int) (L : List ItD) (h : ∀ k (hk : k < (defL n L).length), (defL n L)[k].1 ≠ v) : dAt v n (L.map trip) = (-1, -1) := by
  induction L generalizing n with
  | nil => rfl
  | cons y r ih =>
    by_cases q : y.d.ty = 0
    · simp only [List.map_cons, trip, dAt, q, if_true]
      simp only [defL, q, if_true] at h
      exact ih n h
    · simp only [List.map_cons, trip, dAt, q, if_false]
      simp only [defL, q, if_false] at h
      have h0 := h 0 (by simp)
      simp only [List.getElem_cons_zero] at h0
      rw [if_neg h0]
      refine ih (n + 1) fun k hk => ?_
      have := h (k + 1) (by simpa using hk)
      simpa using this
theorem dAt_hit (v n : Int) (L : List ItD) (k : Nat) (hk : k < (defL n L).length) (hv : (defL n L)[k].1 = v) (h : ∀ j (hj : j < k), (defL n L)[j].1 ≠ v) : dAt v n (L.map trip) = (((defL n L)[k].2.1 : Int), ((defL n L)[k].2.2 : Int)) := by
  induction L generalizing n k with
  | nil => simp [defL] at hk
  | cons y r ih =>
    by_cases q : y.d.ty = 0
    · simp only [List.map_cons, trip, dAt, q, if_true]
      simp only [defL, q, if_true] at h hk hv ⊢
      exact ih n k hk hv h
    · simp only [List.map_cons, trip, dAt, q, if_false]
      simp only [defL, q, if_false] at h hk hv ⊢
      cases k with
      | zero =>
        simp only [List.getElem_cons_zero] at hv ⊢
        rw [if_pos hv]
      | succ k =>
        have h0 := h 0 (by omega)
        simp only [List.getElem_cons_zero] at h0
        rw [if_neg h0]
        simp only [List.getElem_cons_succ] at hv ⊢
        refine ih (n + 1) k (by simpa using hk) hv fun j hj => ?_
        have := h (j + 1) (by omega)
        simpa using this
theorem rOf_hit (B I n : Int) (L : List ItD) (hp : L.Pairwise fun x y => ¬ (x.b = y.b ∧ x.i = y.i)) (k : Nat) (hk : k < (defL n L).length) (hb : ((defL n L)[k].2.1 : Int) = B) (hi : ((defL n L)[k].2.2 : Int) = I) : rOf B I n (L.map trip) = (defL n L)[k].1 := by
  induction L generalizing n k with
  | nil => simp [defL] at hk
  | cons y r ih =>
    obtain ⟨p1, p2⟩ := List.pairwise_cons.1 hp
    by_cases q : y.d.ty = 0
    · simp only [defL, q, if_true] at hk hb hi ⊢
      have hne : ¬ ((y.b : Int) = B ∧ (y.i : Int) = I) := by
        rintro ⟨e1, e2⟩
        obtain ⟨z, hz, -, hz2⟩ := defL_mem (List.getElem_mem hk)
        rw [hz2] at hb hi
        exact p1 z hz ⟨by simp at hb; omega, by simp at hi; omega⟩
      simp only [List.map_cons, trip, rOf, hne, q, if_true, if_false]
      exact ih n p2 k hk hb hi
    · simp only [defL, q, if_false] at hk hb hi ⊢
      cases k with
      | zero =>
        simp only [List.getElem_cons_zero] at hb hi ⊢
        simp [List.map_cons, trip, rOf, hb, hi, q]
      | succ k =>
        simp only [List.getElem_cons_succ] at hb hi ⊢
        have hk' : k < (defL (n + 1) r).length := by simpa using hk
        have hne : ¬ ((y.b : Int) = B ∧ (y.i : Int) = I) := by
          rintro ⟨e1, e2⟩
          obtain ⟨z, hz, -, hz2⟩ := defL_mem (List.getElem_mem hk')
          rw [hz2] at hb hi
          exact p1 z hz ⟨by simp at hb; omega, by simp at hi; omega⟩
        simp only [List.map_cons, trip, rOf, hne, q, if_false]
        exact ih (n + 1) p2 k hk' hb hi
theorem rOf_miss (B I n : Int) (L : List ItD) (h : ∀ k (hk : k < (defL n L).length), ¬ (((defL n L)[k].2.1 : Int) = B ∧ ((defL n L)[k].2.2 : Int) = I)) : rOf B I n (L.map trip) = -1 := by
  refine rOf_none B I _ n fun e he e1 e2 => ?_
  obtain ⟨y, hy, rfl⟩ := List.mem_map.1 he
  by_cases q : y.d.ty = 0
  · exact q
  · obtain ⟨x, hx, hx2⟩ := mem_defL (n := n) hy q
    obtain ⟨k, hk, rfl⟩ := List.mem_iff_getElem.1 hx
    refine absurd ?_ (h k hk)
    rw [hx2]
    exact ⟨e1, e2⟩
theorem apart_flat (Y : List (List ItD)) (h : ∀ k (h : k < Y.length) j (hj : j < Y[k].length), Y[k][j].b = k ∧ Y[k][j].i = j) : Y.flatten.Pairwise fun x y => ¬ (x.b = y.b ∧ x.i = y.i) := by
  rw [List.pairwise_flatten]
  refine ⟨fun l hl => ?_, ?_⟩
  · obtain ⟨k, hk, rfl⟩ := List.mem_iff_getElem.1 hl
    rw [List.pairwise_iff_getElem]
    intro i j hi hj hij hh
    have := (h k hk i hi).2
    have := (h k hk j hj).2
    omega
  · rw [List.pairwise_iff_getElem]
    intro i j hi hj hij x hx y hy hh
    obtain ⟨p, hp, rfl⟩ := List.mem_iff_getElem.1 hx
    obtain ⟨q, hq, rfl⟩ := List.mem_iff_getElem.1 hy
    have := (h i hi p hp).1
    have := (h j hj q hq).1
    omega
theorem defL_bd (n : Int) (L : List ItD) : (defL n L).length ≤ L.length := by
  rw [defL_len]
  have := cnt_le L L.length
  rwa [List.take_length] at this
end Go.Proofs.Ytmliokdeinlcgab
