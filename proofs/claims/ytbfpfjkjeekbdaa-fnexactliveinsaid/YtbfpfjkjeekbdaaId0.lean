/- Dominators: the nearest dominator, as the specification looks for it. -/
import Derived.Test.YtbfpfjkjeekbdaaDe0
namespace Go.Proofs.Ytbfpfjkjeekbdaa
set_option linter.unusedVariables false
set_option linter.unusedSimpArgs false
/-- a is the nearest block that dominates b and is not b. -/
structure NearB (nx : Int → List Int) (root a b : Int) : Prop where
  dom : DomB nx root a b
  ne : a ≠ b
  all : ∀ x, DomB nx root x b → x ≠ b → DomB nx root x a
/-- What is told of a block: the nearest one, or that there is none. -/
def IdOf (nx : Int → List Int) (root : Int) (b x : Int) : Prop := NearB nx root x b ∨ (x = -1 ∧ ∀ a, ¬ NearB nx root a b)
theorem NearB.det {M : Nat} {fr : Nat → Nat} {nx : Int → List Int} {arr : List Int} {root a a' b : Int} (D : Dv M fr nx arr []) (hM : M = arr.length) (h0 : arr[0]? = some root) (h : NearB nx root a b) (h' : NearB nx root a' b) : a = a' := by
  have G := D.deep hM
  obtain ⟨i, j, hi, hj, hd⟩ := (D.dom hM h0 a' a).1 (h.all a' h'.dom h'.ne)
  obtain ⟨i', j', hi', hj', hd'⟩ := (D.dom hM h0 a a').1 (h'.all a h.dom h.ne)
  obtain rfl := get_inj D.nd hi hj'
  obtain rfl := get_inj D.nd hj hi'
  have h1 := G.le _ _ (hd.up G (by rw [hM]; exact lt_of_get hj))
  have h2 := G.le _ _ (hd'.up G (by rw [hM]; exact lt_of_get hi))
  have : i = j := by omega
  subst this
  rw [hi] at hj
  cases hj
  rfl
theorem IdOf.det {M : Nat} {fr : Nat → Nat} {nx : Int → List Int} {arr : List Int} {root b x x' : Int} (D : Dv M fr nx arr []) (hM : M = arr.length) (h0 : arr[0]? = some root) (h : IdOf nx root b x) (h' : IdOf nx root b x') : x = x' := by
  rcases h with h | ⟨rfl, h⟩
  · rcases h' with h' | ⟨-, h'⟩
    · exact h.det D hM h0 h'
    · exact absurd h (h' _)
  · rcases h' with h' | ⟨rfl, -⟩
    · exact absurd h' (h _)
    · rfl
/-- The nearest by numbers is the nearest. -/
theorem Near.blocks {M : Nat} {fr : Nat → Nat} {nx : Int → List Int} {arr : List Int} {root : Int} (D : Dv M fr nx arr []) (hM : M = arr.length) (h0 : arr[0]? = some root) {i j : Nat} {a b : Int} (hi : arr[i]? = some a) (hj : arr[j]? = some b) (h : Near (EN nx arr) i j) : NearB nx root a b := by
  refine ⟨(D.dom hM h0 a b).2 ⟨i, j, hi, hj, h.dom⟩, fun e => ?_, fun x hx hne => ?_⟩
  · subst e
    have := get_inj D.nd hi hj
    have := h.lt
    omega
  · obtain ⟨k, j', hk, hj', hd⟩ := (D.dom hM h0 x b).1 hx
    obtain rfl := get_inj D.nd hj hj'
    exact (D.dom hM h0 x a).2 ⟨k, i, hk, hi, h.all k hd (fun e => hne (by subst e; rw [hk] at hj; cases hj; rfl))⟩
/-- Of the root, and of what is not come to, there is none. -/
theorem NearB.none {M : Nat} {fr : Nat → Nat} {nx : Int → List Int} {arr : List Int} {root : Int} (D : Dv M fr nx arr []) (hM : M = arr.length) (h0 : arr[0]? = some root) {b : Int} (hb : b = root ∨ b ∉ arr) (a : Int) : ¬ NearB nx root a b := fun h => by
  obtain ⟨i, j, hi, hj, hd⟩ := (D.dom hM h0 a b).1 h.dom
  rcases hb with rfl | hb
  · obtain rfl := get_inj D.nd h0 hj
    have G := D.deep hM
    have := G.le _ _ (hd.up G (by rw [hM]; exact lt_of_get hj))
    obtain rfl : i = 0 := by omega
    rw [hi] at h0
    cases h0
    exact h.ne rfl
  · exact hb (List.mem_of_getElem? hj)
section
variable {M : Nat} {fr : Nat → Nat} {nx : Int → List Int} {arr : List Int} {root : Int}
theorem DomB.self (D : Dv M fr nx arr []) (hM : M = arr.length) (h0 : arr[0]? = some root) {a b : Int} (h : DomB nx root a b) : DomB nx root a a := by
  obtain ⟨i, j, hi, hj, hd⟩ := (D.dom hM h0 a b).1 h
  exact (D.dom hM h0 a a).2 ⟨i, i, hi, hi, Dom.self _ _⟩
theorem DomB.trans (D : Dv M fr nx arr []) (hM : M = arr.length) (h0 : arr[0]? = some root) {a b c : Int} (h : DomB nx root a b) (h' : DomB nx root b c) : DomB nx root a c := by
  obtain ⟨i, j, hi, hj, hd⟩ := (D.dom hM h0 a b).1 h
  obtain ⟨j', k, hj', hk, hd'⟩ := (D.dom hM h0 b c).1 h'
  obtain rfl := get_inj D.nd hj hj'
  exact (D.dom hM h0 a c).2 ⟨i, k, hi, hk, hd.trans hd'⟩
/-- Two that dominate one block: one of them dominates the other. -/
theorem DomB.chain (D : Dv M fr nx arr []) (hM : M = arr.length) (h0 : arr[0]? = some root) {ab : Nat → Nat} (hab : ∀ v, 0 < v → v < M → Near (EN nx arr) (ab v) v) {a b c : Int} (h : DomB nx root a c) (h' : DomB nx root b c) : DomB nx root a b ∨ DomB nx root b a := by
  have G := D.deep hM
  obtain ⟨i, k, hi, hk, hd⟩ := (D.dom hM h0 a c).1 h
  obtain ⟨j, k', hj, hk', hd'⟩ := (D.dom hM h0 b c).1 h'
  obtain rfl := get_inj D.nd hk hk'
  have hkM : k < M := by rw [hM]; exact lt_of_get hk
  have hiM : i < M := by rw [hM]; exact lt_of_get hi
  have hjM : j < M := by rw [hM]; exact lt_of_get hj
  rcases UpR.chain ((Near.up G hab i k hkM).1 hd) ((Near.up G hab j k hkM).1 hd') with q | q
  · exact .inl ((D.dom hM h0 a b).2 ⟨i, j, hi, hj, (Near.up G hab i j hjM).2 q⟩)
  · exact .inr ((D.dom hM h0 b a).2 ⟨j, i, hj, hi, (Near.up G hab j i hiM).2 q⟩)
end
/-- The best so far, after k blocks. -/
noncomputable def bst (bls : List (List InD)) (b : Nat) : Nat → Int
  | 0 => -1
  | k + 1 => if k ≠ b ∧ dmB bls k b = true ∧ (bst bls b k < 0 ∨ dmB bls (bst bls b k) k = true) then (k : Int) else bst bls b k
theorem bst_lo (bls : List (List InD)) (b : Nat) : ∀ k, -1 ≤ bst bls b k ∧ bst bls b k < k
  | 0 => by unfold bst; omega
  | k + 1 => by
    have := bst_lo bls b k
    unfold bst
    split <;> omega
theorem bst_inv {M : Nat} {fr : Nat → Nat} {bls : List (List InD)} {arr : List Int} (D : Dv M fr (nextL bls) arr []) (hM : M = arr.length) (h0 : arr[0]? = some 0) (hpos : 0 < bls.length) {ab : Nat → Nat} (hab : ∀ v, 0 < v → v < M → Near (EN (nextL bls) arr) (ab v) v) (b : Nat) :
    ∀ k : Nat, (bst bls b k = -1 ∧ ∀ a : Nat, a < k → a ≠ b → ¬ DomB (nextL bls) 0 a b) ∨ ∃ m : Nat, bst bls b k = m ∧ m ≠ b ∧ DomB (nextL bls) 0 m b ∧ ∀ a : Nat, a < k → a ≠ b → DomB (nextL bls) 0 a b → DomB (nextL bls) 0 a m
  | 0 => .inl ⟨by unfold bst; rfl, fun a h => absurd h (by omega)⟩
  | k + 1 => by
    have ih := bst_inv D hM h0 hpos hab b k
    by_cases hk : k ≠ b ∧ DomB (nextL bls) 0 k b
    · have hdk : dmB bls k b = true := dmB_true.2 ⟨hpos, hk.2⟩
      rcases ih with ⟨e, h⟩ | ⟨m, e, hm1, hm2, h⟩
      · refine .inr ⟨k, ?_, hk.1, hk.2, fun a ha hne hd => ?_⟩
        · unfold bst
          rw [if_pos ⟨hk.1, hdk, .inl (by rw [e]; omega)⟩]
        · by_cases q : a = k
          · subst q; exact hd.self D hM h0
          · exact absurd hd (h a (by omega) hne)
      · by_cases q : DomB (nextL bls) 0 m k
        · refine .inr ⟨k, ?_, hk.1, hk.2, fun a ha hne hd => ?_⟩
          · unfold bst
            rw [if_pos ⟨hk.1, hdk, .inr (by rw [e]; exact dmB_true.2 ⟨hpos, q⟩)⟩]
          · by_cases q2 : a = k
            · subst q2; exact hd.self D hM h0
            · exact (h a (by omega) hne hd).trans D hM h0 q
        · refine .inr ⟨m, ?_, hm1, hm2, fun a ha hne hd => ?_⟩
          · unfold bst
            rw [if_neg (fun ⟨_, _, h3⟩ => by
              rw [e] at h3
              rcases h3 with h3 | h3
              · omega
              · exact q (dmB_true.1 h3).2)]
            exact e
          · by_cases q2 : a = k
            · subst q2
              rcases hd.chain D hM h0 hab hm2 with r | r
              · exact r
              · exact absurd r q
            · exact h a (by omega) hne hd
    · have e2 : bst bls b (k + 1) = bst bls b k := by
        show (if _ then _ else _) = _
        rw [if_neg (fun h => hk ⟨h.1, (dmB_true.1 h.2.1).2⟩)]
      rw [e2]
      rcases ih with ⟨e, h⟩ | ⟨m, e, hm1, hm2, h⟩
      · refine .inl ⟨e, fun a ha hne hd => ?_⟩
        by_cases q : a = k
        · subst q; exact hk ⟨hne, hd⟩
        · exact h a (by omega) hne hd
      · refine .inr ⟨m, e, hm1, hm2, fun a ha hne hd => ?_⟩
        by_cases q : a = k
        · subst q; exact absurd ⟨hne, hd⟩ hk
        · exact h a (by omega) hne hd
/-- What the specification finds is the nearest. -/
theorem bst_id {M : Nat} {fr : Nat → Nat} {bls : List (List InD)} {arr : List Int} (D : Dv M fr (nextL bls) arr []) (hM : M = arr.length) (h0 : arr[0]? = some 0) (hpos : 0 < bls.length) {ab : Nat → Nat} (hab : ∀ v, 0 < v → v < M → Near (EN (nextL bls) arr) (ab v) v) (hbd : ∀ x ∈ arr, 0 ≤ x ∧ x < bls.length) (b : Nat) :
    IdOf (nextL bls) 0 b (bst bls b bls.length) := by
  have rng : ∀ x, DomB (nextL bls) 0 x b → ∃ t : Nat, x = t ∧ t < bls.length := fun x hx => by
    obtain ⟨i, j, hi, hj, hd⟩ := (D.dom hM h0 x b).1 hx
    have := hbd x (List.mem_of_getElem? hi)
    exact ⟨x.toNat, by omega, by omega⟩
  rcases bst_inv D hM h0 hpos hab b bls.length with ⟨e, h⟩ | ⟨m, e, hm1, hm2, h⟩
  · refine .inr ⟨e, fun a ha => ?_⟩
    obtain ⟨t, rfl, ht⟩ := rng a ha.dom
    exact h t ht (fun q => ha.ne (by rw [q])) ha.dom
  · rw [e]
    refine .inl ⟨hm2, fun q => hm1 (by omega), fun x hx hne => ?_⟩
    obtain ⟨t, rfl, ht⟩ := rng x hx
    exact h t ht (fun q => hne (by rw [q])) hx
/-- The answer of Dominators. -/
noncomputable def dmL (bls : List (List InD)) : List Int := (List.range bls.length).map (fun b => bst bls b bls.length)
theorem dmL_eq {bls : List (List InD)} {L : List Int} (hl : L.length = bls.length) (h : ∀ b : Nat, b < bls.length → L.getD b 0 = bst bls b bls.length) : L = dmL bls := by
  apply List.ext_getElem?
  intro j
  unfold dmL
  by_cases hj : j < bls.length
  · have hjl : j < L.length := by omega
    have := h j hj
    rw [List.getD_eq_getElem?_getD, List.getElem?_eq_getElem hjl] at this
    rw [List.getElem?_eq_getElem hjl, List.getElem?_map, List.getElem?_range hj]
    exact congrArg some this
  · rw [List.getElem?_eq_none (by omega), List.getElem?_eq_none (by simp; omega)]
theorem prevs_okD (blocks : List (List InD)) (hn : blsN blocks ≤ 1048576) : ∀ y : Nat, y < blocks.length → (prevs blocks blocks.length y).length ≤ 1048576 ∧ ∀ x, x ∈ prevs blocks blocks.length y ↔ ∃ i : Nat, x = i ∧ i < blocks.length ∧ (y : Int) ∈ nextL blocks i := fun y hy =>
  ⟨by have h1 := prevs_len blocks blocks.length y; have h2 := nxtN_le blocks blocks.length (Nat.le_refl _); omega, fun x => prevs_mem blocks y x blocks.length⟩
end Go.Proofs.Ytbfpfjkjeekbdaa
