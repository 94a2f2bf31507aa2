/- Rows of whole numbers, each in a block of its own, and the row of their slices. -/
import Derived.Test.YtbfpfjkjeekbdaaNb3
namespace Go.Proofs.Ytbfpfjkjeekbdaa
open Go.ChangeShapes Go.WideShapes Go.ChangeAt Go.RowKit
set_option linter.unusedVariables false
set_option linter.unusedSimpArgs false
def upd {κ α : Type} [DecidableEq κ] (f : κ → α) (k : κ) (v : α) : κ → α := fun l => if l = k then v else f l
theorem upd_same {κ α : Type} [DecidableEq κ] (f : κ → α) (k : κ) (v : α) : upd f k v k = v := if_pos rfl
theorem upd_other {κ α : Type} [DecidableEq κ] (f : κ → α) (k l : κ) (v : α) (h : l ≠ k) : upd f k v l = f l := if_neg h
structure Fam {κ : Type} (w : World) (base : Nat) (S : κ → Prop) (f : κ → Value) (x : κ → List Int) : Prop where
  own : ∀ k, S k → w.ownsRow base 2 1 (f k) (x k).length ((x k).map (Value.int .i64))
  apart : ∀ k l, S k → S l → k ≠ l → (f k).ownBlock = none ∨ (f k).ownBlock ≠ (f l).ownBlock
section
variable {κ : Type} {w w' : World} {base : Nat} {S : κ → Prop} {f : κ → Value} {x : κ → List Int}
theorem Fam.kept {row : Option Nat} (h : Fam w base S f x) (hg : w.grownBy w' row) (hne : ∀ k, S k → (f k).ownBlock = none ∨ (f k).ownBlock ≠ row) : Fam w' base S f x := ⟨fun k hk => (h.own k hk).kept hg (hne k hk), h.apart⟩
theorem Fam.keep (h : Fam w base S f x) (hb : Below w.heap.size w w') : Fam w' base S f x := ⟨fun k hk => (OwnI.keep ⟨h.own k hk⟩ hb).r, h.apart⟩
theorem Fam.put [DecidableEq κ] (h : Fam w base S f x) (k0 : κ) (hk0 : S k0) (hg : w.grownBy w' (f k0).ownBlock) {u : Value} {x0 : List Int} (ho : w'.ownsRow base 2 1 u x0.length (x0.map (Value.int .i64)))
    (hl : u.ownBlock = (f k0).ownBlock ∨ u.ownBlock = some w.heap.size) : Fam w' base S (upd f k0 u) (upd x k0 x0) := by
  constructor
  · intro k hk
    by_cases e : k = k0
    · subst e
      rw [upd_same, upd_same]
      exact ho
    · rw [upd_other _ _ _ _ e, upd_other _ _ _ _ e]
      exact (h.own k hk).kept hg (h.apart k k0 hk hk0 e)
  · intro k l hk hl' hne
    by_cases e : k = k0
    · subst e
      rw [upd_same, upd_other _ _ _ _ (Ne.symm hne)]
      rcases hl with q | q
      · rw [q]; exact h.apart k l hk hl' hne
      · rw [q]
        refine .inr fun q2 => ?_
        have := ((h.own l hl').lt _ q2.symm).2
        omega
    · rw [upd_other _ _ _ _ e]
      by_cases e2 : l = k0
      · subst e2
        rw [upd_same]
        rcases hl with q | q
        · rw [q]; exact h.apart k l hk hl' hne
        · rw [q]
          refine .inr fun q2 => ?_
          have := ((h.own k hk).lt _ q2).2
          omega
      · rw [upd_other _ _ _ _ e2]
        exact h.apart k l hk hl' hne
theorem Fam.fresh [DecidableEq κ] (h : Fam w base S f x) (k0 : κ) (hb : Below w.heap.size w w') (hs : base ≤ w.heap.size) {u : Value} {x0 : List Int} (ho : OwnI w' w.heap.size u x0) : Fam w' base S (upd f k0 u) (upd x k0 x0) := by
  have hk := h.keep hb
  constructor
  · intro k hk'
    by_cases e : k = k0
    · subst e
      rw [upd_same, upd_same]
      exact ⟨ho.r.1, ho.r.2.elim Or.inl (fun ⟨g, cap, cur, hv, hg, r⟩ => Or.inr ⟨g, cap, cur, hv, by omega, r⟩)⟩
    · rw [upd_other _ _ _ _ e, upd_other _ _ _ _ e]
      exact hk.own k hk'
  · intro k l hk' hl' hne
    by_cases e : k = k0
    · subst e
      rw [upd_same, upd_other _ _ _ _ (Ne.symm hne)]
      cases hu : u.ownBlock with
      | none => exact .inl rfl
      | some g =>
        refine .inr fun q => ?_
        have h1 := (ho.r.lt _ hu).1
        have h2 := ((h.own l hl').lt _ q.symm).2
        omega
    · rw [upd_other _ _ _ _ e]
      by_cases e2 : l = k0
      · subst e2
        rw [upd_same]
        cases hf : (f k).ownBlock with
        | none => exact .inl rfl
        | some g =>
          refine .inr fun q => ?_
          have h1 := (ho.r.lt _ q.symm).1
          have h2 := ((h.own k hk').lt _ hf).2
          omega
      · rw [upd_other _ _ _ _ e2]
        exact h.apart k l hk' hl' hne
end
/-- A row of slices, in a block of its own. -/
structure HdG (w : World) (b n : Nat) (g : Nat → Value) : Prop where
  ex : ∃ cur, w.heap[b]? = some (Go.Obj.cells cur 22 (0, 0)) ∧ ∀ i, i < n → cur[i]? = some (g i)
theorem HdG.at {w : World} {b n : Nat} {g : Nat → Value} (h : HdG w b n g) {i : Nat} (hi : i < n) : At w b i (g i) := by
  obtain ⟨cur, h1, h2⟩ := h.ex
  exact at_cells h1 (h2 i hi)
theorem HdG.rw {w : World} {b n : Nat} {g : Nat → Value} (h : HdG w b n g) (i : Nat) : w.frozen? ⟨b, i, none⟩ = false := by
  obtain ⟨cur, h1, h2⟩ := h.ex
  exact rw_cells h1 i
theorem HdG.kept {w w' : World} {row : Option Nat} {b n : Nat} {g : Nat → Value} (h : HdG w b n g) (hg : w.grownBy w' row) (hne : some b ≠ row) : HdG w' b n g := by
  obtain ⟨cur, h1, h2⟩ := h.ex
  exact ⟨cur, (hg.block _ (Array.getElem?_eq_some_iff.1 h1).1 hne).trans h1, h2⟩
theorem HdG.keep {w w' : World} {b n : Nat} {g : Nat → Value} (h : HdG w b n g) (hb : Below w.heap.size w w') : HdG w' b n g := by
  obtain ⟨cur, h1, h2⟩ := h.ex
  exact ⟨cur, keep_cells h1 hb, h2⟩
theorem HdG.lt {w : World} {b n : Nat} {g : Nat → Value} (h : HdG w b n g) : b < w.heap.size := by
  obtain ⟨cur, h1, h2⟩ := h.ex
  exact (Array.getElem?_eq_some_iff.1 h1).1
theorem HdG.set {w : World} {b n : Nat} {g : Nat → Value} (h : HdG w b n g) {j : Nat} (hj : j < n) (u : Value) : HdG (w.setCell ⟨b, j, none⟩ u) b n (upd g j u) := by
  obtain ⟨cur, h1, h2⟩ := h.ex
  refine ⟨_, set_cells h1 j u, fun i hi => ?_⟩
  have hc := (Array.getElem?_eq_some_iff.1 (h2 j hj)).1
  by_cases e : i = j
  · subst e
    rw [upd_same]
    simp [hc]
  · rw [upd_other _ _ _ _ e]
    simp [Array.getElem?_setIfInBounds, Ne.symm e, h2 i hi]
theorem HdG.ne_row {w : World} {b n base : Nat} {g : Nat → Value} (h : HdG w b n g) {v : Value} {m : Nat} {xs : List Value} (ho : w.ownsRow base 2 1 v m xs) : some b ≠ v.ownBlock := by
  obtain ⟨cur, h1, h2⟩ := h.ex
  exact own_ne ho h1 (by decide)
theorem Fam.setHd {κ : Type} {w : World} {base : Nat} {S : κ → Prop} {f : κ → Value} {x : κ → List Int} {b n : Nat} {g : Nat → Value} (h : Fam w base S f x) (hh : HdG w b n g) (j : Nat) (u : Value) : Fam (w.setCell ⟨b, j, none⟩ u) base S f x :=
  ⟨fun k hk => (h.own k hk).kept (gset w b j u) (.inr fun e => hh.ne_row (h.own k hk) e.symm), h.apart⟩
where gset (w : World) (b j : Nat) (u : Value) : w.grownBy (w.setCell ⟨b, j, none⟩ u) (some b) := ⟨rfl, rfl, rfl, by simp [World.setCell], fun k _ hk => Below.heap_setCell _ _ _ k (fun e => hk (by rw [e]))⟩
/-- Rows of whole numbers, as they are read. -/
structure Rws (lo : Nat) (w : World) (v : Value) (n : Nat) (xs : Nat → List Int) : Prop where
  ex : ∃ b o, Sl v n b o ∧ lo ≤ b ∧ ∀ i, i < n → ∃ u, At w b (o + i) u ∧ Ints lo .i64 w u (xs i)
theorem Rws.keep {lo : Nat} {w w' : World} {v : Value} {n : Nat} {xs : Nat → List Int} (h : Rws lo w v n xs) (hb : Below w.heap.size w w') : Rws lo w' v n xs := by
  obtain ⟨b, o, s, l, c⟩ := h.ex
  exact ⟨b, o, s, l, fun i hi => by
    obtain ⟨u, h1, h2⟩ := c i hi
    exact ⟨u, at_keep h1 hb, h2.keep hb⟩⟩
theorem Rws.congr {lo l2 : Nat} {w : World} {v : Value} {n : Nat} {xs ys : Nat → List Int} (h : Rws lo w v n xs) (hl : l2 ≤ lo) (e : ∀ i, i < n → ys i = xs i) : Rws l2 w v n ys := by
  obtain ⟨b, o, s, l, c⟩ := h.ex
  exact ⟨b, o, s, by omega, fun i hi => by
    obtain ⟨u, h1, h2⟩ := c i hi
    exact ⟨u, h1, by rw [e i hi]; exact h2.mono hl (fun _ _ _ _ q => q)⟩⟩
theorem rws_of {κ : Type} {w : World} {base : Nat} {S : κ → Prop} {f : κ → Value} {x : κ → List Int} (h : Fam w base S f x) {b n cap : Nat} {g : Nat → Value} (hh : HdG w b n g) (hb : base ≤ b) (hn : n ≤ cap) (hn2 : n ≤ 1048576) (key : Nat → κ) (hk : ∀ i, i < n → S (key i) ∧ g i = f (key i) ∧ (x (key i)).length ≤ 1048576) :
    Rws base w (.slice (some ⟨b, 0, none⟩) n cap) n (fun i => x (key i)) := by
  refine ⟨b, 0, ⟨⟨_, _, rfl, hn, fun _ => rfl⟩, by omega⟩, hb, fun i hi => ?_⟩
  obtain ⟨h1, h2, h3⟩ := hk i hi
  exact ⟨f (key i), by rw [Nat.zero_add, ← h2]; exact hh.at hi, OwnI.ints ⟨h.own _ h1⟩ h3⟩
/-- The number k put behind the list of each block of a row of blocks. -/
def pushT (k : Int) (P : Nat → List Int) (t : Int) : Nat → List Int := upd P t.toNat (P t.toNat ++ [k])
def pushL (k : Int) (P : Nat → List Int) (ts : List Int) : Nat → List Int := ts.foldl (pushT k) P
theorem pushL_snoc (k : Int) (P : Nat → List Int) (ts : List Int) (t : Int) : pushL k P (ts ++ [t]) = pushT k (pushL k P ts) t := by simp [pushL]
/-- The blocks that go to each one, of the first b ones. -/
def prevs (bls : List (List InD)) : Nat → Nat → List Int
  | 0 => fun _ => []
  | b + 1 => pushL b (prevs bls b) (nextL bls b)
theorem nextL_bd {bls : List (List InD)} {b : Int} {x : Int} (h : x ∈ nextL bls b) : 0 ≤ x ∧ x < bls.length := by
  unfold nextL at h
  rw [nxF_mem] at h
  rcases h with h | h
  · simp at h
  · exact h.2
theorem pushL_len (k : Int) (P : Nat → List Int) (ts : List Int) (i : Nat) : (pushL k P ts i).length ≤ (P i).length + ts.length := by
  induction ts generalizing P with
  | nil => simp [pushL]
  | cons t r ih =>
    have := ih (pushT k P t)
    show (pushL k (pushT k P t) r i).length ≤ _
    have h2 : (pushT k P t i).length ≤ (P i).length + 1 := by
      unfold pushT upd
      split
      · rename_i e; rw [e]; simp
      · omega
    rw [List.length_cons]
    omega
def nxtN (bls : List (List InD)) : Nat → Nat
  | 0 => 0
  | b + 1 => nxtN bls b + (nextL bls b).length
theorem prevs_len (bls : List (List InD)) (b i : Nat) : (prevs bls b i).length ≤ nxtN bls b := by
  induction b with
  | zero => exact Nat.le_refl _
  | succ b ih =>
    have := pushL_len b (prevs bls b) (nextL bls b) i
    show (pushL b (prevs bls b) (nextL bls b) i).length ≤ nxtN bls b + _
    omega
theorem nxtN_take (bls : List (List InD)) (b : Nat) (hb : b ≤ bls.length) : (nxtN bls b : Int) ≤ blsN (bls.take b) := by
  induction b with
  | zero => simp [nxtN, blsN]
  | succ b ih =>
    have h1 := ih (by omega)
    have hlt : b < bls.length := by omega
    have h2 : blsN (bls.take (b + 1)) = blsN (bls.take b) + blN bls[b] := by
      unfold blsN
      rw [List.take_succ_eq_append_getElem hlt, List.map_append, List.sum_append]; simp
    have h3 := nxF_len bls.length [] (lastBl bls b)
    rw [lastBl_in hlt] at h3
    have h4 := lastB_len (x := bls[b])
    have h5 : nextL bls b = nxF bls.length [] (lastB bls[b]) := by unfold nextL; rw [lastBl_in hlt]
    show ((nxtN bls b + (nextL bls b).length : Nat) : Int) ≤ _
    rw [h2, h5]
    unfold blN
    simp only [List.length_nil, Nat.zero_add] at h3
    omega
theorem nxtN_le (bls : List (List InD)) (b : Nat) (hb : b ≤ bls.length) : (nxtN bls b : Int) ≤ blsN bls := by
  have h1 := nxtN_take bls b hb
  have h2 : blsN bls = blsN (bls.take b) + blsN (bls.drop b) := by
    have e := congrArg blsN (List.take_append_drop b bls)
    unfold blsN at *
    rw [List.map_append, List.sum_append] at e
    omega
  have h3 := blsN_nn (bls.drop b)
  omega
end Go.Proofs.Ytbfpfjkjeekbdaa
