/- The specification's walk that goes down: its contract. -/
import Derived.Test.YtdnngdkfhemfgaaDf1
import Derived.Test.YtdnngdkfhemfgaaGs1
namespace Go.Proofs.Ytdnngdkfhemfgaa
open Go.ChangeShapes Go.WideShapes Go.ChangeAt Go.RowKit
set_option linter.unusedVariables false
set_option linter.unusedSimpArgs false
/-- A row of Booleans: which blocks are on the list. -/
structure SeenAt (w : World) (b n : Nat) (s : List Int) : Prop where
  ex : ∃ cur, w.heap[b]? = some (Go.Obj.cells cur 4 (0, 0)) ∧ ∀ i : Nat, i < n → cur[i]? = some (.bool (s.contains (i : Int)))
section
variable {w w' : World} {b n : Nat} {s : List Int}
theorem SeenAt.at (h : SeenAt w b n s) {i : Nat} (hi : i < n) : At w b i (.bool (s.contains (i : Int))) := by
  obtain ⟨cur, h1, h2⟩ := h.ex
  exact at_cells h1 (h2 i hi)
theorem SeenAt.rw (h : SeenAt w b n s) (i : Nat) : w.frozen? ⟨b, i, none⟩ = false := by
  obtain ⟨cur, h1, h2⟩ := h.ex
  exact rw_cells h1 i
theorem SeenAt.lt (h : SeenAt w b n s) : b < w.heap.size := by
  obtain ⟨cur, h1, h2⟩ := h.ex
  exact (Array.getElem?_eq_some_iff.1 h1).1
theorem SeenAt.keep (h : SeenAt w b n s) (hb : Below w.heap.size w w') : SeenAt w' b n s := by
  obtain ⟨cur, h1, h2⟩ := h.ex
  exact ⟨cur, keep_cells h1 hb, h2⟩
theorem SeenAt.kept {row : Option Nat} (h : SeenAt w b n s) (hg : w.grownBy w' row) (hne : some b ≠ row) : SeenAt w' b n s := by
  obtain ⟨cur, h1, h2⟩ := h.ex
  exact ⟨cur, (hg.block _ (Array.getElem?_eq_some_iff.1 h1).1 hne).trans h1, h2⟩
theorem SeenAt.add (h : SeenAt w b n s) {j : Nat} (hj : j < n) : SeenAt (w.setCell ⟨b, j, none⟩ (.bool true)) b n (s ++ [(j : Int)]) := by
  obtain ⟨cur, h1, h2⟩ := h.ex
  refine ⟨_, set_cells h1 j _, fun i hi => ?_⟩
  have hc := (Array.getElem?_eq_some_iff.1 (h2 j hj)).1
  rw [List.contains_append]
  by_cases e : i = j
  · subst e
    simp [hc]
  · have : ([(j : Int)].contains (i : Int)) = false := by simp; omega
    rw [this, Bool.or_false]
    simp only [Array.getElem?_setIfInBounds]
    rw [if_neg (Ne.symm e)]
    exact h2 i hi
end
/-- But for the block sb and a row, what lay lies. -/
structure Fr (w w' : World) (sb : Nat) (row : Option Nat) : Prop where
  os : w'.os = w.os
  tape : w'.tape = w.tape
  output : w'.output = w.output
  size : w.heap.size ≤ w'.heap.size
  block : ∀ k, k < w.heap.size → k ≠ sb → some k ≠ row → w'.heap[k]? = w.heap[k]?
theorem Fr.below {w0 w w' : World} {sb E : Nat} {row : Option Nat} (h : Fr w w' sb row) (hb : Below E w0 w) (hE : E ≤ w.heap.size) (h1 : E ≤ sb) (h2 : ∀ g, row = some g → E ≤ g) : Below E w0 w' :=
  ⟨h.os.trans hb.os, h.tape.trans hb.tape, h.output.trans hb.output, Nat.le_trans hb.size h.size, fun k hk => (h.block k (by omega) (by omega) (fun e => by have := h2 k e.symm; omega)).trans (hb.block k hk)⟩
theorem Fr.below_then {w w1 w2 : World} {sb : Nat} {row : Option Nat} (h : Fr w w1 sb row) (hb : Below w1.heap.size w1 w2) : Fr w w2 sb row :=
  ⟨hb.os.trans h.os, hb.tape.trans h.tape, hb.output.trans h.output, Nat.le_trans h.size hb.size, fun k hk h1 h2 => (hb.block k (Nat.lt_of_lt_of_le hk h.size)).trans (h.block k hk h1 h2)⟩
theorem Fr.of_below {w w' : World} {sb : Nat} {row : Option Nat} (h : Below w.heap.size w w') : Fr w w' sb row := ⟨h.os, h.tape, h.output, h.size, fun k hk _ _ => h.block k hk⟩
theorem Fr.trans {w w1 w2 : World} {sb : Nat} {row row' : Option Nat} (h : Fr w w1 sb row) (h' : Fr w1 w2 sb row') (hr : row' = row ∨ ∀ g, row' = some g → w.heap.size ≤ g) : Fr w w2 sb row :=
  ⟨h'.os.trans h.os, h'.tape.trans h.tape, h'.output.trans h.output, Nat.le_trans h.size h'.size, fun k hk h1 h2 => (h'.block k (Nat.lt_of_lt_of_le hk h.size) h1 (fun e => by
    rcases hr with q | q
    · rw [q] at e; exact h2 e
    · have := q k e.symm; omega)).trans (h.block k hk h1 h2)⟩
theorem Fr.set {w : World} {sb : Nat} {row : Option Nat} (j : Nat) (u : Value) : Fr w (w.setCell ⟨sb, j, none⟩ u) sb row := ⟨rfl, rfl, rfl, by simp [World.setCell], fun k _ h1 _ => heap_set _ _ _ _ _ h1⟩
theorem Fr.grown {w w' : World} {sb : Nat} {row : Option Nat} (h : w.grownBy w' row) : Fr w w' sb row := ⟨h.os, h.tape, h.output, h.size, fun k hk _ h2 => h.block k hk h2⟩
theorem bel_trans' {E : Nat} {a b c : World} (h : Below E a b) (k : Below b.heap.size b c) (hE : E ≤ b.heap.size := by omega) : Below E a c := h.trans (k.mono hE)
theorem rec_take {nx : Int → List Int} {xs : List Int} {i : Nat} (hi : i < xs.length) : xs.drop i = xs[i] :: xs.drop (i + 1) := List.drop_eq_getElem_cons hi
theorem OwnI.ne {w : World} {base B : Nat} {v : Value} {xs : List Int} {arr : Array Value} {t : TypeId} {z : Nat × Nat} (h : OwnI w base v xs) (hB : w.heap[B]? = some (Go.Obj.cells arr t z)) (ht : t ≠ 2) : some B ≠ v.ownBlock := own_ne h.r hB ht
theorem OwnI.kept {w w' : World} {base : Nat} {v : Value} {xs : List Int} {row : Option Nat} (h : OwnI w base v xs) (hg : w.grownBy w' row) (hne : v.ownBlock = none ∨ v.ownBlock ≠ row) : OwnI w' base v xs := ⟨h.r.kept hg hne⟩
end Go.Proofs.Ytdnngdkfhemfgaa
