/- What a run may stand for, as a relation; a row that came in. -/
import Derived.Test.YtbacbigcecmfbaaDr4
import Derived.ShutString
import Derived.ChangeOld
import Derived.Laws.BitsAllLaws
namespace Go.Proofs.Ytbacbigcecmfbaa
open Go.ChangeShapes Go.WideShapes Go.ChangeAt Go.RowKit
open Go.Sort (grow)
set_option linter.unusedVariables false
set_option linter.unusedSimpArgs false
/-- What a walk is told of a slice of integers that came in. -/
def IsRow (k : IntKind) (w : World) (a : Option Addr) (len cap : Nat) (zs : List Int) : Prop :=
  (a = none ∧ len = 0 ∧ cap = 0 ∧ zs = []) ∨
  ∃ x, a = some x ∧ len ≤ cap ∧ cap ≤ maxLen ∧ zs.length = cap ∧ (∀ i, i < zs.length → w.cell? (x.add i) = some (.int k (zs.getD i 0))) ∧ ∀ n ∈ zs, (Lit.int k n).wf = true
theorem IsRow.ints {w : World} {a : Option Addr} {len cap : Nat} {zs : List Int} (h : IsRow .u8 w a len cap zs) (hl : len ≤ 1048576) :
    ∃ xs, xs.length = len ∧ Ints 0 .u8 w (.slice a len cap) xs ∧ ∀ i (h : i < xs.length), 0 ≤ xs[i] ∧ xs[i] < 256 := by
  rcases h with ⟨rfl, rfl, rfl, rfl⟩ | ⟨x, rfl, h1, h2, h3, h4, h5⟩
  · exact ⟨[], rfl, ⟨0, 0, ⟨⟨none, 0, rfl, Nat.le_refl _, fun h => absurd h (by simp)⟩, by simp⟩, Nat.le_refl _, fun i hi => by simp at hi⟩, fun i hi => by simp at hi⟩
  · have hlen : (zs.take len).length = len := by simp; omega
    obtain ⟨b, o, sp⟩ := x
    have hq : ∀ i (hi : i < (zs.take len).length), w.cell? (Addr.add ⟨b, o, sp⟩ i) = some (.int .u8 (zs.take len)[i]) := fun i hi => by
      rw [h4 i (by omega), List.getElem_take]
      congr 2
      simp [List.getD, List.getElem?_eq_getElem (show i < zs.length by omega)]
    refine ⟨zs.take len, hlen, ⟨b, o, ⟨⟨some ⟨b, o, sp⟩, cap, by rw [hlen], by omega, fun h0 => ?_⟩, by omega⟩, Nat.zero_le _, fun i hi => ?_⟩, fun i hi => ?_⟩
    · have := hq 0 h0
      have hs : sp = none := by simpa [Addr.add] using World.cell?_spot this
      rw [hs]
    · have h0 := hq 0 (by omega)
      have hs : sp = none := by simpa [Addr.add] using World.cell?_spot h0
      subst hs
      have := hq i hi
      rwa [Go.WideShapes.add_plain] at this
    · rw [List.getElem_take]
      have := h5 _ (List.getElem_mem (show i < zs.length by omega))
      simp [Lit.wf, IntKind.min, IntKind.max, IntKind.bits, IntKind.signed] at this
      omega
theorem begB_refl (xs : List Int) : begB xs xs = true := by simp [begB]
theorem refB_refl (e : Int) (p : Bool) (o x : Int) (xs : List Int) : refB e p o x xs e p o x xs = true := by
  unfold refB
  split
  · rfl
  · split
    · simp [begB_refl]
    · simp [mayB]
theorem refB_trans {e : Int} {p : Bool} {o x : Int} {xs : List Int} {e' : Int} {p' : Bool} {o' x' : Int} {ys : List Int} {e2 : Int} {p2 : Bool} {o2 x2 : Int} {zs : List Int}
    (hd : (e' = 0 ∧ p' = false ∧ o' = 0) ∨ e' = 1) (h : refB e p o x xs e' p' o' x' ys = true) (k : refB e' p' o' x' ys e2 p2 o2 x2 zs = true) : refB e p o x xs e2 p2 o2 x2 zs = true := by
  have he : e' ≠ 7 ∧ ¬ (2 ≤ e' ∧ e' ≤ 6) := by omega
  unfold refB at k
  rw [if_neg he.1, if_neg he.2] at k
  simp only [Bool.and_eq_true, decide_eq_true_eq] at k
  obtain ⟨⟨k1, rfl⟩, k3⟩ := k
  unfold refB at h ⊢
  split
  · rfl
  · rename_i h7
    rw [if_neg h7] at h
    split
    · rename_i hm
      rw [if_pos hm] at h
      exact h
    · rename_i hm
      rw [if_neg hm] at h
      simp only [Bool.and_eq_true, decide_eq_true_eq] at h ⊢
      obtain ⟨⟨h1, h2⟩, h3⟩ := h
      refine ⟨⟨h1.trans k1, h2⟩, ?_⟩
      unfold mayB at *
      simp only [Bool.or_eq_true, bne_iff_ne, ne_eq, Bool.and_eq_true, beq_iff_eq] at *
      rcases h3 with (h3 | h3) | ⟨⟨h3, h4⟩, h5⟩
      · exact .inl (.inl h3)
      · exact .inl (.inr h3)
      · subst h3; subst h4; subst h5
        rcases k3 with (k3 | k3) | ⟨⟨k3, k4⟩, k5⟩
        · exact .inl (.inl k3)
        · exact .inl (.inr k3)
        · exact .inr ⟨⟨k3, k4⟩, k5⟩
theorem refB_other (x : Int) (xs : List Int) : refB 0 false 0 x xs 0 false 0 x (xs ++ [5]) = false := by
  unfold refB
  rw [if_neg (by decide), if_neg (by decide)]
  have : decide (xs = xs ++ [5]) = false := decide_eq_false (fun h => by simpa using congrArg List.length h)
  rw [this]
  simp
theorem refB_third (x : Int) (xs : List Int) : refB 0 false 0 x xs 0 false 0 (x + 1) xs = false := by
  unfold refB
  rw [if_neg (by decide), if_neg (by decide)]
  simp [mayB]
  omega
end Go.Proofs.Ytbacbigcecmfbaa
