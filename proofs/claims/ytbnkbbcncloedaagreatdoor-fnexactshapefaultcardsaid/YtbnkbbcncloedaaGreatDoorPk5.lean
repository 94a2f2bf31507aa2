/- The packed texts Dp12, Dp13, Dp14, Dp15, Dp16, Ra. -/
import Derived.Test.YtbnkbbcncloedaaGreatDoorRows
import Derived.WalkKit
import Derived.ProofKit
import Derived.OpenShut
import Derived.WalkLawsBesides
import Derived.Below
import Derived.BigQuiet
import Derived.Lib.QuietBelow
import Derived.Lib.AtoiErrMem
import Derived.Deep.OwnRows
import Derived.Deep.DeepCutAuto
import Derived.RangeFuncNested
import Derived.RangeFuncBound
import Derived.RangeFuncCalls
import Derived.RangeFuncLeaves
import Derived.OwnWalkIn
import Derived.TacticsInMore
import Derived.LoopNIn
import Derived.LoopIn
import Derived.Test.YtbnkbbcncloedaaGreatDoorPk1
import Derived.Test.YtbnkbbcncloedaaGreatDoorPk3
import Derived.Test.YtbnkbbcncloedaaGreatDoorPk4
namespace Go.Proofs.YtbnkbbcncloedaaGreatDoor
section
open Go.ChangeShapes Go.WideShapes Go.ChangeAt Go.RowKit

open Go.Sort (grow)

set_option linter.unusedVariables false

set_option linter.unusedSimpArgs false

def inPl (b i : Nat) : List InD → List (Nat × Nat × Int)
  | [] => []
  | d :: r => (b, i, d.ty) :: inPl b (i + 1) r

def blPl (b : Nat) : List (List InD) → List (Nat × Nat × Int)
  | [] => []
  | x :: r => inPl b 0 x ++ blPl (b + 1) r

theorem inPl_drop (b i : Nat) (xs : List InD) (h : i < xs.length) : inPl b i (xs.drop i) = (b, i, (xs[i]).ty) :: inPl b (i + 1) (xs.drop (i + 1)) := by
  rw [List.drop_eq_getElem_cons h]; rfl

theorem inPl_end (b i : Nat) (xs : List InD) (h : xs.length ≤ i) : inPl b i (xs.drop i) = [] := by
  rw [List.drop_eq_nil_of_le h]; rfl

theorem blPl_drop (b : Nat) (xs : List (List InD)) (h : b < xs.length) : blPl b (xs.drop b) = inPl b 0 ((xs[b]).drop 0) ++ blPl (b + 1) (xs.drop (b + 1)) := by
  rw [List.drop_eq_getElem_cons h]; rfl

theorem blPl_end (b : Nat) (xs : List (List InD)) (h : xs.length ≤ b) : blPl b (xs.drop b) = [] := by
  rw [List.drop_eq_nil_of_le h]; rfl

theorem inPl_len (b i : Nat) (xs : List InD) : (inPl b i xs).length = xs.length := by
  induction xs generalizing i with
  | nil => rfl
  | cons d r ih => simp only [inPl, List.length_cons, ih]

theorem blPl_len (b : Nat) (xs : List (List InD)) : ((blPl b xs).length : Int) ≤ blsN xs := by
  induction xs generalizing b with
  | nil => exact Int.le_refl _
  | cons d r ih =>
    have := ih (b + 1)
    have e : blsN (d :: r) = blN d + blsN r := by simp [blsN]
    have n0 := insN_nn d
    unfold blN at e
    simp only [blPl, List.length_append, inPl_len]
    omega
end
section
open Go.ChangeShapes Go.WideShapes Go.ChangeAt Go.RowKit

open Go.Sort (grow)

set_option linter.unusedVariables false

set_option linter.unusedSimpArgs false

structure Own64 (w : World) (v : Value) (n B o : Nat) : Prop where
  s : Sl v n B o
  r : ∃ m, Rw w B m ∧ o + n ≤ m
end
section
open Go.ChangeShapes Go.WideShapes Go.ChangeAt Go.RowKit

open Go.Sort (grow)

set_option linter.unusedVariables false

set_option linter.unusedSimpArgs false
end
section
open Go.ChangeShapes Go.WideShapes Go.ChangeAt Go.RowKit

open Go.Sort (grow)

set_option linter.unusedVariables false

set_option linter.unusedSimpArgs false
end
section
open Go.ChangeShapes Go.WideShapes Go.ChangeAt Go.RowKit

open Go.Sort (grow)

set_option linter.unusedVariables false

set_option linter.unusedSimpArgs false
end
section
open Go.RowKit

set_option linter.unusedVariables false

structure Kd (S : Nat → Prop) (L : Nat) (A B : World) : Prop where
  os : B.os = A.os
  tape : B.tape = A.tape
  output : B.output = A.output
  size : A.heap.size ≤ B.heap.size
  low : ∀ k, S k → B.heap[k]? = A.heap[k]?
  high : ∀ k, L ≤ k → k < A.heap.size → B.heap[k]? = A.heap[k]?

theorem Kd.refl (S : Nat → Prop) (L : Nat) (A : World) : Kd S L A A := ⟨rfl, rfl, rfl, Nat.le_refl _, fun _ _ => rfl, fun _ _ _ => rfl⟩

theorem Kd.trans {S : Nat → Prop} {L : Nat} {A B C : World} (h : Kd S L A B) (k : Kd S L B C) : Kd S L A C :=
  ⟨k.os.trans h.os, k.tape.trans h.tape, k.output.trans h.output, Nat.le_trans h.size k.size, fun j hj => (k.low j hj).trans (h.low j hj), fun j hj hs => (k.high j hj (Nat.lt_of_lt_of_le hs h.size)).trans (h.high j hj hs)⟩

theorem Kd.mono {S T : Nat → Prop} {L M : Nat} {A B : World} (h : Kd S L A B) (h1 : L ≤ M) (h2 : ∀ k, T k → S k ∨ (L ≤ k ∧ k < A.heap.size)) : Kd T M A B :=
  ⟨h.os, h.tape, h.output, h.size, fun j hj => (h2 j hj).elim (h.low j) (fun q => h.high j q.1 q.2), fun j hj hs => h.high j (by omega) hs⟩

theorem Kd.of_below {S : Nat → Prop} {L : Nat} {A B : World} (h : Below A.heap.size A B) (hn : ∀ k, S k → k < A.heap.size) : Kd S L A B := ⟨h.os, h.tape, h.output, h.size, fun j hj => h.block j (hn j hj), fun j _ hs => h.block j hs⟩

theorem Kd.below {S : Nat → Prop} {L n0 : Nat} {A B : World} (h : Kd S L A B) (hn : ∀ k, k < n0 → S k) : Below n0 A B := ⟨h.os, h.tape, h.output, h.size, fun j hj => h.low j (hn j hj)⟩

theorem Kd.grown {S : Nat → Prop} {L : Nat} {A B C : World} {r : Nat} (h : Kd S L A B) (hg : B.grownBy C (some r)) (h0 : ¬ S r) (h1 : r < L) (hs : ∀ k, S k → k < B.heap.size) : Kd S L A C :=
  ⟨hg.os.trans h.os, hg.tape.trans h.tape, hg.output.trans h.output, Nat.le_trans h.size hg.size, fun j hj => (hg.block j (hs j hj) (fun e => by cases e; exact h0 hj)).trans (h.low j hj),
    fun j hj hs' => (hg.block j (Nat.lt_of_lt_of_le hs' h.size) (fun e => by cases e; omega)).trans (h.high j hj hs')⟩

theorem Kd.setCell {S : Nat → Prop} {L : Nat} {A B : World} {p : Addr} (h : Kd S L A B) (h0 : ¬ S p.block) (h1 : p.block < L) (v : Value) : Kd S L A (B.setCell p v) :=
  ⟨h.os, h.tape, h.output, by simpa [World.setCell] using h.size, fun j hj => (Below.heap_setCell B p v j (fun e => h0 (e ▸ hj))).trans (h.low j hj),
    fun j hj hs' => (Below.heap_setCell B p v j (by omega)).trans (h.high j hj hs')⟩

theorem Kd.alloc {S : Nat → Prop} {L : Nat} {A B : World} (h : Kd S L A B) (hn : ∀ k, S k → k < A.heap.size) (o : Obj) : Kd S L A (B.alloc o) :=
  h.trans (Kd.of_below ((Below.refl _ _).alloc (Nat.le_refl _) o) (fun k hk => Nat.lt_of_lt_of_le (hn k hk) h.size))

theorem Kd.cell {S : Nat → Prop} {L : Nat} {A B : World} (h : Kd S L A B) {p : Addr} (hp : S p.block ∨ (L ≤ p.block ∧ p.block < A.heap.size)) : B.cell? p = A.cell? p :=
  World.cell?_of_block (by rcases hp with hp | ⟨h1, h2⟩; exact h.low _ hp; exact h.high _ h1 h2)

theorem Kd.frozen {S : Nat → Prop} {L : Nat} {A B : World} (h : Kd S L A B) {p : Addr} (hp : S p.block ∨ (L ≤ p.block ∧ p.block < A.heap.size)) : B.frozen? p = A.frozen? p :=
  World.frozen?_of_block (by rcases hp with hp | ⟨h1, h2⟩; exact h.low _ hp; exact h.high _ h1 h2)

def AbB {β : Type} (B : Nat) (J : β → World → Prop) : Prop := ∀ s A C, J s A → B ≤ A.heap.size → Below B A C → J s C

theorem AbB.mono {β : Type} {B C : Nat} {J : β → World → Prop} (h : AbB B J) (hb : B ≤ C) : AbB C J := fun s A D hs hA hB => h s A D hs (by omega) (hB.mono hb)

variable {F : Fence} {n : Nat} {P : Program}
end
end Go.Proofs.YtbnkbbcncloedaaGreatDoor
