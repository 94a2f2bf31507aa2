/- A range over a function that keeps state of its own in memory: what an iterator owes, told round by round over the list that it goes through; and the law of the loop. -/
import Derived.Test.YtbfpfjkjeekbdaaRows
import Derived.RangeFuncNested
import Derived.RangeFuncBound
import Derived.RangeFuncCalls
import Derived.RangeFuncLeaves
import Derived.WalkKit
import Derived.OwnWalkIn
import Derived.TacticsInMore
import Derived.LoopNIn
import Derived.LoopIn
namespace Go.Proofs.Ytbfpfjkjeekbdaa
open Go.RowKit
set_option linter.unusedVariables false
/-- Of the blocks of a set and of those from L on, whatever lay lies as it lay. -/
structure Kd (S : Nat → Prop) (L : Nat) (A B : World) : Prop where
  os : B.os = A.os
  tape : B.tape = A.tape
  output : B.output = A.output
  size : A.heap.size ≤ B.heap.size
  low : ∀ k, S k → B.heap[k]? = A.heap[k]?
  high : ∀ k, L ≤ k → k < A.heap.size → B.heap[k]? = A.heap[k]?
theorem Kd.refl (S : Nat → Prop) (L : Nat) (A : World) : Kd S L A A := ⟨rfl, rfl, rfl, Nat.le_refl _, fun _ _ => rfl, fun _ _ _ => rfl⟩
theorem Kd.trans {S : Nat → Prop} {L : Nat} {A B C : World} (h : Kd S L A B) (k : Kd S L B C) : Kd S L A C :=
  ⟨k.os.trans h.os, k.tape.trans h.tape, k.output.trans h.output, Nat.le_trans h.size k.size, fun j hj => (k.low j hj).trans (h.low j hj), fun j hj hs => (k.high j hj (Nat.lt_of_lt_of_le hs h.size)).trans (h.high j hj hs)⟩
/-- A smaller set, fewer blocks behind. -/
theorem Kd.mono {S T : Nat → Prop} {L M : Nat} {A B : World} (h : Kd S L A B) (h1 : L ≤ M) (h2 : ∀ k, T k → S k ∨ (L ≤ k ∧ k < A.heap.size)) : Kd T M A B :=
  ⟨h.os, h.tape, h.output, h.size, fun j hj => (h2 j hj).elim (h.low j) (fun q => h.high j q.1 q.2), fun j hj hs => h.high j (by omega) hs⟩
theorem Kd.of_below {S : Nat → Prop} {L : Nat} {A B : World} (h : Below A.heap.size A B) (hn : ∀ k, S k → k < A.heap.size) : Kd S L A B := ⟨h.os, h.tape, h.output, h.size, fun j hj => h.block j (hn j hj), fun j _ hs => h.block j hs⟩
theorem Kd.below {S : Nat → Prop} {L n0 : Nat} {A B : World} (h : Kd S L A B) (hn : ∀ k, k < n0 → S k) : Below n0 A B := ⟨h.os, h.tape, h.output, h.size, fun j hj => h.low j (hn j hj)⟩
theorem Kd.grown {S : Nat → Prop} {L : Nat} {A B C : World} {r : Nat} (h : Kd S L A B) (hg : B.grownBy C (some r)) (h0 : ¬ S r) (h1 : r < L) (hs : ∀ k, S k → k < B.heap.size) : Kd S L A C :=
  ⟨hg.os.trans h.os, hg.tape.trans h.tape, hg.output.trans h.output, Nat.le_trans h.size hg.size, fun j hj => (hg.block j (hs j hj) (fun e => by cases e; exact h0 hj)).trans (h.low j hj),
    fun j hj hs' => (hg.block j (Nat.lt_of_lt_of_le hs' h.size) (fun e => by cases e; omega)).trans (h.high j hj hs')⟩
theorem Kd.setCell {S : Nat → Prop} {L : Nat} {A B : World} {p : Addr} (h : Kd S L A B) (h0 : ¬ S p.block) (h1 : p.block < L) (v : Value) : Kd S L A (B.setCell p v) :=
  ⟨h.os, h.tape, h.output, by simpa [World.setCell] using h.size, fun j hj => (Below.heap_setCell B p v j (fun e => h0 (e ▸ hj))).trans (h.low j hj),
    fun j hj hs' => (Below.heap_setCell B p v j (by omega)).trans (h.high j hj hs')⟩
/-- A block that is new since A may turn. -/
theorem Kd.setNew {S : Nat → Prop} {L : Nat} {A B : World} {p : Addr} (h : Kd S L A B) (h0 : A.heap.size ≤ p.block) (hn : ∀ k, S k → k < A.heap.size) (v : Value) : Kd S L A (B.setCell p v) :=
  ⟨h.os, h.tape, h.output, by simpa [World.setCell] using h.size, fun j hj => (Below.heap_setCell B p v j (by have := hn j hj; omega)).trans (h.low j hj),
    fun j hj hs' => (Below.heap_setCell B p v j (by omega)).trans (h.high j hj hs')⟩
theorem Kd.alloc {S : Nat → Prop} {L : Nat} {A B : World} (h : Kd S L A B) (hn : ∀ k, S k → k < A.heap.size) (o : Obj) : Kd S L A (B.alloc o) :=
  h.trans (Kd.of_below ((Below.refl _ _).alloc (Nat.le_refl _) o) (fun k hk => Nat.lt_of_lt_of_le (hn k hk) h.size))
theorem Kd.cell {S : Nat → Prop} {L : Nat} {A B : World} (h : Kd S L A B) {p : Addr} (hp : S p.block ∨ (L ≤ p.block ∧ p.block < A.heap.size)) : B.cell? p = A.cell? p :=
  World.cell?_of_block (by rcases hp with hp | ⟨h1, h2⟩; exact h.low _ hp; exact h.high _ h1 h2)
theorem Kd.frozen {S : Nat → Prop} {L : Nat} {A B : World} (h : Kd S L A B) {p : Addr} (hp : S p.block ∨ (L ≤ p.block ∧ p.block < A.heap.size)) : B.frozen? p = A.frozen? p :=
  World.frozen?_of_block (by rcases hp with hp | ⟨h1, h2⟩; exact h.low _ hp; exact h.high _ h1 h2)
/-- What speaks of blocks ahead of B alone. -/
def AbB {β : Type} (B : Nat) (J : β → World → Prop) : Prop := ∀ s A C, J s A → B ≤ A.heap.size → Below B A C → J s C
theorem AbB.mono {β : Type} {B C : Nat} {J : β → World → Prop} (h : AbB B J) (hb : B ≤ C) : AbB C J := fun s A D hs hA hB => h s A D hs (by omega) (hB.mono hb)
/-- WHAT AN ITERATOR OWES that goes through L: round by round, at whatever rounds keep the blocks from the call's own first one on. -/
def SeqL {α : Type} (F : Fence) (n : Nat) (P : Program) (g : Nat) (lb : Array Value) (encs : α → Array Value) (S : Nat → Prop) (L : List α) (w : World) : Prop :=
  ∀ (l : Nat) (J Jx : Nat → World → Prop) (W : World), Below w.heap.size w W → AbB W.heap.size J → AbB W.heap.size Jx →
    (∀ k (hk : k < L.length) W1, J k W1 → W.heap.size ≤ W1.heap.size → YieldAt F (n - 1) P l (encs L[k]) W1 fun e W' =>
      (e = .returned (.bool true) ∧ J (k + 1) W' ∧ Kd S W.heap.size W1 W') ∨ (e = .returned (.bool false) ∧ Jx (k + 1) W' ∧ Kd S W.heap.size W1 W')) →
    J 0 W →
    CallsIn F n P g (#[.func (.yield l) #[] #[]] ++ lb) W fun e W' => (∃ v, e = .returned v) ∧ (J L.length W' ∨ ∃ k, k < L.length ∧ Jx (k + 1) W')
/-- How the body of a round may be left. -/
def postL (S : Nat → Prop) (L : Nat) (I : Nat → World → Prop) (Ix : Code → Nat → World → Prop) (k : Nat) (W : World) : Exit → Act → World → Prop
  | .normal, _, W' => Kd S L W W' ∧ I k W'
  | .ret, _, W' => Kd S L W W' ∧ Ix .ret k W'
  | .exit id, _, W' => Kd S L W W' ∧ Ix (.exit id) k W'
  | .goto t, _, W' => Kd S L W W' ∧ Ix (.goto t) k W'
  | .panic _, _, _ => False
  | .outgrown, _, _ => False
theorem AbB.putObj {β : Type} {B : Nat} {I : β → World → Prop} (h : AbB B I) {s : β} {W : World} {l : Nat} (o' : Obj) (hs : I s W) (hB : B ≤ l) (hW : B ≤ W.heap.size) : I s (W.putObj l o') :=
  h s W _ hs hW ((Below.refl B W).grown (grownBy_putObj' W l o') hW (fun k e => by cases e; exact hB))
theorem Kd.putObj {S : Nat → Prop} {L l : Nat} (W : World) (o' : Obj) (h0 : ¬ S l) (h1 : l < L) (hs : ∀ k, S k → k < W.heap.size) : Kd S L W (W.putObj l o') := (Kd.refl S L W).grown (grownBy_putObj' W l o') h0 h1 hs
variable {F : Fence} {n : Nat} {P : Program}
/-- THE LAW OF THE LOOP. -/
theorem wpIn_rangeL {α : Type} {g : Operand} {ps : Array Tmp} {assign body : Code} {Q : Exit → Act → World → Prop} {a : Act} {w : World}
    (hro : F.round = none) (h1 : 1 ≤ n) {gf : Nat} {lb : Array Value} (hg : a.eval g = .func (.func gf) #[] lb) (hFg : F.fn gf) (eg : ∀ args w, (callFunc gf args).run P w = .ok (.enter gf args) w)
    {encs : α → Array Value} {S : Nat → Prop} {L : List α} {w0 : World} (hseq : SeqL F (n - 1) P gf lb encs S L w0) (hb0 : Below w0.heap.size w0 w) (hn0 : ∀ k, S k → k < w.heap.size) (hps : ∀ x, (encs x).size = ps.size)
    (I : Nat → World → Prop) (Ix : Code → Nat → World → Prop) (hI : AbB w.heap.size I) (hIx : ∀ c, AbB w.heap.size (Ix c)) (h0 : I 0 w) (Ax : α → Act → World → Prop) (hAx : ∀ x a', OwnFrom w.heap.size (fun (_ : Unit) W => Ax x a' W))
    (hassign : ∀ (l k : Nat) (hk : k < L.length) (W : World) (K : Act → World → Prop), I k W → w.heap.size ≤ W.heap.size → (∀ a' W', Below W.heap.size W W' → Ax L[k] a' W' → K a' W') →
      assign.wpIn (F.inRound l) (n - 1 - 1) P (Exit.then K (fun _ _ _ => False)) { tmps := (ps.zip (encs L[k])).foldl (fun t (p, v) => t.setIfInBounds p v) a.tmps, defers := [] } W)
    (hbody : ∀ (l k : Nat) (hk : k < L.length) (a' : Act) (W : World), w.heap.size ≤ W.heap.size → I k W → Ax L[k] a' W → body.wpIn (F.inRound l) (n - 1 - 1) P (postL S w.heap.size I Ix (k + 1) W) a' W)
    (hdone : ∀ (D : Nat) (W : World), w.heap.size ≤ D → I L.length W → W.heap[D]? = some (.deferred (some [])) → Q .normal { a with defers := { target := .collected D, args := #[] } :: a.defers } W)
    (hstop : ∀ (D : Nat) (c : Code) (k : Nat) (W : World), w.heap.size ≤ D → k < L.length → Ix c (k + 1) W → W.heap[D]? = some (.deferred (some [])) → c.wpIn F n P Q { a with defers := { target := .collected D, args := #[] } :: a.defers } W) :
    (Code.rangeFunc g ps assign body).wpIn F n P Q a w := by
  refine wpIn_rangeFunc ?_
  intro fn hfn
  rw [hro]
  obtain ⟨rec, hrec⟩ : ∃ rec : LoopState → Option Code → Loop, rec = fun st pe => { state := st, pending := pe, fn, tmps := a.tmps, params := ps, assign, body, defers := w.heap.size } := ⟨_, rfl⟩
  obtain ⟨W1, hW1⟩ : ∃ W1, (w.alloc (.deferred (some []))).alloc (.loop (rec .ready none)) = W1 := ⟨_, rfl⟩
  have hs1 : W1.heap.size = w.heap.size + 2 := by rw [← hW1]; simp
  have hL1 : W1.heap[w.heap.size + 1]? = some (.loop (rec .ready none)) := by
    rw [← hW1]; have := World.alloc_heap_new (w.alloc (.deferred (some []))) (.loop (rec .ready none)); rwa [World.size_alloc] at this
  have hK1 : W1.heap[w.heap.size]? = some (.deferred (some [])) := by
    rw [← hW1]; exact (Below.heap_alloc _ _ _ (by simp)).trans (World.alloc_heap_new w _)
  have hbb : Below w.heap.size w W1 := by rw [← hW1]; exact ((Below.refl _ w).alloc (Nat.le_refl _) _).alloc (by simp) _
  have hI1 : I 0 W1 := hI 0 w W1 h0 (Nat.le_refl _) hbb
  have hb1 : Below w0.heap.size w0 W1 := hb0.trans (hbb.mono hb0.size)
  refine ⟨w.heap.size + 1, [{ target := .collected w.heap.size, args := #[] }], W1, { target := .fn (.func gf) lb, args := #[.func (.yield (w.heap.size + 1)) #[] #[]] }, W1, gf,
    #[.func (.yield (w.heap.size + 1)) #[] #[]] ++ lb, W1, ?_, ?_, ?_, ?_, fun _ => h1, ?_⟩
  · rw [← hW1, hrec]; exact run_enterLoop_outer _ _ _ _ _
  · simp only [resolve, hg]
    simp [go_sem]
  · intro f' hf'; simp [Target.leads] at hf'; subst hf'; exact hFg
  · simp [invoke, go_sem, eg]
  · have hlo : ∀ {A C : World} {k : Nat}, Below W1.heap.size A C → k < W1.heap.size → C.heap[k]? = A.heap[k]? := fun hB hk => hB.block _ hk
    refine (hseq (w.heap.size + 1)
      (fun k W => I k W ∧ W.heap[w.heap.size + 1]? = some (.loop (rec .ready none)) ∧ W.heap[w.heap.size]? = some (.deferred (some [])))
      (fun k W => ∃ c, Ix c k W ∧ W.heap[w.heap.size + 1]? = some (.loop (rec .done (some c))) ∧ W.heap[w.heap.size]? = some (.deferred (some [])))
      W1 hb1
      (fun s A C hs hA hB => ⟨hI s A C hs.1 (by omega) (hB.mono (by omega)), (hlo hB (by omega)).trans hs.2.1, (hlo hB (by omega)).trans hs.2.2⟩)
      (fun s A C hs hA hB => by
        obtain ⟨c, hc, hl, hk⟩ := hs
        exact ⟨c, hIx c s A C hc (by omega) (hB.mono (by omega)), (hlo hB (by omega)).trans hl, (hlo hB (by omega)).trans hk⟩)
      ?_ ⟨hI1, hL1, hK1⟩).mono ?_
    · -- ONE ROUND
      rintro k hkL W ⟨hi, hl, hk⟩ hWs
      have hlt : w.heap.size + 1 < W.heap.size := (Array.getElem?_eq_some_iff.1 hl).1
      have hy := run_yield (P := P) (args := encs L[k]) hl (by rw [hrec]; exact hps _)
      rw [hrec] at hy
      refine ⟨fn, _, assign, body, hy, roundIn_of_wpIn hfn (hassign _ k hkL W _ hi (by omega) ?_)⟩
      clear hy
      intro a' Wa hBa hax
      have hla := (hBa.block (w.heap.size + 1) hlt).trans hl
      have hka := (hBa.block w.heap.size (by omega)).trans hk
      have hlta : w.heap.size + 1 < Wa.heap.size := (Array.getElem?_eq_some_iff.1 hla).1
      have hia : I k Wa := hI k W Wa hi (by omega) (hBa.mono (by omega))
      have hkda : Kd S W1.heap.size W Wa := Kd.of_below hBa (fun k hk => by have := hn0 k hk; omega)
      refine ⟨_, run_beginRound hla (by rw [hrec]), ?_⟩
      have hl2 : (Wa.putObj (w.heap.size + 1) (.loop { rec .ready none with state := .busy })).heap[w.heap.size + 1]? = some (.loop { rec .ready none with state := .busy }) := World.putObj_heap_same hlta
      have hk2 : (Wa.putObj (w.heap.size + 1) (.loop { rec .ready none with state := .busy })).heap[w.heap.size]? = some (.deferred (some [])) := (World.putObj_heap_other (by omega)).trans hka
      have hw2 : Kd S W1.heap.size Wa (Wa.putObj (w.heap.size + 1) (.loop { rec .ready none with state := .busy })) := Kd.putObj _ _ (fun h => by have := hn0 _ h; omega) (by omega) (fun k hk => by have := hn0 k hk; omega)
      refine wpIn_mono (hbody (w.heap.size + 1) k hkL a' _ (by simp; omega) (hI.putObj _ hia (by omega) (by omega)) ((hAx _ a').putObj (s := ()) _ hax (by omega) hla rfl)) ?_
      have fin : ∀ (jump : Option Code) (W3 : World), Kd S w.heap.size (Wa.putObj (w.heap.size + 1) (.loop { rec .ready none with state := .busy })) W3 →
          (Instr.endRound (w.heap.size + 1) jump).run P W3 = .ok (.bool jump.isNone) (W3.putObj (w.heap.size + 1) (.loop (rec (if jump.isNone then .ready else .done) jump))) ∧
          W3.heap[w.heap.size + 1]? = some (.loop { rec .ready none with state := .busy }) ∧
          (W3.putObj (w.heap.size + 1) (.loop (rec (if jump.isNone then .ready else .done) jump))).heap[w.heap.size + 1]? = some (.loop (rec (if jump.isNone then .ready else .done) jump)) ∧
          (W3.putObj (w.heap.size + 1) (.loop (rec (if jump.isNone then .ready else .done) jump))).heap[w.heap.size]? = some (.deferred (some [])) ∧
          Kd S W1.heap.size W (W3.putObj (w.heap.size + 1) (.loop (rec (if jump.isNone then .ready else .done) jump))) ∧ w.heap.size ≤ W3.heap.size := fun jump W3 hk3 => by
        have hl3 := (hk3.high (w.heap.size + 1) (by omega) (by simp; omega)).trans hl2
        have hs3 := hk3.size
        simp only [World.putObj_size] at hs3
        have := run_endRound (P := P) jump hl3
        rw [hrec] at this ⊢
        exact ⟨this, by rw [hrec] at hl3; exact hl3, World.putObj_heap_same (Array.getElem?_eq_some_iff.1 hl3).1, (World.putObj_heap_other (by omega)).trans ((hk3.high w.heap.size (Nat.le_refl _) (by simp; omega)).trans hk2),
          ((hkda.trans hw2).trans (by rw [hrec] at hk3 ⊢; exact hk3.mono (by omega) (fun _ h => .inl h))).trans (Kd.putObj _ _ (fun h => by have := hn0 _ h; omega) (by omega) (fun k hk => by have := hn0 k hk; omega)), by omega⟩
      rintro e a3 W3 hp
      cases e with
      | normal =>
        obtain ⟨hk3, hi3⟩ := hp
        obtain ⟨hr, hl3, hl4, hk4, hd4, hz⟩ := fin none W3 hk3
        exact ⟨_, _, hr, .inl ⟨rfl, ⟨hI.putObj _ hi3 (by omega) hz, hl4, hk4⟩, hd4⟩⟩
      | ret =>
        obtain ⟨hk3, hi3⟩ := hp
        obtain ⟨hr, hl3, hl4, hk4, hd4, hz⟩ := fin (some .ret) W3 hk3
        exact ⟨_, _, hr, .inr ⟨rfl, ⟨.ret, (hIx _).putObj _ hi3 (by omega) hz, hl4, hk4⟩, hd4⟩⟩
      | exit id =>
        obtain ⟨hk3, hi3⟩ := hp
        obtain ⟨hr, hl3, hl4, hk4, hd4, hz⟩ := fin (some (.exit id)) W3 hk3
        exact ⟨_, _, hr, .inr ⟨rfl, ⟨.exit id, (hIx _).putObj _ hi3 (by omega) hz, hl4, hk4⟩, hd4⟩⟩
      | goto t =>
        obtain ⟨hk3, hi3⟩ := hp
        obtain ⟨hr, hl3, hl4, hk4, hd4, hz⟩ := fin (some (.goto t)) W3 hk3
        exact ⟨_, _, hr, .inr ⟨rfl, ⟨.goto t, (hIx _).putObj _ hi3 (by omega) hz, hl4, hk4⟩, hd4⟩⟩
      | panic ch => exact hp.elim
      | outgrown => exact hp.elim
    · -- BEHIND THE ITERATOR
      rintro e W2 ⟨⟨v, rfl⟩, (⟨hi, hl, hk⟩ | ⟨k, hkL, c, hi, hl, hk⟩)⟩
      · have hz := (Array.getElem?_eq_some_iff.1 hk).1
        exact ⟨none, _, by have := run_endLoop (P := P) hl (by rw [hrec]; simp); rw [hrec] at this; exact this, hdone _ _ (Nat.le_refl _) (hI.putObj _ hi (by omega) (by omega)) ((World.putObj_heap_other (by omega)).trans hk)⟩
      · have hz := (Array.getElem?_eq_some_iff.1 hk).1
        exact ⟨some c, _, by have := run_endLoop (P := P) hl (by rw [hrec]; simp); rw [hrec] at this; exact this, hstop _ c k _ (Nat.le_refl _) hkL ((hIx c).putObj _ hi (by omega) (by omega)) ((World.putObj_heap_other (by omega)).trans hk)⟩
end Go.Proofs.Ytbfpfjkjeekbdaa
namespace Go.Proofs.Ytbfpfjkjeekbdaa
open Go.RowKit
set_option linter.unusedVariables false
/-- But for the blocks of T, of those of a set and of those from L on, whatever lay lies as it lay. -/
structure KdT (S T : Nat → Prop) (L : Nat) (A B : World) : Prop where
  os : B.os = A.os
  tape : B.tape = A.tape
  output : B.output = A.output
  size : A.heap.size ≤ B.heap.size
  low : ∀ k, S k → B.heap[k]? = A.heap[k]?
  high : ∀ k, L ≤ k → k < A.heap.size → ¬ T k → B.heap[k]? = A.heap[k]?
theorem KdT.refl (S T : Nat → Prop) (L : Nat) (A : World) : KdT S T L A A := ⟨rfl, rfl, rfl, Nat.le_refl _, fun _ _ => rfl, fun _ _ _ _ => rfl⟩
/-- T' is T, or new. -/
def Grew (T T' : Nat → Prop) (A : World) : Prop := ∀ b, T' b → T b ∨ A.heap.size ≤ b
theorem KdT.trans {S T T' : Nat → Prop} {L : Nat} {A B C : World} (h : KdT S T L A B) (k : KdT S T' L B C) (g : Grew T T' A) : KdT S T L A C :=
  ⟨k.os.trans h.os, k.tape.trans h.tape, k.output.trans h.output, Nat.le_trans h.size k.size, fun j hj => (k.low j hj).trans (h.low j hj), fun j hj hs hT => (k.high j hj (Nat.lt_of_lt_of_le hs h.size) (fun q => by
    rcases g j q with q | q
    · exact hT q
    · omega)).trans (h.high j hj hs hT)⟩
theorem KdT.mono {S S' T : Nat → Prop} {L M : Nat} {A B : World} (h : KdT S T L A B) (h1 : L ≤ M) (h2 : ∀ k, S' k → S k) : KdT S' T M A B :=
  ⟨h.os, h.tape, h.output, h.size, fun j hj => h.low j (h2 j hj), fun j hj hs => h.high j (by omega) hs⟩
theorem KdT.of_below {S T : Nat → Prop} {L : Nat} {A B : World} (h : Below A.heap.size A B) (hn : ∀ k, S k → k < A.heap.size) : KdT S T L A B := ⟨h.os, h.tape, h.output, h.size, fun j hj => h.block j (hn j hj), fun j _ hs _ => h.block j hs⟩
theorem KdT.putObj {S T : Nat → Prop} {L l : Nat} (W : World) (o' : Obj) (h0 : ¬ S l) (h1 : l < L) (hs : ∀ k, S k → k < W.heap.size) : KdT S T L W (W.putObj l o') := by
  have hg := grownBy_putObj' W l o'
  exact ⟨hg.os, hg.tape, hg.output, hg.size, fun j hj => hg.block j (hs j hj) (fun e => by cases e; exact h0 hj), fun j hj hs' _ => hg.block j hs' (fun e => by cases e; omega)⟩
/-- Of the blocks ahead of B, and of those of T, whatever lay lies. -/
structure Kept (B : Nat) (T : Nat → Prop) (A C : World) : Prop where
  os : C.os = A.os
  tape : C.tape = A.tape
  output : C.output = A.output
  size : A.heap.size ≤ C.heap.size
  low : ∀ k, k < B → C.heap[k]? = A.heap[k]?
  mine : ∀ k, T k → C.heap[k]? = A.heap[k]?
/-- What speaks of blocks ahead of B, and of those of its own set, alone. -/
structure AbF {β : Type} (B : Nat) (J : β → (Nat → Prop) → World → Prop) : Prop where
  ab : ∀ s T A C, J s T A → B ≤ A.heap.size → Kept B T A C → J s T C
  lt : ∀ s T A, J s T A → ∀ b, T b → b < A.heap.size
theorem Kept.of_below {B : Nat} {T : Nat → Prop} {A C : World} (h : Below A.heap.size A C) (hB : B ≤ A.heap.size) (hT : ∀ b, T b → b < A.heap.size) : Kept B T A C :=
  ⟨h.os, h.tape, h.output, h.size, fun k hk => h.block k (by omega), fun k hk => h.block k (hT k hk)⟩
theorem Kept.putObj {B l : Nat} {T : Nat → Prop} (W : World) (o' : Obj) (hB : B ≤ l) (hT : ¬ T l) (hl : ∀ b, T b → b < W.heap.size) (hs : B ≤ W.heap.size) : Kept B T W (W.putObj l o') := by
  have hg := grownBy_putObj' W l o'
  exact ⟨hg.os, hg.tape, hg.output, hg.size, fun k hk => hg.block k (by omega) (fun e => by cases e; omega), fun k hk => hg.block k (hl k hk) (fun e => by cases e; exact hT hk)⟩
/-- WHAT AN ITERATOR OWES that goes through L, at whatever rounds that turn no more than blocks of their own. -/
def SeqF {α : Type} (F : Fence) (n : Nat) (P : Program) (g : Nat) (lb : Array Value) (encs : α → Array Value) (S : Nat → Prop) (L : List α) (w : World) : Prop :=
  ∀ (l : Nat) (J Jx : Nat → (Nat → Prop) → World → Prop) (W : World) (T0 : Nat → Prop), Below w.heap.size w W → AbF W.heap.size J → AbF W.heap.size Jx →
    (∀ k (hk : k < L.length) T W1, J k T W1 → W.heap.size ≤ W1.heap.size → YieldAt F (n - 1) P l (encs L[k]) W1 fun e W' =>
      ∃ T', Grew T T' W1 ∧ KdT S T W.heap.size W1 W' ∧ ((e = .returned (.bool true) ∧ J (k + 1) T' W') ∨ (e = .returned (.bool false) ∧ Jx (k + 1) T' W'))) →
    J 0 T0 W →
    CallsIn F n P g (#[.func (.yield l) #[] #[]] ++ lb) W fun e W' => (∃ v, e = .returned v) ∧ ∃ T, J L.length T W' ∨ ∃ k, k < L.length ∧ Jx (k + 1) T W'
/-- How the body of a round may be left. -/
def postF (S : Nat → Prop) (L : Nat) (I : Nat → (Nat → Prop) → World → Prop) (Ix : Code → Nat → (Nat → Prop) → World → Prop) (k : Nat) (T : Nat → Prop) (W : World) : Exit → Act → World → Prop
  | .normal, _, W' => ∃ T', Grew T T' W ∧ KdT S T L W W' ∧ I k T' W'
  | .ret, _, W' => ∃ T', Grew T T' W ∧ KdT S T L W W' ∧ Ix .ret k T' W'
  | .exit id, _, W' => ∃ T', Grew T T' W ∧ KdT S T L W W' ∧ Ix (.exit id) k T' W'
  | .goto t, _, W' => ∃ T', Grew T T' W ∧ KdT S T L W W' ∧ Ix (.goto t) k T' W'
  | .panic _, _, _ => False
  | .outgrown, _, _ => False
variable {F : Fence} {n : Nat} {P : Program}
/-- THE LAW OF THE LOOP. -/
theorem wpIn_rangeF {α : Type} {g : Operand} {ps : Array Tmp} {assign body : Code} {Q : Exit → Act → World → Prop} {a : Act} {w : World}
    (hro : F.round = none) (h1 : 1 ≤ n) {gf : Nat} {lb : Array Value} (hg : a.eval g = .func (.func gf) #[] lb) (hFg : F.fn gf) (eg : ∀ args w, (callFunc gf args).run P w = .ok (.enter gf args) w)
    {encs : α → Array Value} {S : Nat → Prop} {L : List α} {w0 : World} (hseq : SeqF F (n - 1) P gf lb encs S L w0) (hb0 : Below w0.heap.size w0 w) (hn0 : ∀ k, S k → k < w.heap.size) (hps : ∀ x, (encs x).size = ps.size)
    (I : Nat → (Nat → Prop) → World → Prop) (Ix : Code → Nat → (Nat → Prop) → World → Prop) (hI : AbF w.heap.size I) (hIx : ∀ c, AbF w.heap.size (Ix c)) (T0 : Nat → Prop) (h0 : I 0 T0 w) (Ax : α → Act → World → Prop) (hAx : ∀ x a', OwnFrom w.heap.size (fun (_ : Unit) W => Ax x a' W))
    (hassign : ∀ (l k : Nat) (hk : k < L.length) (W : World) (K : Act → World → Prop), w.heap.size ≤ W.heap.size → (∀ a' W', Below W.heap.size W W' → Ax L[k] a' W' → K a' W') →
      assign.wpIn (F.inRound l) (n - 1 - 1) P (Exit.then K (fun _ _ _ => False)) { tmps := (ps.zip (encs L[k])).foldl (fun t (p, v) => t.setIfInBounds p v) a.tmps, defers := [] } W)
    (hbody : ∀ (l k : Nat) (hk : k < L.length) (a' : Act) (T : Nat → Prop) (W : World), w.heap.size ≤ W.heap.size → I k T W → Ax L[k] a' W → body.wpIn (F.inRound l) (n - 1 - 1) P (postF S w.heap.size I Ix (k + 1) T W) a' W)
    (hdone : ∀ (D : Nat) (T : Nat → Prop) (W : World), w.heap.size ≤ D → I L.length T W → W.heap[D]? = some (.deferred (some [])) → ¬ T D → Q .normal { a with defers := { target := .collected D, args := #[] } :: a.defers } W)
    (hstop : ∀ (D : Nat) (c : Code) (k : Nat) (T : Nat → Prop) (W : World), w.heap.size ≤ D → k < L.length → Ix c (k + 1) T W → W.heap[D]? = some (.deferred (some [])) → ¬ T D → c.wpIn F n P Q { a with defers := { target := .collected D, args := #[] } :: a.defers } W) :
    (Code.rangeFunc g ps assign body).wpIn F n P Q a w := by
  refine wpIn_rangeFunc ?_
  intro fn hfn
  rw [hro]
  obtain ⟨rec, hrec⟩ : ∃ rec : LoopState → Option Code → Loop, rec = fun st pe => { state := st, pending := pe, fn, tmps := a.tmps, params := ps, assign, body, defers := w.heap.size } := ⟨_, rfl⟩
  obtain ⟨W1, hW1⟩ : ∃ W1, (w.alloc (.deferred (some []))).alloc (.loop (rec .ready none)) = W1 := ⟨_, rfl⟩
  have hs1 : W1.heap.size = w.heap.size + 2 := by rw [← hW1]; simp
  have hL1 : W1.heap[w.heap.size + 1]? = some (.loop (rec .ready none)) := by
    rw [← hW1]; have := World.alloc_heap_new (w.alloc (.deferred (some []))) (.loop (rec .ready none)); rwa [World.size_alloc] at this
  have hK1 : W1.heap[w.heap.size]? = some (.deferred (some [])) := by
    rw [← hW1]; exact (Below.heap_alloc _ _ _ (by simp)).trans (World.alloc_heap_new w _)
  have hbb : Below w.heap.size w W1 := by rw [← hW1]; exact ((Below.refl _ w).alloc (Nat.le_refl _) _).alloc (by simp) _
  have hI1 : I 0 T0 W1 := hI.ab 0 T0 w W1 h0 (Nat.le_refl _) (Kept.of_below hbb (Nat.le_refl _) (hI.lt 0 T0 w h0))
  have hT0 : ∀ b, T0 b → b < w.heap.size := hI.lt 0 T0 w h0
  have hb1 : Below w0.heap.size w0 W1 := hb0.trans (hbb.mono hb0.size)
  refine ⟨w.heap.size + 1, [{ target := .collected w.heap.size, args := #[] }], W1, { target := .fn (.func gf) lb, args := #[.func (.yield (w.heap.size + 1)) #[] #[]] }, W1, gf,
    #[.func (.yield (w.heap.size + 1)) #[] #[]] ++ lb, W1, ?_, ?_, ?_, ?_, fun _ => h1, ?_⟩
  · rw [← hW1, hrec]; exact run_enterLoop_outer _ _ _ _ _
  · simp only [resolve, hg]
    simp [go_sem]
  · intro f' hf'; simp [Target.leads] at hf'; subst hf'; exact hFg
  · simp [invoke, go_sem, eg]
  · have far : ∀ {J0 : Nat → (Nat → Prop) → World → Prop} (hJ : AbF w.heap.size J0) {o1 o2 : Obj}, AbF W1.heap.size (fun k T W => J0 k T W ∧ W.heap[w.heap.size + 1]? = some o1 ∧ W.heap[w.heap.size]? = some o2 ∧ ∀ b, T b → b < w.heap.size ∨ w.heap.size + 2 ≤ b) := fun {J0} hJ {o1 o2} =>
      ⟨fun s T A C hs hA hB => ⟨hJ.ab s T A C hs.1 (by omega) ⟨hB.os, hB.tape, hB.output, hB.size, fun k hk => hB.low k (by omega), hB.mine⟩, (hB.low _ (by omega)).trans hs.2.1, (hB.low _ (by omega)).trans hs.2.2.1, hs.2.2.2⟩, fun s T A hs => hJ.lt s T A hs.1⟩
    refine (hseq (w.heap.size + 1)
      (fun k T W => I k T W ∧ W.heap[w.heap.size + 1]? = some (.loop (rec .ready none)) ∧ W.heap[w.heap.size]? = some (.deferred (some [])) ∧ ∀ b, T b → b < w.heap.size ∨ w.heap.size + 2 ≤ b)
      (fun k T W => ∃ c, Ix c k T W ∧ W.heap[w.heap.size + 1]? = some (.loop (rec .done (some c))) ∧ W.heap[w.heap.size]? = some (.deferred (some [])) ∧ ∀ b, T b → b < w.heap.size ∨ w.heap.size + 2 ≤ b)
      W1 T0 hb1 (far hI)
      ⟨fun s T A C hs hA hB => by
        obtain ⟨c, hc⟩ := hs
        exact ⟨c, (far (hIx c)).ab s T A C hc hA hB⟩, fun s T A hs => by
        obtain ⟨c, hc⟩ := hs
        exact (hIx c).lt s T A hc.1⟩
      ?_ ⟨hI1, hL1, hK1, fun b hb => .inl (hT0 b hb)⟩).mono ?_
    · -- ONE ROUND
      rintro k hkL T W ⟨hi, hl, hk, hTw⟩ hWs
      have hlt : w.heap.size + 1 < W.heap.size := (Array.getElem?_eq_some_iff.1 hl).1
      have hy := run_yield (P := P) (args := encs L[k]) hl (by rw [hrec]; exact hps _)
      rw [hrec] at hy
      have hTl := hI.lt k T W hi
      refine ⟨fn, _, assign, body, hy, roundIn_of_wpIn hfn (hassign _ k hkL W _ (by omega) ?_)⟩
      clear hy
      intro a' Wa hBa hax
      have hla := (hBa.block (w.heap.size + 1) hlt).trans hl
      have hka := (hBa.block w.heap.size (by omega)).trans hk
      have hlta : w.heap.size + 1 < Wa.heap.size := (Array.getElem?_eq_some_iff.1 hla).1
      have hsa : W.heap.size ≤ Wa.heap.size := hBa.size
      have hia : I k T Wa := hI.ab k T W Wa hi (by omega) (Kept.of_below hBa (by omega) hTl)
      have hTa : ∀ b, T b → b < Wa.heap.size := fun b hb => by have := hTl b hb; omega
      have hkda : KdT S T W1.heap.size W Wa := KdT.of_below hBa (fun k hk => by have := hn0 k hk; omega)
      have hnT : ¬ T (w.heap.size + 1) := fun q => by rcases hTw _ q with q | q <;> omega
      have hnT0 : ¬ T w.heap.size := fun q => by rcases hTw _ q with q | q <;> omega
      refine ⟨_, run_beginRound hla (by rw [hrec]), ?_⟩
      have hl2 : (Wa.putObj (w.heap.size + 1) (.loop { rec .ready none with state := .busy })).heap[w.heap.size + 1]? = some (.loop { rec .ready none with state := .busy }) := World.putObj_heap_same hlta
      have hk2 : (Wa.putObj (w.heap.size + 1) (.loop { rec .ready none with state := .busy })).heap[w.heap.size]? = some (.deferred (some [])) := (World.putObj_heap_other (by omega)).trans hka
      have hw2 : KdT S T W1.heap.size Wa (Wa.putObj (w.heap.size + 1) (.loop { rec .ready none with state := .busy })) := KdT.putObj _ _ (fun h => by have := hn0 _ h; omega) (by omega) (fun k hk => by have := hn0 k hk; omega)
      refine wpIn_mono (hbody (w.heap.size + 1) k hkL a' T _ (by simp; omega) (hI.ab k T Wa _ hia (by omega) (Kept.putObj _ _ (by omega) hnT hTa (by omega))) ((hAx _ a').putObj (s := ()) _ hax (by omega) hla rfl)) ?_
      have fin : ∀ (jump : Option Code) (T' : Nat → Prop) (W3 : World), Grew T T' (Wa.putObj (w.heap.size + 1) (.loop { rec .ready none with state := .busy })) → KdT S T w.heap.size (Wa.putObj (w.heap.size + 1) (.loop { rec .ready none with state := .busy })) W3 →
          (Instr.endRound (w.heap.size + 1) jump).run P W3 = .ok (.bool jump.isNone) (W3.putObj (w.heap.size + 1) (.loop (rec (if jump.isNone then .ready else .done) jump))) ∧
          (W3.putObj (w.heap.size + 1) (.loop (rec (if jump.isNone then .ready else .done) jump))).heap[w.heap.size + 1]? = some (.loop (rec (if jump.isNone then .ready else .done) jump)) ∧
          (W3.putObj (w.heap.size + 1) (.loop (rec (if jump.isNone then .ready else .done) jump))).heap[w.heap.size]? = some (.deferred (some [])) ∧
          KdT S T W1.heap.size W (W3.putObj (w.heap.size + 1) (.loop (rec (if jump.isNone then .ready else .done) jump))) ∧ w.heap.size + 1 < W3.heap.size ∧ Grew T T' W ∧ (∀ b, T' b → b < w.heap.size ∨ w.heap.size + 2 ≤ b) := fun jump T' W3 hg3 hk3 => by
        have hl3 := (hk3.high (w.heap.size + 1) (by omega) (by simp; omega) hnT).trans hl2
        have hs3 := hk3.size
        simp only [World.putObj_size] at hs3
        have hg3' : Grew T T' W := fun b hb => by
          rcases hg3 b hb with q | q
          · exact .inl q
          · simp only [World.putObj_size] at q
            exact .inr (by omega)
        have := run_endRound (P := P) jump hl3
        rw [hrec] at this ⊢
        refine ⟨this, World.putObj_heap_same (Array.getElem?_eq_some_iff.1 hl3).1, (World.putObj_heap_other (by omega)).trans ((hk3.high w.heap.size (Nat.le_refl _) (by simp; omega) hnT0).trans hk2), ?_, by omega, hg3', fun b hb => ?_⟩
        · refine ((hkda.trans hw2 (fun b hb => .inl hb)).trans (T' := T) (hk3.mono (M := W1.heap.size) (by omega) (fun _ h => h)) (fun b hb => .inl hb)).trans (T' := T) (KdT.putObj _ _ (fun h => by have := hn0 _ h; omega) (by omega) (fun k hk => by have := hn0 k hk; omega)) (fun b hb => .inl hb)
        · rcases hg3' b hb with q | q
          · exact hTw b q
          · exact .inr (by omega)
      have put : ∀ {J0 : Nat → (Nat → Prop) → World → Prop} (hJ : AbF w.heap.size J0) {k : Nat} {T' : Nat → Prop} {W3 : World} (o : Obj), J0 k T' W3 → w.heap.size + 1 < W3.heap.size → (∀ b, T' b → b < w.heap.size ∨ w.heap.size + 2 ≤ b) → J0 k T' (W3.putObj (w.heap.size + 1) o) := fun {J0} hJ {k T' W3} o hi hz hT =>
        hJ.ab k T' W3 _ hi (by omega) (Kept.putObj _ _ (by omega) (fun q => by rcases hT _ q with q | q <;> omega) (hJ.lt k T' W3 hi) (by omega))
      rintro e a3 W3 hp
      cases e with
      | normal =>
        obtain ⟨T', hg3, hk3, hi3⟩ := hp
        obtain ⟨hr, hl4, hk4, hd4, hz, hgg, hTT⟩ := fin none T' W3 hg3 hk3
        exact ⟨_, _, hr, T', hgg, hd4, .inl ⟨rfl, put hI _ hi3 hz hTT, hl4, hk4, hTT⟩⟩
      | ret =>
        obtain ⟨T', hg3, hk3, hi3⟩ := hp
        obtain ⟨hr, hl4, hk4, hd4, hz, hgg, hTT⟩ := fin (some .ret) T' W3 hg3 hk3
        exact ⟨_, _, hr, T', hgg, hd4, .inr ⟨rfl, .ret, put (hIx _) _ hi3 hz hTT, hl4, hk4, hTT⟩⟩
      | exit id =>
        obtain ⟨T', hg3, hk3, hi3⟩ := hp
        obtain ⟨hr, hl4, hk4, hd4, hz, hgg, hTT⟩ := fin (some (.exit id)) T' W3 hg3 hk3
        exact ⟨_, _, hr, T', hgg, hd4, .inr ⟨rfl, .exit id, put (hIx _) _ hi3 hz hTT, hl4, hk4, hTT⟩⟩
      | goto t =>
        obtain ⟨T', hg3, hk3, hi3⟩ := hp
        obtain ⟨hr, hl4, hk4, hd4, hz, hgg, hTT⟩ := fin (some (.goto t)) T' W3 hg3 hk3
        exact ⟨_, _, hr, T', hgg, hd4, .inr ⟨rfl, .goto t, put (hIx _) _ hi3 hz hTT, hl4, hk4, hTT⟩⟩
      | panic ch => exact hp.elim
      | outgrown => exact hp.elim
    · -- BEHIND THE ITERATOR
      have put : ∀ {J0 : Nat → (Nat → Prop) → World → Prop} (hJ : AbF w.heap.size J0) {k : Nat} {T' : Nat → Prop} {W3 : World} (o : Obj), J0 k T' W3 → w.heap.size < W3.heap.size → (∀ b, T' b → b < w.heap.size ∨ w.heap.size + 2 ≤ b) → J0 k T' (W3.putObj (w.heap.size + 1) o) := fun {J0} hJ {k T' W3} o hi hz hT =>
        hJ.ab k T' W3 _ hi (by omega) (Kept.putObj _ _ (by omega) (fun q => by rcases hT _ q with q | q <;> omega) (hJ.lt k T' W3 hi) (by omega))
      rintro e W2 ⟨⟨v, rfl⟩, T, (⟨hi, hl, hk, hT⟩ | ⟨k, hkL, c, hi, hl, hk, hT⟩)⟩
      · have hz := (Array.getElem?_eq_some_iff.1 hk).1
        exact ⟨none, _, by have := run_endLoop (P := P) hl (by rw [hrec]; simp); rw [hrec] at this; exact this, hdone _ T _ (Nat.le_refl _) (put hI _ hi hz hT) ((World.putObj_heap_other (by omega)).trans hk) (fun q => by rcases hT _ q with q | q <;> omega)⟩
      · have hz := (Array.getElem?_eq_some_iff.1 hk).1
        exact ⟨some c, _, by have := run_endLoop (P := P) hl (by rw [hrec]; simp); rw [hrec] at this; exact this, hstop _ c k T _ (Nat.le_refl _) hkL (put (hIx c) _ hi hz hT) ((World.putObj_heap_other (by omega)).trans hk) (fun q => by rcases hT _ q with q | q <;> omega)⟩
end Go.Proofs.Ytbfpfjkjeekbdaa
