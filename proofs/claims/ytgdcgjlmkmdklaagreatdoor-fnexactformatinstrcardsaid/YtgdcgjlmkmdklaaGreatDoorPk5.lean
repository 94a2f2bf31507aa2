/- Texts of one claim. -/
import Derived.Test.YtgdcgjlmkmdklaaGreatDoorRows
import Derived.RangeFuncNested
import Derived.RangeFuncBound
import Derived.RangeFuncCalls
import Derived.RangeFuncLeaves
import Derived.WalkKit
import Derived.OwnWalkIn
import Derived.TacticsInMore
import Derived.LoopNIn
import Derived.LoopIn
import Derived.Test.YtgdcgjlmkmdklaaGreatDoorPk4
import Derived.Test.YtgdcgjlmkmdklaaGreatDoorPk0
import Derived.Shelf.Abstract
namespace Go.Proofs.YtgdcgjlmkmdklaaGreatDoor
open Go.RowKit
set_option linter.unusedVariables false
structure Kd (S : Nat → Prop) (L : Nat) (A B : World) : Prop where
 os : B.os = A.os
 tape : B.tape = A.tape
 output : B.output = A.output
 size : A.heap.size ≤ B.heap.size
 low : ∀ k, S k → B.heap[k]? = A.heap[k]?
 high : ∀ k, L ≤ k → k < A.heap.size → B.heap[k]? = A.heap[k]?
theorem Kd.refl (S : Nat → Prop) (L : Nat) (A : World) : Kd S L A A := ⟨rfl, rfl, rfl, Nat.le_refl _, fun _ _ => rfl, fun _ _ _ => rfl⟩
theorem Kd.trans {S : Nat → Prop} {L : Nat} {A B C : World} (h : Kd S L A B) (k : Kd S L B C) : Kd S L A C :=
 ⟨k.os.trans h.os, k.tape.trans h.tape, k.output.trans h.output, Nat.le_trans h.size k.size, fun j hj => (k.low j hj).trans (h.low j hj), fun j hj hs => (k.high j hj (Nat.lt_of_lt_of_le hs h.size)).trans (h.high j hj hs)⟩
theorem Kd.mono {S T : Nat → Prop} {L M : Nat} {A B : World} (h : Kd S L A B) (h1 : L ≤ M) (h2 : ∀ k, T k → S k ∨ (L ≤ k ∧ k < A.heap.size)) : Kd T M A B :=
 ⟨h.os, h.tape, h.output, h.size, fun j hj => (h2 j hj).elim (h.low j) (fun q => h.high j q.1 q.2), fun j hj hs => h.high j (by omega) hs⟩
theorem Kd.of_below {S : Nat → Prop} {L : Nat} {A B : World} (h : Below A.heap.size A B) (hn : ∀ k, S k → k < A.heap.size) : Kd S L A B := ⟨h.os, h.tape, h.output, h.size, fun j hj => h.block j (hn j hj), fun j _ hs => h.block j hs⟩
theorem Kd.below {S : Nat → Prop} {L n0 : Nat} {A B : World} (h : Kd S L A B) (hn : ∀ k, k < n0 → S k) : Below n0 A B := ⟨h.os, h.tape, h.output, h.size, fun j hj => h.low j (hn j hj)⟩
theorem Kd.grown {S : Nat → Prop} {L : Nat} {A B C : World} {r : Nat} (h : Kd S L A B) (hg : B.grownBy C (some r)) (h0 : ¬ S r) (h1 : r < L) (hs : ∀ k, S k → k < B.heap.size) : Kd S L A C :=
 ⟨hg.os.trans h.os, hg.tape.trans h.tape, hg.output.trans h.output, Nat.le_trans h.size hg.size, fun j hj => (hg.block j (hs j hj) (fun e => by cases e; exact h0 hj)).trans (h.low j hj),
  fun j hj hs' => (hg.block j (Nat.lt_of_lt_of_le hs' h.size) (fun e => by cases e; omega)).trans (h.high j hj hs')⟩
theorem Kd.setCell {S : Nat → Prop} {L : Nat} {A B : World} {p : Addr} (h : Kd S L A B) (h0 : ¬ S p.block) (h1 : p.block < L) (v : Value) : Kd S L A (B.setCell p v) :=
 ⟨h.os, h.tape, h.output, by simpa [World.setCell] using h.size, fun j hj => (Below.heap_setCell B p v j (fun e => h0 (e ▸ hj))).trans (h.low j hj),
  fun j hj hs' => (Below.heap_setCell B p v j (by omega)).trans (h.high j hj hs')⟩
theorem Kd.setNew {S : Nat → Prop} {L : Nat} {A B : World} {p : Addr} (h : Kd S L A B) (h0 : A.heap.size ≤ p.block) (hn : ∀ k, S k → k < A.heap.size) (v : Value) : Kd S L A (B.setCell p v) :=
 ⟨h.os, h.tape, h.output, by simpa [World.setCell] using h.size, fun j hj => (Below.heap_setCell B p v j (by have := hn j hj; omega)).trans (h.low j hj),
  fun j hj hs' => (Below.heap_setCell B p v j (by omega)).trans (h.high j hj hs')⟩
theorem Kd.alloc {S : Nat → Prop} {L : Nat} {A B : World} (h : Kd S L A B) (hn : ∀ k, S k → k < A.heap.size) (o : Obj) : Kd S L A (B.alloc o) :=
 h.trans (Kd.of_below ((Below.refl _ _).alloc (Nat.le_refl _) o) (fun k hk => Nat.lt_of_lt_of_le (hn k hk) h.size))
theorem Kd.cell {S : Nat → Prop} {L : Nat} {A B : World} (h : Kd S L A B) {p : Addr} (hp : S p.block ∨ (L ≤ p.block ∧ p.block < A.heap.size)) : B.cell? p = A.cell? p :=
 World.cell?_of_block (by rcases hp with hp | ⟨h1, h2⟩; exact h.low _ hp; exact h.high _ h1 h2)
theorem Kd.frozen {S : Nat → Prop} {L : Nat} {A B : World} (h : Kd S L A B) {p : Addr} (hp : S p.block ∨ (L ≤ p.block ∧ p.block < A.heap.size)) : B.frozen? p = A.frozen? p :=
 World.frozen?_of_block (by rcases hp with hp | ⟨h1, h2⟩; exact h.low _ hp; exact h.high _ h1 h2)
def AbB {β : Type} (B : Nat) (J : β → World → Prop) : Prop := ∀ s A C, J s A → B ≤ A.heap.size → Below B A C → J s C
theorem AbB.mono {β : Type} {B C : Nat} {J : β → World → Prop} (h : AbB B J) (hb : B ≤ C) : AbB C J := fun s A D hs hA hB => h s A D hs (by omega) (hB.mono hb)
def SeqL {α : Type} (F : Fence) (n : Nat) (P : Program) (g : Nat) (lb : Array Value) (encs : α → Array Value) (S : Nat → Prop) (L : List α) (w : World) : Prop :=
 ∀ (l : Nat) (J Jx : Nat → World → Prop) (W : World), Below w.heap.size w W → AbB W.heap.size J → AbB W.heap.size Jx →
  (∀ k (hk : k < L.length) W1, J k W1 → W.heap.size ≤ W1.heap.size → YieldAt F (n - 1) P l (encs L[k]) W1 fun e W' =>
   (e = .returned (.bool true) ∧ J (k + 1) W' ∧ Kd S W.heap.size W1 W') ∨ (e = .returned (.bool false) ∧ Jx (k + 1) W' ∧ Kd S W.heap.size W1 W')) →
  J 0 W →
  CallsIn F n P g (#[.func (.yield l) #[] #[]] ++ lb) W fun e W' => (∃ v, e = .returned v) ∧ (J L.length W' ∨ ∃ k, k < L.length ∧ Jx (k + 1) W')
def postL (S : Nat → Prop) (L : Nat) (I : Nat → World → Prop) (Ix : Code → Nat → World → Prop) (k : Nat) (W : World) : Exit → Act → World → Prop
 | .normal, _, W' => Kd S L W W' ∧ I k W'
 | .ret, _, W' => Kd S L W W' ∧ Ix .ret k W'
 | .exit id, _, W' => Kd S L W W' ∧ Ix (.exit id) k W'
 | .goto t, _, W' => Kd S L W W' ∧ Ix (.goto t) k W'
 | .panic _, _, _ => False
 | .outgrown, _, _ => False
theorem AbB.putObj {β : Type} {B : Nat} {I : β → World → Prop} (h : AbB B I) {s : β} {W : World} {l : Nat} (o' : Obj) (hs : I s W) (hB : B ≤ l) (hW : B ≤ W.heap.size) : I s (W.putObj l o') :=
 h s W _ hs hW ((Below.refl B W).grown (grownBy_putObj' W l o') hW (fun k e => by cases e; exact hB))
theorem Kd.putObj {S : Nat → Prop} {L l : Nat} (W : World) (o' : Obj) (h0 : ¬ S l) (h1 : l < L) (hs : ∀ k, S k → k < W.heap.size) : Kd S L W (W.putObj l o') := (Kd.refl S L W).grown (grownBy_putObj' W l o') h0 h1 hs
variable {F : Fence} {n : Nat} {P : Program}
theorem wpIn_rangeL {α : Type} {g : Operand} {ps : Array Tmp} {assign body : Code} {Q : Exit → Act → World → Prop} {a : Act} {w : World}
  (hro : F.round = none) (h1 : 1 ≤ n) {gf : Nat} {lb : Array Value} (hg : a.eval g = .func (.func gf) #[] lb) (hFg : F.fn gf) (eg : ∀ args w, (callFunc gf args).run P w = .ok (.enter gf args) w)
  {encs : α → Array Value} {S : Nat → Prop} {L : List α} {w0 : World} (hseq : SeqL F (n - 1) P gf lb encs S L w0) (hb0 : Below w0.heap.size w0 w) (hn0 : ∀ k, S k → k < w.heap.size) (hps : ∀ x, (encs x).size = ps.size)
  (I : Nat → World → Prop) (Ix : Code → Nat → World → Prop) (hI : AbB w.heap.size I) (hIx : ∀ c, AbB w.heap.size (Ix c)) (h0 : I 0 w) (Ax : α → Act → World → Prop) (hAx : ∀ x a', OwnFrom w.heap.size (fun (_ : Unit) W => Ax x a' W))
  (hassign : ∀ (l k : Nat) (hk : k < L.length) (W : World) (K : Act → World → Prop), I k W → w.heap.size ≤ W.heap.size → (∀ a' W', Below W.heap.size W W' → Ax L[k] a' W' → K a' W') →
   assign.wpIn (F.inRound l) (n - 1 - 1) P (Exit.then K (fun _ _ _ => False)) { tmps := (ps.zip (encs L[k])).foldl (fun t (p, v) => t.setIfInBounds p v) a.tmps, defers := [] } W)
  (hbody : ∀ (l k : Nat) (hk : k < L.length) (a' : Act) (W : World), w.heap.size ≤ W.heap.size → I k W → Ax L[k] a' W → body.wpIn (F.inRound l) (n - 1 - 1) P (postL S w.heap.size I Ix (k + 1) W) a' W)
  (hdone : ∀ (D : Nat) (W : World), w.heap.size ≤ D → I L.length W → W.heap[D]? = some (.deferred (some [])) → Q .normal { a with defers := { target := .collected D, args := #[] } :: a.defers } W)
  (hstop : ∀ (D : Nat) (c : Code) (k : Nat) (W : World), w.heap.size ≤ D → k < L.length → Ix c (k + 1) W → W.heap[D]? = some (.deferred (some [])) → c.wpIn F n P Q { a with defers := { target := .collected D, args := #[] } :: a.defers } W) :
  (Code.rangeFunc g ps assign body).wpIn F n P Q a w := by
 refine wpIn_rangeFunc ?_
 intro fn hfn
 rw [hro]
 obtain ⟨rec, hrec⟩ : ∃ rec : LoopState → Option Code → Loop, rec = fun st pe => { state := st, pending := pe, fn, tmps := a.tmps, params := ps, assign, body, defers := w.heap.size } := ⟨_, rfl⟩
 obtain ⟨W1, hW1⟩ : ∃ W1, (w.alloc (.deferred (some []))).alloc (.loop (rec .ready none)) = W1 := ⟨_, rfl⟩
 have hs1 : W1.heap.size = w.heap.size + 2 := by rw [← hW1]; simp
 have hL1 : W1.heap[w.heap.size + 1]? = some (.loop (rec .ready none)) := by
  rw [← hW1]; have := World.alloc_heap_new (w.alloc (.deferred (some []))) (.loop (rec .ready none)); rwa [World.size_alloc] at this
 have hK1 : W1.heap[w.heap.size]? = some (.deferred (some [])) := by
  rw [← hW1]; exact (Below.heap_alloc _ _ _ (by simp)).trans (World.alloc_heap_new w _)
 have hbb : Below w.heap.size w W1 := by rw [← hW1]; exact ((Below.refl _ w).alloc (Nat.le_refl _) _).alloc (by simp) _
 have hI1 : I 0 W1 := hI 0 w W1 h0 (Nat.le_refl _) hbb
 have hb1 : Below w0.heap.size w0 W1 := hb0.trans (hbb.mono hb0.size)
 refine ⟨w.heap.size + 1, [{ target := .collected w.heap.size, args := #[] }], W1, { target := .fn (.func gf) lb, args := #[.func (.yield (w.heap.size + 1)) #[] #[]] }, W1, gf,
  #[.func (.yield (w.heap.size + 1)) #[] #[]] ++ lb, W1, ?_, ?_, ?_, ?_, fun _ => h1, ?_⟩
 ·rw [← hW1, hrec]; exact run_enterLoop_outer _ _ _ _ _
 ·simp only [resolve, hg]
  simp [go_sem]
 ·intro f' hf'; simp [Target.leads] at hf'; subst hf'; exact hFg
 ·simp [invoke, go_sem, eg]
 ·have hlo : ∀ {A C : World} {k : Nat}, Below W1.heap.size A C → k < W1.heap.size → C.heap[k]? = A.heap[k]? := fun hB hk => hB.block _ hk
  refine (hseq (w.heap.size + 1)
   (fun k W => I k W ∧ W.heap[w.heap.size + 1]? = some (.loop (rec .ready none)) ∧ W.heap[w.heap.size]? = some (.deferred (some [])))
   (fun k W => ∃ c, Ix c k W ∧ W.heap[w.heap.size + 1]? = some (.loop (rec .done (some c))) ∧ W.heap[w.heap.size]? = some (.deferred (some [])))
   W1 hb1
   (fun s A C hs hA hB => ⟨hI s A C hs.1 (by omega) (hB.mono (by omega)), (hlo hB (by omega)).trans hs.2.1, (hlo hB (by omega)).trans hs.2.2⟩)
   (fun s A C hs hA hB => by
    obtain ⟨c, hc, hl, hk⟩ := hs
    exact ⟨c, hIx c s A C hc (by omega) (hB.mono (by omega)), (hlo hB (by omega)).trans hl, (hlo hB (by omega)).trans hk⟩)
   ?_ ⟨hI1, hL1, hK1⟩).mono ?_
  ·-- ONE ROUND
   rintro k hkL W ⟨hi, hl, hk⟩ hWs
   have hlt : w.heap.size + 1 < W.heap.size := (Array.getElem?_eq_some_iff.1 hl).1
   have hy := run_yield (P := P) (args := encs L[k]) hl (by rw [hrec]; exact hps _)
   rw [hrec] at hy
   refine ⟨fn, _, assign, body, hy, roundIn_of_wpIn hfn (hassign _ k hkL W _ hi (by omega) ?_)⟩
   clear hy
   intro a' Wa hBa hax
   have hla := (hBa.block (w.heap.size + 1) hlt).trans hl
   have hka := (hBa.block w.heap.size (by omega)).trans hk
   have hlta : w.heap.size + 1 < Wa.heap.size := (Array.getElem?_eq_some_iff.1 hla).1
   have hia : I k Wa := hI k W Wa hi (by omega) (hBa.mono (by omega))
   have hkda : Kd S W1.heap.size W Wa := Kd.of_below hBa (fun k hk => by have := hn0 k hk; omega)
   refine ⟨_, run_beginRound hla (by rw [hrec]), ?_⟩
   have hl2 : (Wa.putObj (w.heap.size + 1) (.loop { rec .ready none with state := .busy })).heap[w.heap.size + 1]? = some (.loop { rec .ready none with state := .busy }) := World.putObj_heap_same hlta
   have hk2 : (Wa.putObj (w.heap.size + 1) (.loop { rec .ready none with state := .busy })).heap[w.heap.size]? = some (.deferred (some [])) := (World.putObj_heap_other (by omega)).trans hka
   have hw2 : Kd S W1.heap.size Wa (Wa.putObj (w.heap.size + 1) (.loop { rec .ready none with state := .busy })) := Kd.putObj _ _ (fun h => by have := hn0 _ h; omega) (by omega) (fun k hk => by have := hn0 k hk; omega)
   refine wpIn_mono (hbody (w.heap.size + 1) k hkL a' _ (by simp; omega) (hI.putObj _ hia (by omega) (by omega)) ((hAx _ a').putObj (s := ()) _ hax (by omega) hla rfl)) ?_
   have fin : ∀ (jump : Option Code) (W3 : World), Kd S w.heap.size (Wa.putObj (w.heap.size + 1) (.loop { rec .ready none with state := .busy })) W3 →
     (Instr.endRound (w.heap.size + 1) jump).run P W3 = .ok (.bool jump.isNone) (W3.putObj (w.heap.size + 1) (.loop (rec (if jump.isNone then .ready else .done) jump))) ∧
     W3.heap[w.heap.size + 1]? = some (.loop { rec .ready none with state := .busy }) ∧
     (W3.putObj (w.heap.size + 1) (.loop (rec (if jump.isNone then .ready else .done) jump))).heap[w.heap.size + 1]? = some (.loop (rec (if jump.isNone then .ready else .done) jump)) ∧
     (W3.putObj (w.heap.size + 1) (.loop (rec (if jump.isNone then .ready else .done) jump))).heap[w.heap.size]? = some (.deferred (some [])) ∧
     Kd S W1.heap.size W (W3.putObj (w.heap.size + 1) (.loop (rec (if jump.isNone then .ready else .done) jump))) ∧ w.heap.size ≤ W3.heap.size := fun jump W3 hk3 => by
    have hl3 := (hk3.high (w.heap.size + 1) (by omega) (by simp; omega)).trans hl2
    have hs3 := hk3.size
    simp only [World.putObj_size] at hs3
    have := run_endRound (P := P) jump hl3
    rw [hrec] at this ⊢
    exact ⟨this, by rw [hrec] at hl3; exact hl3, World.putObj_heap_same (Array.getElem?_eq_some_iff.1 hl3).1, (World.putObj_heap_other (by omega)).trans ((hk3.high w.heap.size (Nat.le_refl _) (by simp; omega)).trans hk2),
     ((hkda.trans hw2).trans (by rw [hrec] at hk3 ⊢; exact hk3.mono (by omega) (fun _ h => .inl h))).trans (Kd.putObj _ _ (fun h => by have := hn0 _ h; omega) (by omega) (fun k hk => by have := hn0 k hk; omega)), by omega⟩
   rintro e a3 W3 hp
   cases e with
   | normal =>
    obtain ⟨hk3, hi3⟩ := hp
    obtain ⟨hr, hl3, hl4, hk4, hd4, hz⟩ := fin none W3 hk3
    exact ⟨_, _, hr, .inl ⟨rfl, ⟨hI.putObj _ hi3 (by omega) hz, hl4, hk4⟩, hd4⟩⟩
   | ret =>
    obtain ⟨hk3, hi3⟩ := hp
    obtain ⟨hr, hl3, hl4, hk4, hd4, hz⟩ := fin (some .ret) W3 hk3
    exact ⟨_, _, hr, .inr ⟨rfl, ⟨.ret, (hIx _).putObj _ hi3 (by omega) hz, hl4, hk4⟩, hd4⟩⟩
   | exit id =>
    obtain ⟨hk3, hi3⟩ := hp
    obtain ⟨hr, hl3, hl4, hk4, hd4, hz⟩ := fin (some (.exit id)) W3 hk3
    exact ⟨_, _, hr, .inr ⟨rfl, ⟨.exit id, (hIx _).putObj _ hi3 (by omega) hz, hl4, hk4⟩, hd4⟩⟩
   | goto t =>
    obtain ⟨hk3, hi3⟩ := hp
    obtain ⟨hr, hl3, hl4, hk4, hd4, hz⟩ := fin (some (.goto t)) W3 hk3
    exact ⟨_, _, hr, .inr ⟨rfl, ⟨.goto t, (hIx _).putObj _ hi3 (by omega) hz, hl4, hk4⟩, hd4⟩⟩
   | panic ch => exact hp.elim
   | outgrown => exact hp.elim
  ·-- BEHIND THE ITERATOR
   rintro e W2 ⟨⟨v, rfl⟩, (⟨hi, hl, hk⟩ | ⟨k, hkL, c, hi, hl, hk⟩)⟩
   ·have hz := (Array.getElem?_eq_some_iff.1 hk).1
    exact ⟨none, _, by have := run_endLoop (P := P) hl (by rw [hrec]; simp); rw [hrec] at this; exact this, hdone _ _ (Nat.le_refl _) (hI.putObj _ hi (by omega) (by omega)) ((World.putObj_heap_other (by omega)).trans hk)⟩
   ·have hz := (Array.getElem?_eq_some_iff.1 hk).1
    exact ⟨some c, _, by have := run_endLoop (P := P) hl (by rw [hrec]; simp); rw [hrec] at this; exact this, hstop _ c k _ (Nat.le_refl _) hkL ((hIx c).putObj _ hi (by omega) (by omega)) ((World.putObj_heap_other (by omega)).trans hk)⟩
end Go.Proofs.YtgdcgjlmkmdklaaGreatDoor

namespace Go.Proofs.YtgdcgjlmkmdklaaGreatDoor
open Go.ChangeShapes Go.WideShapes Go.ChangeAt Go.RowKit
set_option linter.unusedVariables false
set_option linter.unusedSimpArgs false
structure ItD where
 b : Nat
 i : Nat
 d : InD
 va : Value
 vb : Value
 vw : Value
instance : Inhabited ItD := ⟨⟨0, 0, default, undef, undef, undef⟩⟩
abbrev itE (x : ItD) : Array Value := #[.agg #[.int .i64 x.b, .int .i64 x.i], inV x.d x.va x.vb x.vw]
structure I9 (w : World) (b o : Nat) (d : InD) (va vb vw : Value) : Prop where
 c0 : At w b o (.int .i64 d.op)
 c1 : At w b (o + 1) (.int .i64 d.ty)
 c2 : At w b (o + 2) (.int .i64 d.fl)
 c3 : At w b (o + 3) (.int .i64 d.pr)
 c4 : At w b (o + 4) (.int .i64 d.ca)
 c5 : At w b (o + 5) (.int .i64 d.sz)
 c6 : At w b (o + 6) va
 c7 : At w b (o + 7) vb
 c8 : At w b (o + 8) vw
structure Kq (S : Nat → Prop) (A B : World) : Prop where
 size : A.heap.size ≤ B.heap.size
 low : ∀ k, S k → B.heap[k]? = A.heap[k]?
theorem Kq.at {S : Nat → Prop} {A B : World} (h : Kq S A B) {b o : Nat} {v : Value} (hb : S b) (c : At A b o v) : At B b o v := (World.cell?_of_block (a := ⟨b, o, none⟩) (h.low b hb)).trans c
theorem Kq.refl (S : Nat → Prop) (A : World) : Kq S A A := ⟨Nat.le_refl _, fun _ _ => rfl⟩
theorem Kq.trans {S : Nat → Prop} {A B C : World} (h : Kq S A B) (k : Kq S B C) : Kq S A C := ⟨Nat.le_trans h.size k.size, fun j hj => (k.low j hj).trans (h.low j hj)⟩
theorem Kd.kq {S : Nat → Prop} {L : Nat} {A B : World} (h : Kd S L A B) : Kq S A B := ⟨h.size, h.low⟩
theorem Kq.below {S : Nat → Prop} {n0 : Nat} {A B : World} (h : Below n0 A B) (hs : ∀ k, S k → k < n0) : Kq S A B := ⟨h.size, fun k hk => h.block k (hs k hk)⟩
theorem Kq.i9 {S : Nat → Prop} {A B : World} (h : Kq S A B) {b o : Nat} {d : InD} {va vb vw : Value} (hb : S b) (c : I9 A b o d va vb vw) : I9 B b o d va vb vw :=
 ⟨h.at hb c.c0, h.at hb c.c1, h.at hb c.c2, h.at hb c.c3, h.at hb c.c4, h.at hb c.c5, h.at hb c.c6, h.at hb c.c7, h.at hb c.c8⟩
structure Sh (va vb vw : Value) : Prop where
 a : ∃ a n c, va = .slice a n c
 b : ∃ a n c, vb = .slice a n c
 c : ∃ a n c, vw = .slice a n c
theorem InV.sh {lo : Nat} {w : World} {va vb vw : Value} {d : InD} (h : InV lo w va vb vw d) : Sh va vb vw := by
 obtain ⟨_, _, ⟨⟨a, c, e, -, -⟩, -⟩, -, -⟩ := h.a.ex
 obtain ⟨_, _, ⟨⟨a2, c2, e2, -, -⟩, -⟩, -, -⟩ := h.b.ex
 obtain ⟨_, _, ⟨⟨a3, c3, e3, -, -⟩, -⟩, -, -⟩ := h.c.ex
 exact ⟨⟨_, _, _, e⟩, ⟨_, _, _, e2⟩, ⟨_, _, _, e3⟩⟩
structure ItIns (n0 : Nat) (w : World) (v : Value) (ys : List ItD) : Prop where
 ex : ∃ b o, Sl v ys.length b o ∧ ∀ i (h : i < ys.length), b < n0 ∧ Sh ys[i].va ys[i].vb ys[i].vw ∧ I9 w b (o + i * 9) ys[i].d ys[i].va ys[i].vb ys[i].vw
structure ItBls (n0 : Nat) (w : World) (v : Value) (Y : List (List ItD)) : Prop where
 ex : ∃ b o, Sl v Y.length b o ∧ ∀ k (h : k < Y.length), b < n0 ∧ ∃ vi, At w b (o + k) vi ∧ ItIns n0 w vi Y[k]
 ix : ∀ k (h : k < Y.length) j (hj : j < Y[k].length), Y[k][j].b = k ∧ Y[k][j].i = j
theorem ItIns.kq {S : Nat → Prop} {n0 : Nat} {A B : World} {v : Value} {ys : List ItD} (h : ItIns n0 A v ys) (k : Kq S A B) (hS : ∀ k, k < n0 → S k) : ItIns n0 B v ys := by
 obtain ⟨b, o, s, c⟩ := h.ex
 exact ⟨b, o, s, fun i hi => ⟨(c i hi).1, (c i hi).2.1, k.i9 (hS _ (c i hi).1) (c i hi).2.2⟩⟩
theorem ItBls.kq {S : Nat → Prop} {n0 : Nat} {A B : World} {v : Value} {Y : List (List ItD)} (h : ItBls n0 A v Y) (k : Kq S A B) (hS : ∀ k, k < n0 → S k) : ItBls n0 B v Y := by
 obtain ⟨b, o, s, c⟩ := h.ex
 refine ⟨⟨b, o, s, fun i hi => ?_⟩, h.ix⟩
 obtain ⟨hb, vi, q, r⟩ := c i hi
 exact ⟨hb, vi, k.at (hS _ hb) q, r.kq k hS⟩
theorem ItBls.sh {n0 : Nat} {A : World} {v : Value} {Y : List (List ItD)} (h : ItBls n0 A v Y) {y : ItD} (hy : y ∈ Y.flatten) : Sh y.va y.vb y.vw := by
 obtain ⟨ys, h1, h2⟩ := List.mem_flatten.1 hy
 obtain ⟨k, hk, rfl⟩ := List.mem_iff_getElem.1 h1
 obtain ⟨j, hj, rfl⟩ := List.mem_iff_getElem.1 h2
 obtain ⟨b, o, s, c⟩ := h.ex
 obtain ⟨-, vi, -, r⟩ := c k hk
 obtain ⟨b2, o2, s2, c2⟩ := r.ex
 exact (c2 j hj).2.1
theorem choose_list {α β : Type} (xs : List α) (R : Nat → α → β → Prop) (h : ∀ i (hi : i < xs.length), ∃ y, R i xs[i] y) : ∃ Y : List β, ∃ e : Y.length = xs.length, ∀ i (hi : i < xs.length), R i xs[i] (Y[i]'(by omega)) := by
 refine ⟨List.ofFn (fun i : Fin xs.length => Classical.choose (h i i.2)), by simp, fun i hi => ?_⟩
 rw [List.getElem_ofFn]
 exact Classical.choose_spec (h i hi)
theorem itIns_of {lo : Nat} {w : World} {v : Value} {xs : List InD} (h : Ins lo w v xs) (k : Nat) : ∃ ys : List ItD, ItIns w.heap.size w v ys ∧ ys.map (·.d) = xs ∧ (∀ j (hj : j < ys.length), ys[j].b = k ∧ ys[j].i = j) ∧ ∀ y, y ∈ ys → InV lo w y.va y.vb y.vw y.d := by
 obtain ⟨b, o, s, l, c⟩ := h.ex
 obtain ⟨ys, e, hy⟩ := choose_list (β := ItD) xs (fun i x y => y.b = k ∧ y.i = i ∧ y.d = x ∧ InAt lo w b (o + i * 9) x y.va y.vb y.vw) (fun i hi => by
  obtain ⟨va, vb, vw, q⟩ := c i hi
  exact ⟨⟨k, i, xs[i], va, vb, vw⟩, rfl, rfl, rfl, q⟩)
 refine ⟨ys, ⟨⟨b, o, e ▸ s, fun i hi => ?_⟩⟩, ?_, fun j hj => ?_, fun y hm => ?_⟩
 ·obtain ⟨-, -, h3, h4⟩ := hy i (by omega)
  rw [h3]
  exact ⟨Lib.lt_of_cell h4.c0, h4.l.sh, h4.c0, h4.c1, h4.c2, h4.c3, h4.c4, h4.c5, h4.c6, h4.c7, h4.c8⟩
 ·refine List.ext_getElem (by simp [e]) fun i h1 h2 => ?_
  rw [List.getElem_map]
  exact (hy i h2).2.2.1
 ·exact ⟨(hy j (by omega)).1, (hy j (by omega)).2.1⟩
 ·obtain ⟨j, hj, rfl⟩ := List.mem_iff_getElem.1 hm
  obtain ⟨-, -, h3, h4⟩ := hy j (by omega)
  rw [h3]
  exact h4.l
theorem itBls_of {lo : Nat} {w : World} {v : Value} {xs : List (List InD)} (h : Bls lo w v xs) : ∃ Y : List (List ItD), ItBls w.heap.size w v Y ∧ Y.map (·.map (·.d)) = xs ∧ ∀ y, y ∈ Y.flatten → InV lo w y.va y.vb y.vw y.d := by
 obtain ⟨b, o, s, l, c⟩ := h.ex
 obtain ⟨Y, e, hy⟩ := choose_list (β := List ItD) xs (fun k x ys => ∃ vi, At w b (o + k) vi ∧ ItIns w.heap.size w vi ys ∧ ys.map (·.d) = x ∧ (∀ j (hj : j < ys.length), ys[j].b = k ∧ ys[j].i = j) ∧ ∀ y, y ∈ ys → InV lo w y.va y.vb y.vw y.d) (fun k hk => by
  obtain ⟨vi, q, r⟩ := c k hk
  obtain ⟨ys, h1, h2, h3, h4⟩ := itIns_of r k
  exact ⟨ys, vi, q, h1, h2, h3, h4⟩)
 refine ⟨Y, ⟨⟨b, o, e ▸ s, fun k hk => ?_⟩, fun k hk j hj => ?_⟩, ?_, fun y hm => ?_⟩
 ·obtain ⟨vi, q, r, -⟩ := hy k (by omega)
  exact ⟨Lib.lt_of_cell q, vi, q, r⟩
 ·obtain ⟨vi, -, -, -, r, -⟩ := hy k (by omega)
  exact r j hj
 ·refine List.ext_getElem (by simp [e]) fun i h1 h2 => ?_
  rw [List.getElem_map]
  obtain ⟨vi, -, -, r, -⟩ := hy i h2
  exact r
 ·obtain ⟨ys, h1, h2⟩ := List.mem_flatten.1 hm
  obtain ⟨k, hk, rfl⟩ := List.mem_iff_getElem.1 h1
  obtain ⟨vi, -, -, -, -, r⟩ := hy k (by omega)
  exact r y h2
def offY (Y : List (List ItD)) (k : Nat) : Nat := ((Y.take k).flatten).length
theorem offY_zero (Y : List (List ItD)) : offY Y 0 = 0 := rfl
theorem offY_succ (Y : List (List ItD)) (k : Nat) (h : k < Y.length) : offY Y (k + 1) = offY Y k + Y[k].length := by
 unfold offY
 rw [List.take_succ_eq_append_getElem h, List.flatten_append, List.length_append]; simp
theorem offY_end (Y : List (List ItD)) : offY Y Y.length = Y.flatten.length := by unfold offY; rw [List.take_length]
theorem flat_at (Y : List (List ItD)) (k j : Nat) (h : k < Y.length) (hj : j < Y[k].length) : ∃ q : offY Y k + j < Y.flatten.length, Y.flatten[offY Y k + j] = Y[k][j] := by
 have e : Y.flatten = (Y.take k).flatten ++ (Y[k] ++ (Y.drop (k + 1)).flatten) := by
  rw [← List.flatten_cons, ← List.flatten_append, ← List.drop_eq_getElem_cons h, List.take_append_drop]
 have q : offY Y k + j < Y.flatten.length := by
  rw [e]; simp only [List.length_append]; unfold offY; omega
 refine ⟨q, ?_⟩
 have : Y.flatten[offY Y k + j]? = some Y[k][j] := by
  rw [e, List.getElem?_append_right (by unfold offY; omega)]
  have : offY Y k + j - ((Y.take k).flatten).length = j := by unfold offY; omega
  rw [this, List.getElem?_append_left hj, List.getElem?_eq_getElem hj]
 rw [List.getElem?_eq_getElem q] at this
 exact Option.some.inj this
end Go.Proofs.YtgdcgjlmkmdklaaGreatDoor

namespace Go.Proofs.YtgdcgjlmkmdklaaGreatDoor
open Go.ChangeShapes Go.WideShapes Go.ChangeAt Go.RowKit
attribute [local go_sem] Oper.semAt_some
set_option linter.unusedVariables false
set_option linter.unusedSimpArgs false
set_option maxRecDepth 100000 in
set_option maxHeartbeats 2000000 in
theorem instrs_seq (F : Fence) (n : Nat) (hF : F.fn 138) (hro : F.round = none) (hn : 1 ≤ n) (S : Nat → Prop) (n0 Bx : Nat) (w0 : World) (vb : Value) (Y : List (List ItD)) (hY : ItBls n0 w0 vb Y)
  (hc : At w0 Bx 4 vb) (hS : ∀ k, k < n0 → S k) (hB : S Bx) (hSw : ∀ k, S k → k < w0.heap.size) :
  SeqL F n Tryz.prog 138 #[.pointer (some ⟨Bx, 0, none⟩)] itE S Y.flatten w0 := by
 intro l J Jx W hW hJ hJx hR h0
 have K0 : Kq S w0 W := Kq.below hW hSw
 obtain ⟨⟨b, o, ⟨⟨a, cap, rfl, h1, h2⟩, h3⟩, hk⟩, ix⟩ := hY
 replace hc := K0.at hB hc
 refine callsIn_of_wp Tryz.func138 rfl hF ?_ hro
 simp only [Tryz.ntmps138, List.size_toArray, List.length_cons, List.length_nil, Nat.reduceAdd, Nat.reduceSub, Array.replicate_succ, Array.replicate_zero, List.push_toArray, List.append_toArray, List.nil_append, List.cons_append]
 replace h2 := Kp.mk h2
 replace hk := Kp.mk hk
 replace ix := Kp.mk ix
 replace hR := Kp.mk hR
 replace hS := Kp.mk hS
 gi_wp2
 gi_loopw [10] (fun i wr => ∃ k : Nat, k ≤ Y.length ∧ i = .int .i64 k ∧ J (offY Y k) wr ∧ Kq S W wr) (fun i _ => Y.length - (intOf i).toNat)
 case atStart => exact ⟨0, Nat.zero_le _, rfl, h0, Kq.refl _ _⟩
 case round =>
  obtain ⟨k, hkl, rfl, hJk, KW⟩ := hrel
  by_cases hlt : k < Y.length
  ·obtain rfl := h2.out (by omega)
   obtain ⟨hb, vi, c0, hins⟩ := hk.out k hlt
   replace c0 := KW.at (hS.out _ hb) (K0.at (hS.out _ hb) c0)
   obtain ⟨⟨bi, oi, ⟨⟨ai, capi, rfl, i1, i2⟩, i3⟩, hi⟩⟩ := hins
   obtain ⟨ys, hys⟩ : ∃ ys, Kp (Y[k] = ys) := ⟨_, ⟨rfl⟩⟩
   rw [hys.out] at hi i3 i1 i2 c0
   have hR2 : Kp (∀ j (hj : j < ys.length) W1, J (offY Y k + j) W1 → W.heap.size ≤ W1.heap.size → YieldAt F (n - 1) Tryz.prog l #[.agg #[.int .i64 k, .int .i64 j], inV ys[j].d ys[j].va ys[j].vb ys[j].vw] W1 fun e W' =>
     e = Ending.returned (Value.bool true) ∧ J (offY Y k + (j + 1)) W' ∧ Kd S W.heap.size W1 W' ∨ e = Ending.returned (Value.bool false) ∧ (∃ m, m < Y.flatten.length ∧ Jx (m + 1) W') ∧ Kd S W.heap.size W1 W') := ⟨fun j hj W1 hJ1 hs1 => by
    obtain ⟨q, e⟩ := flat_at Y k j hlt (by rw [hys.out]; exact hj)
    have r := hR.out _ q W1 hJ1 hs1
    have x := ix.out k hlt j (by rw [hys.out]; exact hj)
    rw [e] at r
    simp only [hys.out] at x
    simp only [itE, hys.out, x.1, x.2] at r
    refine r.mono ?_
    rintro e w' (⟨h1, h2, h3⟩ | ⟨h1, h2, h3⟩)
    ·exact .inl ⟨h1, h2, h3⟩
    ·exact .inr ⟨h1, ⟨_, q, h2⟩, h3⟩⟩
   have hoff : Kp (offY Y (k + 1) = offY Y k + ys.length) := ⟨by rw [offY_succ Y k hlt, hys.out]⟩
   replace hi := Kp.mk hi
   replace i2 := Kp.mk i2
   replace c0 : At wr b (o + k) (.slice ai ys.length capi) := c0
   have HJ := Kp.mk hJk
   have hbl := Lib.lt_of_cell c0
   clear hR ix hk hys
   generalize offY Y k = O at *
   gi_wp2
   gi_loopw [18] (fun i wq => ∃ j : Nat, j ≤ ys.length ∧ i = .int .i64 j ∧ J (O + j) wq ∧ Kq S W wq) (fun i _ => ys.length - (intOf i).toNat)
   case atStart =>
    exact ⟨0, Nat.zero_le _, rfl, hJ _ _ _ HJ.out KW.size ((bel_alloc _ _).mono KW.size), KW.trans (Kq.below (bel_alloc _ _) (fun k hk => by have := hSw k hk; have := hW.size; have := KW.size; omega))⟩
   case round =>
    obtain ⟨j, hjl, rfl, hJj, KQ⟩ := hrel
    by_cases hlt2 : j < ys.length
    ·obtain rfl := i2.out (by omega)
     obtain ⟨hb2, sh, c9⟩ := hi.out j hlt2
     replace c9 := KQ.i9 (hS.out _ hb2) (K0.i9 (hS.out _ hb2) c9)
     have hR3 := hR2.out j hlt2
     generalize ys[j] = y at *
     obtain ⟨yb, yi, d, va, vb, vw⟩ := y
     obtain ⟨⟨p1, m1, g1, rfl⟩, ⟨p2, m2, g2, rfl⟩, ⟨p3, m3, g3, rfl⟩⟩ := sh
     obtain ⟨q0, q1, q2, q3, q4, q5, q6, q7, q8⟩ := c9
     have hwl : W.heap.size ≤ wr.heap.size := KQ.size
     have hsl : ∀ k, S k → k < W.heap.size := fun k hk => by have := hSw k hk; have := hW.size; omega
     obtain ⟨fn, tmps, assign, body, hy, hRR⟩ := hR3 (wr.alloc (Go.Obj.cells #[.int .i64 d.op, .int .i64 d.ty, .int .i64 d.fl, .int .i64 d.pr, .int .i64 d.ca, .int .i64 d.sz, .slice p1 m1 g1, .slice p2 m2 g2, .slice p3 m3 g3] 73))
      (hJ _ _ _ hJj hwl ((bel_alloc _ _).mono hwl)) (by simp; omega)
     have KA : Kq S W (wr.alloc (Go.Obj.cells #[.int .i64 d.op, .int .i64 d.ty, .int .i64 d.fl, .int .i64 d.pr, .int .i64 d.ca, .int .i64 d.sz, .slice p1 m1 g1, .slice p2 m2 g2, .slice p3 m3 g3] 73)) :=
      KQ.trans (Kq.below (bel_alloc _ _) (fun k hk => by have := hsl k hk; omega))
     dsimp only at hy
     gi_wp2
     refine hRR.mono ?_
     rintro e W3 (⟨rfl, hJ3, hk3⟩ | ⟨rfl, ⟨m, hm, hJx3⟩, hk3⟩)
     ·gi_wp2
      exact ⟨⟨j + 1, by omega, by go_num, hJ3, KA.trans hk3.kq⟩, by simp [intOf]; omega⟩
     ·gi_wp2
      refine bodyPost_ret (results_none rfl _ _ _) rfl ?_
      exact ⟨⟨_, rfl⟩, .inr ⟨m, hm, hJx3⟩⟩
    ·exact tl94
  ·obtain rfl : k = Y.length := by omega
   gi_wp2
   go_end0
   exact ⟨⟨_, rfl⟩, .inl (by rw [← offY_end]; exact hJk)⟩
end Go.Proofs.YtgdcgjlmkmdklaaGreatDoor

namespace Go.Proofs.YtgdcgjlmkmdklaaGreatDoor
open Go.ChangeShapes Go.WideShapes Go.ChangeAt Go.RowKit
attribute [local go_sem] Oper.semAt_some
set_option linter.unusedVariables false
set_option linter.unusedSimpArgs false
theorem room_any {F : Fence} (hd : F.depth = none) (k : Nat) : F.room k := fun d h => by rw [hd] at h; cases h
theorem yield_any {F : Fence} (hd : F.depth = none) {m : Nat} (m' : Nat) {P : Program} {l : Nat} {args : Array Value} {W : World} {R : Ending → World → Prop} (h : YieldAt F m P l args W R) : YieldAt F m' P l args W R := by
 obtain ⟨fn, tmps, assign, body, hy, hR⟩ := h
 exact ⟨fn, tmps, assign, body, hy, hR.1, fun c cs _ => hR.2 c cs (room_any hd _)⟩
def defL (n : Int) : List ItD → List (Int × Nat × Nat)
 | [] => []
 | y :: r => if y.d.ty = 0 then defL n r else (n, y.b, y.i) :: defL (n + 1) r
def cntD (L : List ItD) : Nat := (L.filter fun y => !decide (y.d.ty = 0)).length
theorem cnt_take (L : List ItD) (k : Nat) (h : k < L.length) : cntD (L.take (k + 1)) = cntD (L.take k) + if L[k].d.ty = 0 then 0 else 1 := by
 unfold cntD
 rw [List.take_succ_eq_append_getElem h, List.filter_append, List.length_append]
 by_cases q : L[k].d.ty = 0 <;> simp [q]
theorem cnt_le (L : List ItD) (k : Nat) : cntD (L.take k) ≤ L.length := by
 unfold cntD
 have := List.length_filter_le (fun y => !decide (y.d.ty = 0)) (L.take k)
 have := List.length_take_le' k L
 omega
theorem defL_len (n : Int) (L : List ItD) : (defL n L).length = cntD L := by
 unfold cntD
 induction L generalizing n with
 | nil => rfl
 | cons y r ih =>
  by_cases q : y.d.ty = 0
  ·simp [defL, q, ih]
  ·simp [defL, q, ih]
theorem defL_at (n : Int) (L : List ItD) (k : Nat) (h : k < L.length) (ht : L[k].d.ty ≠ 0) : ∃ q : cntD (L.take k) < (defL n L).length, (defL n L)[cntD (L.take k)] = (n + cntD (L.take k), L[k].b, L[k].i) := by
 induction L generalizing n k with
 | nil => simp at h
 | cons y r ih =>
  cases k with
  | zero =>
   simp only [List.getElem_cons_zero] at ht
   simp [defL, ht, cntD]
  | succ k =>
   simp only [List.getElem_cons_succ] at ht ⊢
   by_cases q : y.d.ty = 0
   ·obtain ⟨q1, q2⟩ := ih n k (by simpa using h) ht
    have e : cntD ((y :: r).take (k + 1)) = cntD (r.take k) := by simp [cntD, q]
    simp only [defL, q, if_true, e]
    exact ⟨q1, q2⟩
   ·obtain ⟨q1, q2⟩ := ih (n + 1) k (by simpa using h) ht
    have e : cntD ((y :: r).take (k + 1)) = cntD (r.take k) + 1 := by simp [cntD, q]
    simp only [defL, q, if_false, e, List.length_cons, List.getElem_cons_succ]
    refine ⟨by omega, ?_⟩
    rw [q2]
    simp; omega
abbrev dfE (x : Int × Nat × Nat) : Array Value := #[.int .i64 x.1, .agg #[.int .i64 x.2.1, .int .i64 x.2.2]]
theorem instrsOf_c (name : ByteArray) (link res : Int) (vp vb : Value) (hp : ∃ a n c, vp = .slice a n c) (hb : ∃ a n c, vb = .slice a n c) (w : World) :
  Calls Tryz.prog 104 #[.agg #[.string name, .int .i64 link, vp, .int .i64 res, vb]] w fun e w' => e = .returned (.func (.func 138) #[] #[.pointer (some ⟨w.heap.size, 0, none⟩)]) ∧ w' = w.alloc (.cells #[.string name, .int .i64 link, vp, .int .i64 res, vb] 53) := by
 obtain ⟨a1, n1, c1, rfl⟩ := hp
 obtain ⟨a2, n2, c2, rfl⟩ := hb
 go_enter Tryz.func104, Tryz.ntmps104
 go_wp2
 go_ret
 exact ⟨rfl, rfl⟩
theorem definitionsOf_c (name : ByteArray) (link res : Int) (vp vb : Value) (hp : ∃ a n c, vp = .slice a n c) (hb : ∃ a n c, vb = .slice a n c) (w : World) :
  Calls Tryz.prog 71 #[.agg #[.string name, .int .i64 link, vp, .int .i64 res, vb]] w fun e w' => e = .returned (.func (.func 126) #[] #[.pointer (some ⟨w.heap.size, 0, none⟩)]) ∧ w' = w.alloc (.cells #[.string name, .int .i64 link, vp, .int .i64 res, vb] 53) := by
 obtain ⟨a1, n1, c1, rfl⟩ := hp
 obtain ⟨a2, n2, c2, rfl⟩ := hb
 go_enter Tryz.func71, Tryz.ntmps71
 go_wp2
 go_ret
 exact ⟨rfl, rfl⟩
set_option maxRecDepth 100000 in
set_option maxHeartbeats 2000000 in
theorem defs_seq (n : Nat) (S : Nat → Prop) (n0 Bf : Nat) (w0 : World) (name : ByteArray) (link res : Int) (vp vb : Value) (np : Nat) (hp : ∃ a c, vp = .slice a np c) (hb : ∃ a n c, vb = .slice a n c) (Y : List (List ItD)) (hY : ItBls n0 w0 vb Y)
  (hx : Below n0 w0 w0) (h0 : At w0 Bf 0 (.string name)) (h1 : At w0 Bf 1 (.int .i64 link)) (h2 : At w0 Bf 2 vp) (h3 : At w0 Bf 3 (.int .i64 res)) (h4 : At w0 Bf 4 vb) (hS : ∀ k, k < n0 → S k) (hB : S Bf) (hSw : ∀ k, S k → k < w0.heap.size)
  (hbd : np + Y.flatten.length ≤ 1099511627776) :
  SeqL Fence.wide n Tryz.prog 126 #[.pointer (some ⟨Bf, 0, none⟩)] dfE S (defL np Y.flatten) w0 := by
 intro l J Jx W hW hJ hJx hR hJ0
 have K0 : Kq S w0 W := Kq.below hW hSw
 obtain ⟨a1, c1, rfl⟩ := hp
 obtain ⟨a2, n2, c2, rfl⟩ := hb
 replace h0 := K0.at hB h0
 replace h1 := K0.at hB h1
 replace h2 := K0.at hB h2
 replace h3 := K0.at hB h3
 replace h4 := K0.at hB h4
 replace hY := Kp.mk hY
 replace hR := Kp.mk hR
 replace hS := Kp.mk hS
 refine callsIn_wide.2 ((callsIn_wide (n := 9)).1 ?_)
 refine callsIn_of_wp_marks Tryz.func126 rfl trivial ?_ rfl
 simp only [Tryz.ntmps126, List.size_toArray, List.length_cons, List.length_nil, Nat.reduceAdd, Nat.reduceSub, Array.replicate_succ, Array.replicate_zero, List.push_toArray, List.append_toArray, List.nil_append, List.cons_append]
 have C : Kp (∀ w, CallsIn Fence.wide 8 Tryz.prog _ _ w _) := ⟨fun w => callsIn_wide.2 (instrsOf_c name link res (.slice a1 np c1) (.slice a2 n2 c2) ⟨_, _, _, rfl⟩ ⟨_, _, _, rfl⟩ w)⟩
 have q2 := at_keep h2 (bel_alloc W (Go.Obj.cells #[.func (.yield l) #[] #[]] 161))
 have hW2 : Below W.heap.size W ((W.alloc (Go.Obj.cells #[.func (.yield l) #[] #[]] 161)).alloc (Go.Obj.cells #[.int .i64 np] 2)) := bel_trans (bel_alloc _ _) (bel_alloc _ _)
 replace h0 := at_keep h0 hW2
 replace h1 := at_keep h1 hW2
 replace h2 := at_keep h2 hW2
 replace h3 := at_keep h3 hW2
 replace h4 := at_keep h4 hW2
 gi_wp2
 refine ⟨trivial, ?_⟩
 refine (C.out _).mono ?_
 rintro e w' ⟨rfl, rfl⟩
 obtain ⟨W3, hW3⟩ : ∃ W3, W3 = ((W.alloc (Go.Obj.cells #[.func (.yield l) #[] #[]] 161)).alloc (Go.Obj.cells #[.int .i64 np] 2)).alloc (Go.Obj.cells #[.string name, .int .i64 link, .slice a1 np c1, .int .i64 res, .slice a2 n2 c2] 53) := ⟨_, rfl⟩
 have hz3 : W3.heap.size = W.heap.size + 3 := by rw [hW3]; simp
 have hB3 : Below W.heap.size W W3 := by rw [hW3]; exact bel_trans hW2 (bel_alloc _ _)
 have y0 : W3.heap[W.heap.size]? = some (Go.Obj.cells #[.func (.yield l) #[] #[]] 161 (0, 0)) := by
  rw [hW3, (MapKept.heap_alloc _ _).2 _ (by simp; omega), (MapKept.heap_alloc _ _).2 _ (by simp)]; exact (MapKept.heap_alloc W _).1
 have v0 : W3.heap[W.heap.size + 1]? = some (Go.Obj.cells #[.int .i64 np] 2 (0, 0)) := by
  rw [hW3, (MapKept.heap_alloc _ _).2 _ (by simp)]
  have := (MapKept.heap_alloc (W.alloc (Go.Obj.cells #[.func (.yield l) #[] #[]] 161)) (Go.Obj.cells #[.int .i64 np] 2)).1
  rwa [World.size_alloc] at this
 have f4 : At W3 (W.heap.size + 2) 4 (.slice a2 n2 c2) := by
  have := al_at ((W.alloc (Go.Obj.cells #[.func (.yield l) #[] #[]] 161)).alloc (Go.Obj.cells #[.int .i64 np] 2)) #[.string name, .int .i64 link, .slice a1 np c1, .int .i64 res, .slice a2 n2 c2] 53 (j := 4) (v := .slice a2 n2 c2) rfl
  rw [hW3]
  simpa using this
 simp only [World.size_alloc] at *
 rw [← hW3]
 clear hW3 q2 hW2 h0 h1 h2 h3 h4 C
 have hsW : ∀ k, S k → k < W.heap.size := fun k hk => by have := hSw k hk; have := hW.size; omega
 have KW3 : Kq S W W3 := Kq.below hB3 hsW
 have hY3 := hY.out.kq (K0.trans KW3) hS.out
 obtain ⟨S2, hS2⟩ : ∃ S2 : Nat → Prop, S2 = fun k => S k ∨ k = W.heap.size + 1 + 1 := ⟨_, rfl⟩
 have hs2 : ∀ k, S2 k → k < W3.heap.size := fun k hk => by
  rw [hS2] at hk
  rcases hk with hk | hk
  ·have := hsW k hk; omega
  ·omega
 have L0 : Kp (defL np Y.flatten = defL np Y.flatten) := ⟨rfl⟩
 gi_wp2
 refine wpIn_rangeL rfl (by decide) (gf := 138) (lb := #[.pointer (some ⟨W.heap.size + 1 + 1, 0, none⟩)]) rfl trivial (enters_of Tryz.func138 (by kernel_rfl) rfl)
  (instrs_seq Fence.wide (9 - 1) trivial rfl (by decide) S2 n0 (W.heap.size + 1 + 1) W3 (.slice a2 n2 c2) Y hY3 f4 (fun k hk => by rw [hS2]; exact .inl (hS.out k hk)) (by rw [hS2]; exact .inr rfl) hs2) (Below.refl _ _) hs2 (fun _ => rfl)
  (fun k X => J (cntD (Y.flatten.take k)) X ∧ X.heap[W.heap.size]? = some (Go.Obj.cells #[.func (.yield l) #[] #[]] 161 (0, 0)) ∧ X.heap[W.heap.size + 1]? = some (Go.Obj.cells #[.int .i64 (np + cntD (Y.flatten.take k) : Nat)] 2 (0, 0)) ∧ Kq S W X)
  (fun c k X => c = .ret ∧ ∃ m, m < (defL np Y.flatten).length ∧ Jx (m + 1) X) ?hI ?hIx ?h0
  (fun x a' X => ∃ B1 B2, W3.heap.size ≤ B1 ∧ W3.heap.size ≤ B2 ∧ X.heap[B1]? = some (Go.Obj.cells #[.int .i64 x.b, .int .i64 x.i] 116 (0, 0)) ∧ At X B2 1 (.int .i64 x.d.ty) ∧ ∃ u11 u12,
   a' = { tmps := #[.func (.yield l) #[] #[], .pointer (some ⟨Bf, 0, none⟩), .pointer (some ⟨W.heap.size, 0, none⟩), .pointer (some ⟨W.heap.size + 1, 0, none⟩), .pointer (some ⟨B1, 0, none⟩), .pointer (some ⟨B2, 0, none⟩), .pointer (some ⟨Bf, 2, none⟩), .slice a1 np c1, .int .i64 np,
    .agg #[.string name, .int .i64 link, .slice a1 np c1, .int .i64 res, .slice a2 n2 c2], .func (.func 138) #[] #[.pointer (some ⟨W.heap.size + 1 + 1, 0, none⟩)], u11, u12, undef, undef, undef, undef, undef, undef, undef, undef, undef, undef], defers := [] }) ?hAx ?assign ?body ?done ?stop
 case hI =>
  rintro k A C ⟨s1, s2, s3, s4⟩ hA hB
  exact ⟨hJ _ A C s1 (by omega) (hB.mono (by omega)), (hB.block _ (by omega)).trans s2, (hB.block _ (by omega)).trans s3, s4.trans (Kq.below hB (fun j hj => by have := hsW j hj; omega))⟩
 case hIx =>
  rintro c k A C ⟨s1, m, s2, s3⟩ hA hB
  exact ⟨s1, m, s2, hJx (m + 1) A C s3 (by omega) (hB.mono (by omega))⟩
 case h0 => exact ⟨hJ 0 W W3 hJ0 (Nat.le_refl _) hB3, y0, by simpa [cntD] using v0, KW3⟩
 case hAx =>
  rintro x a' u A C row ⟨B1, B2, b1, b2, p1, p2, p3⟩ hg hr
  refine ⟨B1, B2, b1, b2, (hg.block B1 (Array.getElem?_eq_some_iff.1 p1).1 (fun e => ?_)).trans p1, cell_kept p2 hg (fun r e => (hr r e).2), p3⟩
  exact tl111
 case assign =>
  intro lr k hk X K hi hX hK
  have sh := hY.out.sh (List.getElem_mem hk)
  clear hi
  generalize Y.flatten[k] = y at *
  obtain ⟨yb, yi, d, va, vb, vw⟩ := y
  obtain ⟨⟨p1, m1, g1, rfl⟩, ⟨p2, m2, g2, rfl⟩, ⟨p3, m3, g3, rfl⟩⟩ := sh
  simp only [itE, List.zip_toArray, List.zip_cons_cons, List.zip_nil_right, List.foldl_toArray', List.foldl_cons, List.foldl_nil, List.setIfInBounds_toArray, List.set_cons_succ, List.set_cons_zero, Array.zip, List.toList_toArray]
  gi_wp2
  refine hK _ _ (bel_trans (bel_alloc _ _) (bel_alloc _ _)) ⟨X.heap.size, X.heap.size + 1, hX, by omega, ?_, ?_, _, _, rfl⟩
  ·rw [(MapKept.heap_alloc _ _).2 _ (by simp)]; exact (MapKept.heap_alloc X _).1
  ·have := al_at (X.alloc (Go.Obj.cells #[.int .i64 yb, .int .i64 yi] 116)) #[.int .i64 d.op, .int .i64 d.ty, .int .i64 d.fl, .int .i64 d.pr, .int .i64 d.ca, .int .i64 d.sz, .slice p1 m1 g1, .slice p2 m2 g2, .slice p3 m3 g3] 73 (j := 1) (v := .int .i64 d.ty) rfl
   simpa using this
 case body =>
  rintro lr k hk a' X hX ⟨i1, i2, i3, i4⟩ ⟨B1, B2, b1, b2, p1, p2, u11, u12, rfl⟩
  have hcb : X.cell? ⟨W.heap.size, 0, none⟩ = some (.func (.yield l) #[] #[]) := by simp [World.cell?, i2]
  have hcv : X.cell? ⟨W.heap.size + 1, 0, none⟩ = some (.int .i64 (np + cntD (Y.flatten.take k) : Nat)) := by simp [World.cell?, i3]
  have hp0 : X.cell? ⟨B1, 0, none⟩ = some (.int .i64 Y.flatten[k].b) := by simp [World.cell?, p1]
  have hp1 : X.cell? ⟨B1, 1, none⟩ = some (.int .i64 Y.flatten[k].i) := by simp [World.cell?, p1]
  have hct := cnt_take Y.flatten k hk
  have hle := cnt_le Y.flatten k
  by_cases ht : Y.flatten[k].d.ty = 0
  ·rw [ht] at p2
   rw [if_pos ht, Nat.add_zero] at hct
   replace hct := Kp.mk hct
   gi_wp2
   exact ⟨Kd.refl _ _ _, by rw [hct.out]; exact i1, i2, by rw [hct.out]; exact i3, i4⟩
  ·obtain ⟨hq, hdf⟩ := defL_at np Y.flatten k hk ht
   have hR2 := hR.out _ hq X i1 (by omega)
   rw [hdf] at hR2
   rw [if_neg ht] at hct
   have hb0 : (Y.flatten[k].d.ty == 0) = false := beq_eq_false_iff_ne.2 ht
   replace hct := Kp.mk hct
   replace hq := Kp.mk hq
   clear hdf ht
   generalize Y.flatten[k] = y at *
   generalize cntD (Y.flatten.take k) = m at *
   obtain ⟨fn, tmps, assign, body, hy, hRR⟩ := yield_any rfl 6 hR2
   dsimp only [dfE] at hy
   have hzX : W.heap.size + 1 < X.heap.size := by omega
   gi_wp2
   refine RoundIn.mono (show RoundIn (Fence.wide.inRound lr) 6 _ _ _ _ _ _ _ _ from hRR) ?_
   rintro e X3 (⟨rfl, hJ3, hk3⟩ | ⟨rfl, hJx3, hk3⟩)
   ·have j2 : X3.heap[W.heap.size]? = _ := (hk3.high W.heap.size (Nat.le_refl _) (by omega)).trans i2
    have j3 : X3.heap[W.heap.size + 1]? = _ := (hk3.high (W.heap.size + 1) (by omega) (by omega)).trans i3
    have hcv3 : X3.cell? ⟨W.heap.size + 1, 0, none⟩ = some (.int .i64 (np + m : Nat)) := by simp [World.cell?, j3]
    have hfv3 : X3.frozen? ⟨W.heap.size + 1, 0, none⟩ = false := by simp [World.frozen?, j3]
    gi_wp2
    refine ⟨?_, ?_, ?_, ?_, ?_⟩
    ·have hm3 : Kd S2 W3.heap.size X X3 := hk3.mono (M := W3.heap.size) (by omega) (fun j hj => by
      exact tl97)
     have hne : ¬ S2 (W.heap.size + 1) := by
      intro hj
      rw [hS2] at hj
      rcases hj with hj | hj
      ·have := hsW _ hj; omega
      ·omega
     exact hm3.setCell (p := ⟨W.heap.size + 1, 0, none⟩) hne (show W.heap.size + 1 < W3.heap.size by omega) _
    ·rw [hct.out]; exact hJ _ _ _ hJ3 (by have := hk3.size; omega) (bel_set (Below.refl _ _) (by omega) _)
    ·exact (Below.heap_setCell _ _ _ _ (by simp)).trans j2
    ·rw [hct.out, ← Nat.add_assoc]
     have := Boxed.set (.int .i64 ((np : Int) + m + 1)) (show Boxed X3 (W.heap.size + 1) _ _ from j3)
     simpa [Boxed] using this
    ·exact i4.trans (hk3.kq.trans (Kq.below (bel_set (Below.refl W.heap.size _) (by omega) _) hsW))
   ·gi_wp2
    refine ⟨?_, rfl, m, hq.out, hJx3⟩
    exact hk3.mono (M := W3.heap.size) (by omega) (fun j hj => by
      exact tl97)
 case done =>
  rintro D X hD ⟨i1, i2, i3, i4⟩ hK
  rw [List.take_length, ← defL_len np Y.flatten] at i1
  gi_wp2
  refine ⟨by simp, .inl ⟨_, _, rfl, run_takeDeferred hK, ?_⟩⟩
  refine ⟨_, results_none rfl _ _ _, ⟨_, rfl⟩, .inl ?_⟩
  exact hJ.putObj _ i1 (by omega) (by have := (Array.getElem?_eq_some_iff.1 hK).1; omega)
 case stop =>
  rintro D c k X hD hk ⟨rfl, m, hm, hx⟩ hK
  gi_wp2
  refine ⟨by simp, .inl ⟨_, _, rfl, run_takeDeferred hK, ?_⟩⟩
  refine ⟨_, results_none rfl _ _ _, ⟨_, rfl⟩, .inr ⟨m, hm, ?_⟩⟩
  exact hJx.putObj _ hx (by omega) (by have := (Array.getElem?_eq_some_iff.1 hK).1; omega)
end Go.Proofs.YtgdcgjlmkmdklaaGreatDoor
