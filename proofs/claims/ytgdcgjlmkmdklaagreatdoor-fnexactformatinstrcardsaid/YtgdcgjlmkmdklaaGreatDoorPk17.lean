/- Texts of one claim. -/
import Derived.Test.YtgdcgjlmkmdklaaGreatDoorPk0
import Derived.Test.YtgdcgjlmkmdklaaGreatDoorPk14
namespace Go.Proofs.YtgdcgjlmkmdklaaGreatDoor
open Go.ChangeShapes Go.WideShapes Go.ChangeAt Go.RowKit
set_option linter.unusedVariables false
set_option linter.unusedSimpArgs false
theorem difB_getD (xs : List Int) : difB xs = true ↔ ∀ i j, i < xs.length → j < i → xs.getD i 0 ≠ xs.getD j 0 := by
 exact tl29
set_option maxRecDepth 100000 in
set_option maxHeartbeats 8000000 in
theorem l2HeadYesB (gs : List GlD) (fs : List FnD) (vg vf : Value) (f : FnD) (vp vb : Value) (bk : Int) (x : InD) (va vl vs : Value) (w : World) {lo : Nat} (hm : MoAt lo w gs fs vg vf) (hp : ∃ a n c, vp = .slice a n c) (hb : ∃ a n c, vb = .slice a n c) (hx : InV lo w va vl vs x) (hA : 0 ≤ x.fl) (hB : bits .andNot .i64 x.fl (flgs x.op) = 0) (hC : x.op = 14 ∨ x.pr = 0) (hD : x.op = 25 ∨ x.ca = 0) (hE : x.op = 21 ∨ x.sz = 0) (hG : x.op = 29 ∨ x.ws.length = 0) (hop : ¬ (x.op = 14 ∨ x.op = 21 ∨ x.op = 25 ∨ x.op = 29)) :
  Calls Tryz.prog 88 #[moV vg vf, fnV f vp vb, .int .i64 bk, inV x va vl vs] w fun e w' => e = .returned (.bool (hdB fs bk x)) ∧ Below w.heap.size w w' := by
 obtain ⟨op, ty, fl, pr, ca, sz, args, bl, ws⟩ := x
 obtain ⟨name, link, params, res, blocks⟩ := f
 obtain ⟨a3, n3, c3, rfl⟩ := hp
 obtain ⟨a4, n4, c4, rfl⟩ := hb
 obtain ⟨ha, hl, hs⟩ := hx
 dsimp only [moV, fnV, inV] at *
 obtain ⟨a5, c5, rfl⟩ := hl.shape
 obtain ⟨b6, o6, ⟨⟨a6, c6, rfl, w1, w2⟩, s6⟩, -, hwc⟩ := hs.ex
 obtain ⟨b7, o7, ⟨⟨a7, c7, rfl, -, -⟩, s7⟩, -, -⟩ := ha.ex
 obtain ⟨a1, c1, rfl⟩ := hm.g.shape
 obtain ⟨bf, of, ⟨⟨a2, c2, rfl, f1, f2⟩, f3⟩, -, hfc⟩ := hm.f.ex
 have g2 : (fs.length : Int) ≤ 140737488355328 := by omega
 have g6 : (ws.length : Int) ≤ 140737488355328 := by omega
 obtain ⟨W0, hW⟩ : ∃ W0, W0 = ((w.alloc (Go.Obj.cells #[.slice a1 gs.length c1, .slice a2 fs.length c2] 33)).alloc (Go.Obj.cells #[.string name, .int .i64 link, .slice a3 n3 c3, .int .i64 res, .slice a4 n4 c4] 53)).alloc (Go.Obj.cells #[.int .i64 op, .int .i64 ty, .int .i64 fl, .int .i64 pr, .int .i64 ca, .int .i64 sz, .slice a7 args.length c7, .slice a5 bl.length c5, .slice a6 ws.length c6] 73) := ⟨_, rfl⟩
 obtain ⟨hz, B0, x1, x2, x3⟩ := boxes3 hW
 have m1 : At W0 w.heap.size 1 _ := cells_at x1 rfl
 have i0 : At W0 (w.heap.size + 1 + 1) 0 _ := cells_at x3 rfl
 have i1 : At W0 (w.heap.size + 1 + 1) 1 _ := cells_at x3 rfl
 have i2 : At W0 (w.heap.size + 1 + 1) 2 _ := cells_at x3 rfl
 have i3 : At W0 (w.heap.size + 1 + 1) 3 _ := cells_at x3 rfl
 have i4 : At W0 (w.heap.size + 1 + 1) 4 _ := cells_at x3 rfl
 have i5 : At W0 (w.heap.size + 1 + 1) 5 _ := cells_at x3 rfl
 have i8 : At W0 (w.heap.size + 1 + 1) 8 _ := cells_at x3 rfl
 have FL : Kp (∀ w, Calls Tryz.prog 132 #[.int .i64 op] w fun e w' => e = .returned (.int .i64 (flgs op)) ∧ w' = w) := ⟨fun w => flgsS op w⟩
 have VW : Kp (∀ w, Calls Tryz.prog 86 #[.int .i64 ty] w fun e w' => e = .returned (.bool (vw ty)) ∧ w' = w) := ⟨fun w => vwS_any ty w⟩
 have VT : Kp (∀ w, Calls Tryz.prog 46 #[.int .i64 ty] w fun e w' => e = .returned (.bool (vtB ty)) ∧ w' = w) := ⟨fun w => vtS ty w⟩
 clear x1 x2 ha hl hs
 replace hW := Kp.mk hW
 replace hfc := Kp.mk hfc
 replace f2 := Kp.mk f2
 replace hm := Kp.mk hm
 replace hwc := Kp.mk hwc
 replace w2 := Kp.mk w2
 replace x3 := Kp.mk x3
 have G : Kp (hdB fs bk ⟨op, ty, fl, pr, ca, sz, args, bl, ws⟩ = ownB fs bk ⟨op, ty, fl, pr, ca, sz, args, bl, ws⟩) := ⟨by
  exact tl55⟩
 rw [G.out]
 clear G
 have dA : decide (fl < 0) = false := decide_eq_false (by omega)
 obtain ⟨F, hF⟩ : ∃ F, flgs op = F := ⟨_, rfl⟩
 rw [hF] at hB FL
 have dB : (bits .andNot .i64 fl F != 0) = false := by simp [hB]
 clear hF hA hB
 have e14 : ¬ op = 14 := fun h => hop (by simp [h])
 have e21 : ¬ op = 21 := fun h => hop (by simp [h])
 have e25 : ¬ op = 25 := fun h => hop (by simp [h])
 have e29 : ¬ op = 29 := fun h => hop (by simp [h])
 by_cases e15 : op = 15
 ·subst e15
  have pr0 : pr = 0 := by
   exact tl39
  clear hC
  subst pr0
  have ca0 : ca = 0 := by
   exact tl37
  clear hD
  subst ca0
  have sz0 : sz = 0 := by
   exact tl38
  clear hE
  subst sz0
  have ws0 : (ws.length : Int) = 0 := by
   exact tl40
  have dws : decide ((0 : Int) < (ws.length : Int)) = false := decide_eq_false (by omega)
  have dwsb : decide (0 < ws.length) = false := decide_eq_false (by omega)
  have dwsc : ¬ 0 < ws.length := by omega
  replace ws0 := Kp.mk ws0
  clear hG
  have G : Kp (ownB fs bk ⟨15, ty, fl, 0, 0, 0, args, bl, ws⟩ = (vtB ty)) := ⟨by simp [ownB]⟩
  rw [G.out]
  clear G
  generalize vtB ty = R at *
  as_aux_lemma =>
   exact tl142
 by_cases e16 : op = 16
 ·subst e16
  have pr0 : pr = 0 := by
   exact tl39
  clear hC
  subst pr0
  have ca0 : ca = 0 := by
   exact tl37
  clear hD
  subst ca0
  have sz0 : sz = 0 := by
   exact tl38
  clear hE
  subst sz0
  have ws0 : (ws.length : Int) = 0 := by
   exact tl40
  have dws : decide ((0 : Int) < (ws.length : Int)) = false := decide_eq_false (by omega)
  have dwsb : decide (0 < ws.length) = false := decide_eq_false (by omega)
  have dwsc : ¬ 0 < ws.length := by omega
  replace ws0 := Kp.mk ws0
  clear hG
  have G : Kp (ownB fs bk ⟨16, ty, fl, 0, 0, 0, args, bl, ws⟩ = (vw ty)) := ⟨by simp [ownB]⟩
  rw [G.out]
  clear G
  generalize vw ty = R at *
  as_aux_lemma =>
   exact tl141
 by_cases e17 : op = 17
 ·subst e17
  have pr0 : pr = 0 := by
   exact tl39
  clear hC
  subst pr0
  have ca0 : ca = 0 := by
   exact tl37
  clear hD
  subst ca0
  have sz0 : sz = 0 := by
   exact tl38
  clear hE
  subst sz0
  have ws0 : (ws.length : Int) = 0 := by
   exact tl40
  have dws : decide ((0 : Int) < (ws.length : Int)) = false := decide_eq_false (by omega)
  have dwsb : decide (0 < ws.length) = false := decide_eq_false (by omega)
  have dwsc : ¬ 0 < ws.length := by omega
  replace ws0 := Kp.mk ws0
  clear hG
  have G : Kp (ownB fs bk ⟨17, ty, fl, 0, 0, 0, args, bl, ws⟩ = (vw ty)) := ⟨by simp [ownB]⟩
  rw [G.out]
  clear G
  generalize vw ty = R at *
  as_aux_lemma =>
   exact tl141
 by_cases e18 : op = 18
 ·subst e18
  have pr0 : pr = 0 := by
   exact tl39
  clear hC
  subst pr0
  have ca0 : ca = 0 := by
   exact tl37
  clear hD
  subst ca0
  have sz0 : sz = 0 := by
   exact tl38
  clear hE
  subst sz0
  have ws0 : (ws.length : Int) = 0 := by
   exact tl40
  have dws : decide ((0 : Int) < (ws.length : Int)) = false := decide_eq_false (by omega)
  have dwsb : decide (0 < ws.length) = false := decide_eq_false (by omega)
  have dwsc : ¬ 0 < ws.length := by omega
  replace ws0 := Kp.mk ws0
  clear hG
  have G : Kp (ownB fs bk ⟨18, ty, fl, 0, 0, 0, args, bl, ws⟩ = (vw ty)) := ⟨by simp [ownB]⟩
  rw [G.out]
  clear G
  generalize vw ty = R at *
  as_aux_lemma =>
   exact tl141
 by_cases e20 : op = 20
 ·subst e20
  have pr0 : pr = 0 := by
   exact tl39
  clear hC
  subst pr0
  have ca0 : ca = 0 := by
   exact tl37
  clear hD
  subst ca0
  have sz0 : sz = 0 := by
   exact tl38
  clear hE
  subst sz0
  have ws0 : (ws.length : Int) = 0 := by
   exact tl40
  have dws : decide ((0 : Int) < (ws.length : Int)) = false := decide_eq_false (by omega)
  have dwsb : decide (0 < ws.length) = false := decide_eq_false (by omega)
  have dwsc : ¬ 0 < ws.length := by omega
  replace ws0 := Kp.mk ws0
  clear hG
  have G : Kp (ownB fs bk ⟨20, ty, fl, 0, 0, 0, args, bl, ws⟩ = (vtB ty)) := ⟨by simp [ownB]⟩
  rw [G.out]
  clear G
  generalize vtB ty = R at *
  as_aux_lemma =>
   exact tl142
 by_cases e22 : op = 22
 ·subst e22
  have pr0 : pr = 0 := by
   exact tl39
  clear hC
  subst pr0
  have ca0 : ca = 0 := by
   exact tl37
  clear hD
  subst ca0
  have sz0 : sz = 0 := by
   exact tl38
  clear hE
  subst sz0
  have ws0 : (ws.length : Int) = 0 := by
   exact tl40
  have dws : decide ((0 : Int) < (ws.length : Int)) = false := decide_eq_false (by omega)
  have dwsb : decide (0 < ws.length) = false := decide_eq_false (by omega)
  have dwsc : ¬ 0 < ws.length := by omega
  replace ws0 := Kp.mk ws0
  clear hG
  have G : Kp (ownB fs bk ⟨22, ty, fl, 0, 0, 0, args, bl, ws⟩ = (vtB ty)) := ⟨by simp [ownB]⟩
  rw [G.out]
  clear G
  generalize vtB ty = R at *
  as_aux_lemma =>
   exact tl142
 by_cases e24 : op = 24
 ·subst e24
  have pr0 : pr = 0 := by
   exact tl39
  clear hC
  subst pr0
  have ca0 : ca = 0 := by
   exact tl37
  clear hD
  subst ca0
  have sz0 : sz = 0 := by
   exact tl38
  clear hE
  subst sz0
  have ws0 : (ws.length : Int) = 0 := by
   exact tl40
  have dws : decide ((0 : Int) < (ws.length : Int)) = false := decide_eq_false (by omega)
  have dwsb : decide (0 < ws.length) = false := decide_eq_false (by omega)
  have dwsc : ¬ 0 < ws.length := by omega
  replace ws0 := Kp.mk ws0
  clear hG
  have G : Kp (ownB fs bk ⟨24, ty, fl, 0, 0, 0, args, bl, ws⟩ = (decide (ty = 65))) := ⟨by simp [ownB]⟩
  rw [G.out]
  clear G
  as_aux_lemma =>
   exact tl140
 have n14 := nb e14
 have n21 := nb e21
 have n25 := nb e25
 have n29 := nb e29
 have n15 := nb e15
 have n16 := nb e16
 have n17 := nb e17
 have n18 := nb e18
 have n20 := nb e20
 have n22 := nb e22
 have n24 := nb e24
 have m14 := nbT e14
 have m25 := nbT e25
 have m21 := nbT e21
 have m29 := nbT e29
 have pr0 : pr = 0 := by rcases hC with h | h; exact absurd h e14; exact h
 have ca0 : ca = 0 := by rcases hD with h | h; exact absurd h e25; exact h
 have sz0 : sz = 0 := by rcases hE with h | h; exact absurd h e21; exact h
 subst pr0 ca0 sz0
 have ws0 : (ws.length : Int) = 0 := by
  rcases hG with h | h
  ·exact absurd h e29
  ·omega
 have dws : decide ((0 : Int) < (ws.length : Int)) = false := decide_eq_false (by omega)
 have dwsb : decide (0 < ws.length) = false := decide_eq_false (by omega)
 have dwsc : ¬ 0 < ws.length := by omega
 replace ws0 := Kp.mk ws0
 by_cases e13 : op ≤ 13
 ·have G : Kp (ownB fs bk ⟨op, ty, fl, 0, 0, 0, args, bl, ws⟩ = vw ty) := ⟨by simp [ownB, e13]⟩
  rw [G.out]
  clear G hC hD hE hG e14 e25 e21 e29 e15 e16 e17 e18 e20 e22 e24
  generalize vw ty = R at *
  as_aux_lemma =>
   exact tl141
 ·have e1618 : ¬ (16 ≤ op ∧ op ≤ 18) := by omega
  have G : Kp (ownB fs bk ⟨op, ty, fl, 0, 0, 0, args, bl, ws⟩ = decide (ty = 0)) := ⟨by
   unfold ownB
   dsimp only
   rw [if_neg e13, if_neg e14, if_neg e15]
   by_cases q : op ≤ 18
   ·exfalso; omega
   ·rw [if_neg q, if_neg e20, if_neg e21, if_neg e22, if_neg e24, if_neg e25, if_neg e29]⟩
  rw [G.out]
  clear G hC hD hE hG e14 e25 e21 e29 e15 e16 e17 e18 e20 e22 e24
  have h1618 : 16 ≤ op → ¬ op ≤ 18 := fun a b => e1618 ⟨a, b⟩
  by_cases q16 : 16 ≤ op
  ·have q18 := h1618 q16
   clear e1618 h1618
   as_aux_lemma =>
    exact tl140
  ·clear e1618 h1618
   as_aux_lemma =>
    exact tl140
end Go.Proofs.YtgdcgjlmkmdklaaGreatDoor
