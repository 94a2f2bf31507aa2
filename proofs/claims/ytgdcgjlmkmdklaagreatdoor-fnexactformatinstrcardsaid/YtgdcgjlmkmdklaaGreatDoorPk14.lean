/- Texts of one claim. -/
import Derived.Test.YtgdcgjlmkmdklaaGreatDoorPk0
import Derived.Test.YtgdcgjlmkmdklaaGreatDoorPk13
import Derived.Test.YtgdcgjlmkmdklaaGreatDoorPk10
namespace Go.Proofs.YtgdcgjlmkmdklaaGreatDoor
open Go.ChangeShapes Go.WideShapes Go.ChangeAt Go.RowKit
set_option linter.unusedVariables false
set_option linter.unusedSimpArgs false
theorem nbT {x k : Int} (h : ¬ x = k) : (x != k) = true := by simp [bne, nb h]
theorem difB_take (xs : List Int) (n : Nat) (h : n < xs.length) (hd : ∀ i j (hi : i < n) (hj : j < i), xs[i]'(by omega) ≠ xs[j]'(by omega)) : True := trivial
theorem difB_iff (xs : List Int) : difB xs = true ↔ ∀ i j (hi : i < xs.length) (hj : j < i), xs[i] ≠ xs[j]'(by omega) := by
 induction xs with
 | nil => simp [difB]
 | cons x r ih =>
  simp only [difB, Bool.and_eq_true, Bool.not_eq_true', List.contains_eq_mem, decide_eq_false_iff_not, ih]
  constructor
  ·rintro ⟨h1, h2⟩ i j hi hj
   cases i with
   | zero => omega
   | succ i =>
    cases j with
    | zero =>
     intro e
     apply h1
     rw [List.getElem_cons_succ, List.getElem_cons_zero] at e
     rw [← e]
     exact List.getElem_mem _
    | succ j =>
     rw [List.getElem_cons_succ, List.getElem_cons_succ]
     exact h2 i j (by simpa using hi) (by omega)
  ·intro h
   refine ⟨fun hm => ?_, fun i j hi hj => ?_⟩
   ·obtain ⟨i, hi, e⟩ := List.getElem_of_mem hm
    have q := h (i + 1) 0 (by simpa using hi) (by omega)
    rw [List.getElem_cons_succ, List.getElem_cons_zero] at q
    exact q e
   ·have q := h (i + 1) (j + 1) (by simpa using hi) (by omega)
    rwa [List.getElem_cons_succ, List.getElem_cons_succ] at q
set_option maxRecDepth 100000 in
set_option maxHeartbeats 8000000 in
theorem l2HeadNo (gs : List GlD) (fs : List FnD) (vg vf : Value) (f : FnD) (vp vb : Value) (bk : Int) (x : InD) (va vl vs : Value) (w : World) {lo : Nat} (hm : MoAt lo w gs fs vg vf) (hp : ∃ a n c, vp = .slice a n c) (hb : ∃ a n c, vb = .slice a n c) (hx : InV lo w va vl vs x) (hno : ¬ (0 ≤ x.fl) ∨ ¬ (bits .andNot .i64 x.fl (flgs x.op) = 0) ∨ (¬ x.op = 14 ∧ ¬ x.pr = 0) ∨ (¬ x.op = 25 ∧ ¬ x.ca = 0) ∨ (¬ x.op = 21 ∧ ¬ x.sz = 0) ∨ (¬ x.op = 29 ∧ ¬ x.ws.length = 0)) :
  Calls Tryz.prog 88 #[moV vg vf, fnV f vp vb, .int .i64 bk, inV x va vl vs] w fun e w' => e = .returned (.bool (hdB fs bk x)) ∧ Below w.heap.size w w' := by
 obtain ⟨op, ty, fl, pr, ca, sz, args, bl, ws⟩ := x
 obtain ⟨name, link, params, res, blocks⟩ := f
 obtain ⟨a3, n3, c3, rfl⟩ := hp
 obtain ⟨a4, n4, c4, rfl⟩ := hb
 obtain ⟨ha, hl, hs⟩ := hx
 dsimp only [moV, fnV, inV] at *
 obtain ⟨a5, c5, rfl⟩ := hl.shape
 obtain ⟨b6, o6, ⟨⟨a6, c6, rfl, w1, w2⟩, s6⟩, -, hwc⟩ := hs.ex
 obtain ⟨b7, o7, ⟨⟨a7, c7, rfl, -, -⟩, s7⟩, -, -⟩ := ha.ex
 obtain ⟨a1, c1, rfl⟩ := hm.g.shape
 obtain ⟨bf, of, ⟨⟨a2, c2, rfl, f1, f2⟩, f3⟩, -, hfc⟩ := hm.f.ex
 have g2 : (fs.length : Int) ≤ 140737488355328 := by omega
 have g6 : (ws.length : Int) ≤ 140737488355328 := by omega
 obtain ⟨W0, hW⟩ : ∃ W0, W0 = ((w.alloc (Go.Obj.cells #[.slice a1 gs.length c1, .slice a2 fs.length c2] 33)).alloc (Go.Obj.cells #[.string name, .int .i64 link, .slice a3 n3 c3, .int .i64 res, .slice a4 n4 c4] 53)).alloc (Go.Obj.cells #[.int .i64 op, .int .i64 ty, .int .i64 fl, .int .i64 pr, .int .i64 ca, .int .i64 sz, .slice a7 args.length c7, .slice a5 bl.length c5, .slice a6 ws.length c6] 73) := ⟨_, rfl⟩
 obtain ⟨hz, B0, x1, x2, x3⟩ := boxes3 hW
 have m1 : At W0 w.heap.size 1 _ := cells_at x1 rfl
 have i0 : At W0 (w.heap.size + 1 + 1) 0 _ := cells_at x3 rfl
 have i1 : At W0 (w.heap.size + 1 + 1) 1 _ := cells_at x3 rfl
 have i2 : At W0 (w.heap.size + 1 + 1) 2 _ := cells_at x3 rfl
 have i3 : At W0 (w.heap.size + 1 + 1) 3 _ := cells_at x3 rfl
 have i4 : At W0 (w.heap.size + 1 + 1) 4 _ := cells_at x3 rfl
 have i5 : At W0 (w.heap.size + 1 + 1) 5 _ := cells_at x3 rfl
 have i8 : At W0 (w.heap.size + 1 + 1) 8 _ := cells_at x3 rfl
 have FL : Kp (∀ w, Calls Tryz.prog 132 #[.int .i64 op] w fun e w' => e = .returned (.int .i64 (flgs op)) ∧ w' = w) := ⟨fun w => flgsS op w⟩
 have VW : Kp (∀ w, Calls Tryz.prog 86 #[.int .i64 ty] w fun e w' => e = .returned (.bool (vw ty)) ∧ w' = w) := ⟨fun w => vwS_any ty w⟩
 have VT : Kp (∀ w, Calls Tryz.prog 46 #[.int .i64 ty] w fun e w' => e = .returned (.bool (vtB ty)) ∧ w' = w) := ⟨fun w => vtS ty w⟩
 clear x1 x2 ha hl hs
 replace hW := Kp.mk hW
 replace hfc := Kp.mk hfc
 replace f2 := Kp.mk f2
 replace hm := Kp.mk hm
 replace hwc := Kp.mk hwc
 replace w2 := Kp.mk w2
 replace x3 := Kp.mk x3
 have G : Kp (hdB fs bk ⟨op, ty, fl, pr, ca, sz, args, bl, ws⟩ = false) := ⟨by
  unfold hdB
  dsimp only
  rcases hno with h | h | ⟨h, k⟩ | ⟨h, k⟩ | ⟨h, k⟩ | ⟨h, k⟩
  ·simp [h]
  ·simp [h]
  ·simp [h, k]
  ·simp [h, k]
  ·simp [h, k]
  ·simp [h, k]⟩
 rw [G.out]
 replace hno := Kp.mk hno
 clear hwc hfc VW VT
 obtain ⟨F, hF⟩ : ∃ F, flgs op = F := ⟨_, rfl⟩
 rw [hF] at hno FL
 clear hF G
 by_cases hA : 0 ≤ fl
 ·have dA : decide (fl < 0) = false := decide_eq_false (by omega)
  by_cases hB : bits .andNot .i64 fl F = 0
  ·have dB : (bits .andNot .i64 fl F != 0) = false := by simp [hB]
   have hno' : Kp ((¬ op = 14 ∧ ¬ pr = 0) ∨ (¬ op = 25 ∧ ¬ ca = 0) ∨ (¬ op = 21 ∧ ¬ sz = 0) ∨ (¬ op = 29 ∧ ¬ ws.length = 0)) := ⟨by
    rcases hno.out with h | h | h
    ·exact absurd hA h
    ·exact absurd hB h
    ·exact h⟩
   clear hno hA hB
   by_cases hCf : ¬ op = 14 ∧ ¬ pr = 0
   ·have m14 := nbT hCf.1
    have p14 := nbT hCf.2
    clear hno' hCf
    as_aux_lemma =>
     exact tl6
   have hCp : op = 14 ∨ (¬ op = 14 ∧ pr = 0) := by omega
   clear hCf
   by_cases hDf : ¬ op = 25 ∧ ¬ ca = 0
   ·have m25 := nbT hDf.1
    have p25 := nbT hDf.2
    clear hno' hDf
    rcases hCp with rfl | ⟨h1, h2⟩
    ·clear m25
     as_aux_lemma =>
      exact tl6
    ·have m14 := nbT h1
     have p14 : (pr != 0) = false := by simp [h2]
     clear h1 h2
     as_aux_lemma =>
      exact tl6
   have hDp : op = 25 ∨ (¬ op = 25 ∧ ca = 0) := by omega
   clear hDf
   by_cases hEf : ¬ op = 21 ∧ ¬ sz = 0
   ·have m21 := nbT hEf.1
    have p21 := nbT hEf.2
    clear hno' hEf
    rcases hCp with rfl | ⟨h1, h2⟩
    ·have h4 : ca = 0 := by omega
     have p25 : (ca != 0) = false := by simp [h4]
     clear hDp h4 m21
     as_aux_lemma =>
      exact tl6
    ·have m14 := nbT h1
     have p14 : (pr != 0) = false := by simp [h2]
     clear h1 h2
     rcases hDp with rfl | ⟨h3, h4⟩
     ·clear m14 m21
      as_aux_lemma =>
       exact tl6
     ·have m25 := nbT h3
      have p25 : (ca != 0) = false := by simp [h4]
      clear h3 h4
      as_aux_lemma =>
       exact tl6
   have hEp : op = 21 ∨ (¬ op = 21 ∧ sz = 0) := by omega
   clear hEf
   have hGf : ¬ op = 29 ∧ ¬ ws.length = 0 := by
    rcases hno'.out with h | h | h | h
    ·omega
    ·omega
    ·omega
    ·exact h
   have m29 := nbT hGf.1
   have p29 : decide ((0 : Int) < (ws.length : Int)) = true := decide_eq_true (by omega)
   have p29b : decide (0 < ws.length) = true := decide_eq_true (by omega)
   have p29c : 0 < ws.length := by omega
   clear hno' hGf
   rcases hCp with rfl | ⟨h1, h2⟩
   ·have h4 : ca = 0 := by omega
    have h5 : sz = 0 := by omega
    have p25 : (ca != 0) = false := by simp [h4]
    have p21 : (sz != 0) = false := by simp [h5]
    clear hDp hEp h4 h5 m29
    as_aux_lemma =>
     exact tl6
   ·have m14 := nbT h1
    have p14 : (pr != 0) = false := by simp [h2]
    clear h1 h2
    rcases hDp with rfl | ⟨h3, h4⟩
    ·have h5 : sz = 0 := by omega
     have p21 : (sz != 0) = false := by simp [h5]
     clear hEp h5 m14 m29
     as_aux_lemma =>
      exact tl6
    ·have m25 := nbT h3
     have p25 : (ca != 0) = false := by simp [h4]
     clear h3 h4
     rcases hEp with rfl | ⟨h5, h6⟩
     ·clear m14 m25 m29
      as_aux_lemma =>
       exact tl6
     ·have m21 := nbT h5
      have p21 : (sz != 0) = false := by simp [h6]
      clear h5 h6
      as_aux_lemma =>
       exact tl6
  ·have dB : (bits .andNot .i64 fl F != 0) = true := by simp [hB]
   clear hno hA hB
   as_aux_lemma =>
    exact tl6
 ·have dA : decide (fl < 0) = true := decide_eq_true (by omega)
  clear hno hA
  as_aux_lemma =>
   exact tl6
end Go.Proofs.YtgdcgjlmkmdklaaGreatDoor
