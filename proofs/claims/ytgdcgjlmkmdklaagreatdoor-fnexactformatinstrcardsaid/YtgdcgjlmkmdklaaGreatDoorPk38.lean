/- Texts of one claim. -/
import Derived.Test.YtgdcgjlmkmdklaaGreatDoorPk0
import Derived.Test.YtgdcgjlmkmdklaaGreatDoorPk35
import Derived.Test.YtgdcgjlmkmdklaaGreatDoorPk37
import Derived.Test.YtgdcgjlmkmdklaaGreatDoorPk36
import Derived.Test.YtgdcgjlmkmdklaaGreatDoorPk10
namespace Go.Proofs.YtgdcgjlmkmdklaaGreatDoor
open Go.ChangeShapes Go.WideShapes Go.ChangeAt Go.RowKit
set_option linter.unusedVariables false
set_option linter.unusedSimpArgs false
theorem firstF_some {α : Type} {p : Nat → Option α} {n : Nat} {v : α} (h : firstF p n = some v) : ∃ i, i < n ∧ p i = some v := by
 induction n with
 | zero => cases h
 | succ n ih =>
  rw [firstF] at h
  cases q : firstF p n with
  | none => rw [q] at h; exact ⟨n, by omega, by simpa using h⟩
  | some x =>
   rw [q] at h
   obtain ⟨i, hi, e⟩ := ih (by rw [q]; simpa using h)
   exact ⟨i, by omega, e⟩
theorem boF_ne {ng : Nat} {fs : List FnD} {f : FnD} {fn : Nat} {x : FtD} (h : boF ng fs f fn = some x) : ¬ x.1 = 0 := by
 obtain ⟨b, hb, e⟩ := firstF_some h
 unfold blF at e
 split at e
 ·cases e; simp
 ·obtain ⟨i, hi, e2⟩ := firstF_some e
  split at e2
  ·cases e2
  ·rename_i q
   cases e2
   exact q
structure ShR (gs : List GlD) (fs : List FnD) (T : FtD) : Prop where
 big : 12 < gs.length ∨ 12 < fs.length → T = (1, -1, -1, -1)
 glo : ¬ (12 < gs.length ∨ 12 < fs.length) → ∀ i, i < gs.length → (∀ j, j < i → gloB gs j = true) → gloB gs i = false → T = (2, -1, -1, (i : Int))
 hea : ¬ (12 < gs.length ∨ 12 < fs.length) → (∀ j, j < gs.length → gloB gs j = true) → ∀ k, k < fs.length → (∀ j, j < k → heaB gs fs j = true ∧ boF gs.length fs (calD fs j) j = none) → heaB gs fs k = false → T = (3, (k : Int), -1, -1)
 bod : ¬ (12 < gs.length ∨ 12 < fs.length) → (∀ j, j < gs.length → gloB gs j = true) → ∀ k, k < fs.length → (∀ j, j < k → heaB gs fs j = true ∧ boF gs.length fs (calD fs j) j = none) → heaB gs fs k = true → ∀ x, boF gs.length fs (calD fs k) k = some x → T = x
 fin : ¬ (12 < gs.length ∨ 12 < fs.length) → (∀ j, j < gs.length → gloB gs j = true) → (∀ j, j < fs.length → heaB gs fs j = true ∧ boF gs.length fs (calD fs j) j = none) → T = (0, 0, 0, 0)
theorem shR (gs : List GlD) (fs : List FnD) : ShR gs fs (shF gs fs) := by
 constructor
 ·intro h; unfold shF; rw [if_pos h]
 ·intro h i hi hb hv
  unfold shF
  rw [if_neg h, firstF_hit hi (fun j hj => by rw [if_pos (hb j hj)]) (by rw [if_neg (by rw [hv]; simp)])]
  rfl
 ·intro h hg k hk hb hv
  unfold shF
  rw [if_neg h, firstF_none (p := fun i => if gloB gs i = true then none else some (2, -1, -1, (i : Int))) (fun j hj => by rw [if_pos (hg j hj)]), firstF_hit hk (fun j hj => by rw [if_pos (hb j hj).1, (hb j hj).2]) (by rw [if_neg (by rw [hv]; simp)])]
  rfl
 ·intro h hg k hk hb hv x hx
  unfold shF
  rw [if_neg h, firstF_none (p := fun i => if gloB gs i = true then none else some (2, -1, -1, (i : Int))) (fun j hj => by rw [if_pos (hg j hj)]), firstF_hit hk (fun j hj => by rw [if_pos (hb j hj).1, (hb j hj).2]) (by rw [if_pos hv, hx])]
  rfl
 ·intro h hg hb
  unfold shF
  rw [if_neg h, firstF_none (p := fun i => if gloB gs i = true then none else some (2, -1, -1, (i : Int))) (fun j hj => by rw [if_pos (hg j hj)]), firstF_none (fun j hj => by rw [if_pos (hb j hj).1, (hb j hj).2])]
  rfl
set_option maxRecDepth 100000 in
set_option maxHeartbeats 4000000 in
theorem shapeS (gs : List GlD) (fs : List FnD) (vg vf : Value) (w : World) {lo : Nat} (h : MoAt lo w gs fs vg vf) (hn : moN gs fs ≤ 1048576) (hbd : MoB gs fs) :
  Calls Tryz.prog 7 #[.agg #[vg, vf]] w fun e w' => e = .returned (ftV (shF gs fs)) ∧ Below w.heap.size w w' := by
 obtain ⟨ag, kg, rfl⟩ := h.g.shape
 obtain ⟨af, kf, rfl⟩ := h.f.shape
 have g1 : (fs.length : Int) ≤ 140737488355328 := by obtain ⟨_, _, q, _⟩ := h.f.ex; have := q.le; omega
 have g2 : (gs.length : Int) ≤ 140737488355328 := by obtain ⟨_, _, q, _⟩ := h.g.ex; have := q.le; omega
 obtain ⟨W0, hW⟩ : ∃ W0, W0 = (w.alloc (Go.Obj.cells #[.slice ag gs.length kg, .slice af fs.length kf] 33)).alloc (Go.Obj.cells #[.int .i64 0, .int .i64 0, .int .i64 0, .int .i64 0] 28) := ⟨_, rfl⟩
 have B0 : Below w.heap.size w W0 := by rw [hW]; exact bel_trans (bel_alloc _ _) (bel_alloc _ _)
 have mC0 : W0.heap[w.heap.size]? = some (Go.Obj.cells #[.slice ag gs.length kg, .slice af fs.length kf] 33) := by rw [hW]; exact kept_at (new_at w _) (bel_alloc _ _)
 have rC0 : W0.heap[w.heap.size + 1]? = some (Go.Obj.cells #[.int .i64 0, .int .i64 0, .int .i64 0, .int .i64 0] 28) := by
  exact tl95
 have MO : Kp (∀ W, Below W0.heap.size W0 W → MoC W w.heap.size (.slice ag gs.length kg) (.slice af fs.length kf)) := ⟨fun W hB => moC_of (kept_at mC0 hB)⟩
 have FO : Kp (∀ W, Below W0.heap.size W0 W → Four w (w.heap.size + 1) W) := ⟨fun W hB => four_of (kept_at rC0 hB) (bel_trans B0 hB) (by omega)⟩
 have CG : Kp (∀ W, Below W0.heap.size W0 W → ∀ i, i < gs.length → Calls Tryz.prog 18 #[.agg #[.slice ag gs.length kg, .slice af fs.length kf], .int .i64 i] W fun e w' => e = .returned (.bool (!gloB gs i)) ∧ Below W.heap.size W w') := ⟨fun W hB i hi => l2Glo gs fs _ _ i W (h.keep (bel_trans B0 hB)) hi⟩
 have CF : Kp (∀ W, Below W0.heap.size W0 W → ∀ i, i < fs.length → Calls Tryz.prog 19 #[.agg #[.slice ag gs.length kg, .slice af fs.length kf], .int .i64 i] W fun e w' => e = .returned (.bool (!heaB gs fs i)) ∧ Below W.heap.size W w') := ⟨fun W hB i hi => l2Fun gs fs _ _ i W (h.keep (bel_trans B0 hB)) hi hn⟩
 have CB : Kp (∀ W, Below W0.heap.size W0 W → ∀ i, i < fs.length → Calls Tryz.prog 20 #[.agg #[.slice ag gs.length kg, .slice af fs.length kf], .int .i64 i] W fun e w' => e = .returned (ftV ((boF gs.length fs (calD fs i) i).getD (0, 0, 0, 0))) ∧ Below W.heap.size W w') := ⟨fun W hB i hi => l2Bod gs fs _ _ i W (h.keep (bel_trans B0 hB)) hi hn hbd⟩
 have RR := Kp.mk (shR gs fs)
 have NE : Kp (∀ (i : Nat) x, boF gs.length fs (calD fs i) i = some x → ¬ x.1 = 0) := ⟨fun i x => boF_ne⟩
 obtain ⟨R, hR⟩ : ∃ R, R = shF gs fs := ⟨_, rfl⟩
 rw [← hR] at RR ⊢
 replace hW := Kp.mk hW
 clear hR mC0 rC0 h hn hbd
 obtain ⟨m0, m1⟩ := MO.out W0 (Below.refl _ _)
 have hBB := Below.refl W0.heap.size W0
 go_enter Tryz.func7, Tryz.ntmps7
 go_upto_region 1 with fail
 rw [← hW.out]
 by_cases b1 : 12 < gs.length
 ·have hR : Kp (R = (1, -1, -1, -1)) := ⟨RR.out.big (.inl b1)⟩
  have b1' : (12 : Int) < (gs.length : Int) := by omega
  clear b1
  exact tl44
 by_cases b2 : 12 < fs.length
 ·have hR : Kp (R = (1, -1, -1, -1)) := ⟨RR.out.big (.inr b2)⟩
  have b2' : (12 : Int) < (fs.length : Int) := by omega
  have b1' : ¬ (12 : Int) < (gs.length : Int) := by omega
  clear b1 b2
  exact tl44
 have hno : Kp (¬ (12 < gs.length ∨ 12 < fs.length)) := ⟨by omega⟩
 have b2' : ¬ (12 : Int) < (fs.length : Int) := by omega
 have b1' : ¬ (12 : Int) < (gs.length : Int) := by omega
 clear b1 b2
 go_wp2_with fail
 clear m0 m1
 go_loopw [3] (fun r wr => ∃ i : Nat, i ≤ gs.length ∧ r = .int .i64 i ∧ Kp (∀ j, j < i → gloB gs j = true) ∧ Below W0.heap.size W0 wr) (fun r _ => gs.length - (intOf r).toNat)
 case atStart => exact ⟨0, Nat.zero_le _, rfl, ⟨fun j hj => absurd hj (by omega)⟩, hBB⟩
 case round =>
  clear hBB
  obtain ⟨i, hi, rfl, hd, hB⟩ := hrel
  obtain ⟨m0, m1⟩ := MO.out _ hB
  by_cases hlt : i < gs.length
  ·have hlt' : (i : Int) < (gs.length : Int) := by omega
   have Ci := Kp.mk (CG.out _ hB i hlt)
   cases hg : gloB gs i with
   | false =>
    have hR : Kp (R = (2, -1, -1, (i : Int))) := ⟨RR.out.glo hno.out i hlt hd.out hg⟩
    rw [hg] at Ci
    clear hg hd
    go_wp2_with fail
    refine Ci.out.mono ?_
    rintro e w2 ⟨rfl, hb2⟩
    have hB2 := bel_trans hB hb2
    obtain ⟨hRw, hBl, hCl, hFz, z0, z1, z2, z3, y0, y1, y2, y3⟩ := FO.out _ (hB2)
    have u0 := hFz 0
    have u1 := hFz 1
    have u2 := hFz 2
    have u3 := hFz 3
    have hS := Kp.mk (fun a b c d => belFour hBl hCl a b c d)
    obtain ⟨p0, p1, p2, p3⟩ := putFour hRw (Value.int .i64 2) (Value.int .i64 (-1)) (Value.int .i64 (-1)) (Value.int .i64 i)
    replace hRw := Kp.mk hRw
    clear hBl hCl hFz
    go_wp2_with fail
    refine bodyPost_ret (v := .agg #[Value.int .i64 2, Value.int .i64 (-1), Value.int .i64 (-1), Value.int .i64 i]) ?_ rfl ⟨by rw [hR.out], hS.out _ _ _ _⟩
    simp [results, Tryz.results7, go_sem, p0, p1, p2, p3]
   | true =>
    exact tl54
  ·have hlt' : ¬ (i : Int) < (gs.length : Int) := by omega
   have hall : Kp (∀ j, j < gs.length → gloB gs j = true) := ⟨fun j hj => hd.out j (by omega)⟩
   obtain ⟨wo, hwo⟩ : ∃ wo : World, wo = wr := ⟨_, rfl⟩
   have hBo : Below wo.heap.size wo wr := by rw [hwo]; exact Below.refl _ _
   rw [← hwo] at hB
   clear hwo hd
   go_wp2_with fail
   clear m0 m1
   go_loopw [4] (fun r wr => ∃ i : Nat, i ≤ fs.length ∧ r = .int .i64 i ∧ Kp (∀ j, j < i → heaB gs fs j = true ∧ boF gs.length fs (calD fs j) j = none) ∧ Below wo.heap.size wo wr) (fun r _ => fs.length - (intOf r).toNat)
   case atStart => exact ⟨0, Nat.zero_le _, rfl, ⟨fun j hj => absurd hj (by omega)⟩, hBo⟩
   case round =>
    clear hBo
    obtain ⟨k, hk, rfl, hd, hBq⟩ := hrel
    have hB1 := bel_trans hB hBq
    obtain ⟨m0, m1⟩ := MO.out _ hB1
    by_cases hlt2 : k < fs.length
    ·have hlt2' : (k : Int) < (fs.length : Int) := by omega
     have Ci := Kp.mk (CF.out _ hB1 k hlt2)
     cases hg : heaB gs fs k with
     | false =>
      have hR : Kp (R = (3, (k : Int), -1, -1)) := ⟨RR.out.hea hno.out hall.out k hlt2 hd.out hg⟩
      rw [hg] at Ci
      clear hg hd
      go_wp2_with fail
      refine Ci.out.mono ?_
      rintro e w2 ⟨rfl, hb2⟩
      have hB2 := bel_trans hB1 hb2
      obtain ⟨hRw, hBl, hCl, hFz, z0, z1, z2, z3, y0, y1, y2, y3⟩ := FO.out _ (hB2)
      have u0 := hFz 0
      have u1 := hFz 1
      have u2 := hFz 2
      have u3 := hFz 3
      have hS := Kp.mk (fun a b c d => belFour hBl hCl a b c d)
      obtain ⟨p0, p1, p2, p3⟩ := putFour hRw (Value.int .i64 3) (Value.int .i64 k) (Value.int .i64 (-1)) (Value.int .i64 (-1))
      replace hRw := Kp.mk hRw
      clear hBl hCl hFz
      go_wp2_with fail
      refine bodyPost_ret (v := .agg #[Value.int .i64 3, Value.int .i64 k, Value.int .i64 (-1), Value.int .i64 (-1)]) ?_ rfl ⟨by rw [hR.out], hS.out _ _ _ _⟩
      simp [results, Tryz.results7, go_sem, p0, p1, p2, p3]
     | true =>
      rw [hg] at Ci
      cases hbo : boF gs.length fs (calD fs k) k with
      | none =>
       have CBk := Kp.mk (fun W hW => CB.out W hW k hlt2)
       exact tl27
      | some x =>
       obtain ⟨x1, x2, x3, x4⟩ := x
       have CBk := Kp.mk (fun W hW => CB.out W hW k hlt2)
       rw [hbo] at CBk
       have hR : Kp (R = (x1, x2, x3, x4)) := ⟨RR.out.bod hno.out hall.out k hlt2 hd.out hg _ hbo⟩
       have hne : ¬ x1 = 0 := NE.out k _ hbo
       have n1' := nbT hne
       have n2' := nb hne
       clear hg hd hbo hne
       go_wp2_with fail
       refine Ci.out.mono ?_
       rintro e w2 ⟨rfl, hb2⟩
       have hB2 := bel_trans hB1 hb2
       obtain ⟨n0, n1⟩ := MO.out _ hB2
       clear m0 m1
       go_wp2_with fail
       refine (CBk.out _ hB2).mono ?_
       rintro e w3 ⟨rfl, hb3⟩
       have hB3 := bel_trans hB2 hb3
       go_upto_region 14 with fail
       obtain ⟨w4, hw4⟩ : ∃ w4, w4 = w3.alloc (Go.Obj.cells #[.int .i64 x1, .int .i64 x2, .int .i64 x3, .int .i64 x4] 28) := ⟨_, rfl⟩
       have q4 := new_at w3 (Go.Obj.cells #[.int .i64 x1, .int .i64 x2, .int .i64 x3, .int .i64 x4] 28)
       have hB4 : Below W0.heap.size W0 w4 := by rw [hw4]; exact bel_trans hB3 (bel_alloc _ _)
       rw [← hw4] at q4
       rw [← hw4]
       have v0 : At w4 w3.heap.size 0 _ := cells_at q4 rfl
       have v1 : At w4 w3.heap.size 1 _ := cells_at q4 rfl
       have v2 : At w4 w3.heap.size 2 _ := cells_at q4 rfl
       have v3 : At w4 w3.heap.size 3 _ := cells_at q4 rfl
       clear q4
       replace hw4 := Kp.mk hw4
       obtain ⟨hRw, hBl, hCl, hFz, z0, z1, z2, z3, y0, y1, y2, y3⟩ := FO.out _ (hB4)
       have u0 := hFz 0
       have u1 := hFz 1
       have u2 := hFz 2
       have u3 := hFz 3
       have hS := Kp.mk (fun a b c d => belFour hBl hCl a b c d)
       obtain ⟨p0, p1, p2, p3⟩ := putFour hRw (Value.int .i64 x1) (Value.int .i64 x2) (Value.int .i64 x3) (Value.int .i64 x4)
       replace hRw := Kp.mk hRw
       clear hBl hCl hFz
       go_wp2_with fail
       refine bodyPost_ret (v := .agg #[Value.int .i64 x1, Value.int .i64 x2, Value.int .i64 x3, Value.int .i64 x4]) ?_ rfl ⟨by rw [hR.out], hS.out _ _ _ _⟩
       simp [results, Tryz.results7, go_sem, p0, p1, p2, p3]
    ·have hlt2' : ¬ (k : Int) < (fs.length : Int) := by omega
     have hR : Kp (R = (0, 0, 0, 0)) := ⟨RR.out.fin hno.out hall.out (fun j hj => hd.out j (by omega))⟩
     clear hd
     obtain ⟨hRw, hBl, hCl, hFz, z0, z1, z2, z3, y0, y1, y2, y3⟩ := FO.out _ (hB1)
     have u0 := hFz 0
     have u1 := hFz 1
     have u2 := hFz 2
     have u3 := hFz 3
     have hS := Kp.mk (fun a b c d => belFour hBl hCl a b c d)
     obtain ⟨p0, p1, p2, p3⟩ := putFour hRw (Value.int .i64 0) (Value.int .i64 0) (Value.int .i64 0) (Value.int .i64 0)
     replace hRw := Kp.mk hRw
     clear hBl hCl hFz
     go_wp2_with fail
     refine bodyPost_ret (v := .agg #[Value.int .i64 0, Value.int .i64 0, Value.int .i64 0, Value.int .i64 0]) ?_ rfl ⟨by rw [hR.out], hS.out _ _ _ _⟩
     simp [results, Tryz.results7, go_sem, p0, p1, p2, p3]
end Go.Proofs.YtgdcgjlmkmdklaaGreatDoor

namespace Go.Proofs.YtgdcgjlmkmdklaaGreatDoor
open Go.ChangeShapes Go.WideShapes Go.ChangeAt Go.RowKit
set_option linter.unusedVariables false
set_option linter.unusedSimpArgs false
theorem hea_sig {gs : List GlD} {fs : List FnD} {k : Nat} (h : heaB gs fs k = true) : sigB (calD fs k) = true := by
 unfold heaB at h
 simp only [Bool.and_eq_true] at h
 exact h.2.2.2.2.2.1
set_option maxRecDepth 100000 in
set_option maxHeartbeats 4000000 in
theorem shapeI (gs : List GlD) (fs : List FnD) (vg vf : Value) (w : World) {lo : Nat} (h : MoAt lo w gs fs vg vf) (hn : moN gs fs ≤ 1048576) (hbd : MoB gs fs) (hw : Wid w) :
  Calls Tryz.prog 9 #[.agg #[vg, vf]] w fun e w' => e = .returned (ftV (shF gs fs)) ∧ Below w.heap.size w w' := by
 obtain ⟨ag, kg, rfl⟩ := h.g.shape
 obtain ⟨af, kf, rfl⟩ := h.f.shape
 have g1 : (fs.length : Int) ≤ 140737488355328 := by obtain ⟨_, _, q, _⟩ := h.f.ex; have := q.le; omega
 have g2 : (gs.length : Int) ≤ 140737488355328 := by obtain ⟨_, _, q, _⟩ := h.g.ex; have := q.le; omega
 obtain ⟨W0, hW⟩ : ∃ W0, W0 = (w.alloc (Go.Obj.cells #[.slice ag gs.length kg, .slice af fs.length kf] 33)).alloc (Go.Obj.cells #[.int .i64 0, .int .i64 0, .int .i64 0, .int .i64 0] 28) := ⟨_, rfl⟩
 have B0 : Below w.heap.size w W0 := by rw [hW]; exact bel_trans (bel_alloc _ _) (bel_alloc _ _)
 have mC0 : W0.heap[w.heap.size]? = some (Go.Obj.cells #[.slice ag gs.length kg, .slice af fs.length kf] 33) := by rw [hW]; exact kept_at (new_at w _) (bel_alloc _ _)
 have rC0 : W0.heap[w.heap.size + 1]? = some (Go.Obj.cells #[.int .i64 0, .int .i64 0, .int .i64 0, .int .i64 0] 28) := by
  exact tl95
 have MO : Kp (∀ W, Below W0.heap.size W0 W → MoC W w.heap.size (.slice ag gs.length kg) (.slice af fs.length kf)) := ⟨fun W hB => moC_of (kept_at mC0 hB)⟩
 have FO : Kp (∀ W, Below W0.heap.size W0 W → Four w (w.heap.size + 1) W) := ⟨fun W hB => four_of (kept_at rC0 hB) (bel_trans B0 hB) (by omega)⟩
 have CG : Kp (∀ W, Below W0.heap.size W0 W → ∀ i, i < gs.length → Calls Tryz.prog 23 #[.agg #[.slice ag gs.length kg, .slice af fs.length kf], .int .i64 i] W fun e w' => e = .returned (.bool (gloB gs i)) ∧ Below W.heap.size W w') := ⟨fun W hB i hi => gloI gs fs _ _ i W (h.keep (bel_trans B0 hB)) hi⟩
 have CF : Kp (∀ W, Below W0.heap.size W0 W → ∀ i, i < fs.length → Calls Tryz.prog 24 #[.agg #[.slice ag gs.length kg, .slice af fs.length kf], .int .i64 i] W fun e w' => e = .returned (.bool (heaB gs fs i)) ∧ Below W.heap.size W w') := ⟨fun W hB i hi => heaI gs fs _ _ i W (h.keep (bel_trans B0 hB)) hi hn (hw.below (bel_trans B0 hB))⟩
 have CB : Kp (∀ W, Below W0.heap.size W0 W → ∀ i, i < fs.length → heaB gs fs i = true → Calls Tryz.prog 25 #[.agg #[.slice ag gs.length kg, .slice af fs.length kf], .int .i64 i] W fun e w' => e = .returned (ftV ((boF gs.length fs (calD fs i) i).getD (0, 0, 0, 0))) ∧ Below W.heap.size W w') := ⟨fun W hB i hi hh => bodI gs fs _ _ i W (h.keep (bel_trans B0 hB)) hi hn hbd (hw.below (bel_trans B0 hB)) (by have := hea_sig hh; rwa [calD_get hi] at this)⟩
 have RR := Kp.mk (shR gs fs)
 have NE : Kp (∀ (i : Nat) x, boF gs.length fs (calD fs i) i = some x → ¬ x.1 = 0) := ⟨fun i x => boF_ne⟩
 obtain ⟨R, hR⟩ : ∃ R, R = shF gs fs := ⟨_, rfl⟩
 rw [← hR] at RR ⊢
 replace hW := Kp.mk hW
 clear hR mC0 rC0 h hn hbd hw
 obtain ⟨m0, m1⟩ := MO.out W0 (Below.refl _ _)
 have hBB := Below.refl W0.heap.size W0
 go_enter Tryz.func9, Tryz.ntmps9
 go_upto_region 1 with fail
 rw [← hW.out]
 by_cases b1 : 12 < gs.length
 ·have hR : Kp (R = (1, -1, -1, -1)) := ⟨RR.out.big (.inl b1)⟩
  have b1' : (12 : Int) < (gs.length : Int) := by omega
  clear b1
  exact tl45
 by_cases b2 : 12 < fs.length
 ·have hR : Kp (R = (1, -1, -1, -1)) := ⟨RR.out.big (.inr b2)⟩
  have b2' : (12 : Int) < (fs.length : Int) := by omega
  have b1' : ¬ (12 : Int) < (gs.length : Int) := by omega
  clear b1 b2
  exact tl45
 have hno : Kp (¬ (12 < gs.length ∨ 12 < fs.length)) := ⟨by omega⟩
 have b2' : ¬ (12 : Int) < (fs.length : Int) := by omega
 have b1' : ¬ (12 : Int) < (gs.length : Int) := by omega
 clear b1 b2
 go_wp2_with fail
 clear m0 m1
 go_loopw [20] (fun r wr => ∃ i : Nat, i ≤ gs.length ∧ r = .int .i64 i ∧ Kp (∀ j, j < i → gloB gs j = true) ∧ Below W0.heap.size W0 wr) (fun r _ => gs.length - (intOf r).toNat)
 case atStart => exact ⟨0, Nat.zero_le _, rfl, ⟨fun j hj => absurd hj (by omega)⟩, hBB⟩
 case round =>
  clear hBB
  obtain ⟨i, hi, rfl, hd, hB⟩ := hrel
  obtain ⟨m0, m1⟩ := MO.out _ hB
  by_cases hlt : i < gs.length
  ·have hlt' : (i : Int) < (gs.length : Int) := by omega
   have Ci := Kp.mk (CG.out _ hB i hlt)
   cases hg : gloB gs i with
   | false =>
    have hR : Kp (R = (2, -1, -1, (i : Int))) := ⟨RR.out.glo hno.out i hlt hd.out hg⟩
    rw [hg] at Ci
    clear hg hd
    go_wp2_with fail
    refine Ci.out.mono ?_
    rintro e w2 ⟨rfl, hb2⟩
    have hB2 := bel_trans hB hb2
    obtain ⟨hRw, hBl, hCl, hFz, z0, z1, z2, z3, y0, y1, y2, y3⟩ := FO.out _ (hB2)
    have u0 := hFz 0
    have u1 := hFz 1
    have u2 := hFz 2
    have u3 := hFz 3
    have hS := Kp.mk (fun a b c d => belFour hBl hCl a b c d)
    obtain ⟨p0, p1, p2, p3⟩ := putFour hRw (Value.int .i64 2) (Value.int .i64 (-1)) (Value.int .i64 (-1)) (Value.int .i64 i)
    replace hRw := Kp.mk hRw
    clear hBl hCl hFz
    go_wp2_with fail
    refine bodyPost_ret (v := .agg #[Value.int .i64 2, Value.int .i64 (-1), Value.int .i64 (-1), Value.int .i64 i]) ?_ rfl ⟨by rw [hR.out], hS.out _ _ _ _⟩
    simp [results, Tryz.results9, go_sem, p0, p1, p2, p3]
   | true =>
    exact tl54
  ·have hlt' : ¬ (i : Int) < (gs.length : Int) := by omega
   have hall : Kp (∀ j, j < gs.length → gloB gs j = true) := ⟨fun j hj => hd.out j (by omega)⟩
   obtain ⟨wo, hwo⟩ : ∃ wo : World, wo = wr := ⟨_, rfl⟩
   have hBo : Below wo.heap.size wo wr := by rw [hwo]; exact Below.refl _ _
   rw [← hwo] at hB
   clear hwo hd
   go_wp2_with fail
   clear m0 m1
   go_loopw [33] (fun r wr => ∃ i : Nat, i ≤ fs.length ∧ r = .int .i64 i ∧ Kp (∀ j, j < i → heaB gs fs j = true ∧ boF gs.length fs (calD fs j) j = none) ∧ Below wo.heap.size wo wr) (fun r _ => fs.length - (intOf r).toNat)
   case atStart => exact ⟨0, Nat.zero_le _, rfl, ⟨fun j hj => absurd hj (by omega)⟩, hBo⟩
   case round =>
    clear hBo
    obtain ⟨k, hk, rfl, hd, hBq⟩ := hrel
    have hB1 := bel_trans hB hBq
    obtain ⟨m0, m1⟩ := MO.out _ hB1
    by_cases hlt2 : k < fs.length
    ·have hlt2' : (k : Int) < (fs.length : Int) := by omega
     have Ci := Kp.mk (CF.out _ hB1 k hlt2)
     cases hg : heaB gs fs k with
     | false =>
      have hR : Kp (R = (3, (k : Int), -1, -1)) := ⟨RR.out.hea hno.out hall.out k hlt2 hd.out hg⟩
      rw [hg] at Ci
      clear hg hd
      go_wp2_with fail
      refine Ci.out.mono ?_
      rintro e w2 ⟨rfl, hb2⟩
      have hB2 := bel_trans hB1 hb2
      obtain ⟨hRw, hBl, hCl, hFz, z0, z1, z2, z3, y0, y1, y2, y3⟩ := FO.out _ (hB2)
      have u0 := hFz 0
      have u1 := hFz 1
      have u2 := hFz 2
      have u3 := hFz 3
      have hS := Kp.mk (fun a b c d => belFour hBl hCl a b c d)
      obtain ⟨p0, p1, p2, p3⟩ := putFour hRw (Value.int .i64 3) (Value.int .i64 k) (Value.int .i64 (-1)) (Value.int .i64 (-1))
      replace hRw := Kp.mk hRw
      clear hBl hCl hFz
      go_wp2_with fail
      refine bodyPost_ret (v := .agg #[Value.int .i64 3, Value.int .i64 k, Value.int .i64 (-1), Value.int .i64 (-1)]) ?_ rfl ⟨by rw [hR.out], hS.out _ _ _ _⟩
      simp [results, Tryz.results9, go_sem, p0, p1, p2, p3]
     | true =>
      rw [hg] at Ci
      cases hbo : boF gs.length fs (calD fs k) k with
      | none =>
       have CBk := Kp.mk (fun W hW => CB.out W hW k hlt2 hg)
       exact tl27
      | some x =>
       obtain ⟨x1, x2, x3, x4⟩ := x
       have CBk := Kp.mk (fun W hW => CB.out W hW k hlt2 hg)
       rw [hbo] at CBk
       have hR : Kp (R = (x1, x2, x3, x4)) := ⟨RR.out.bod hno.out hall.out k hlt2 hd.out hg _ hbo⟩
       have hne : ¬ x1 = 0 := NE.out k _ hbo
       have n1' := nbT hne
       have n2' := nb hne
       clear hg hd hbo hne
       go_wp2_with fail
       refine Ci.out.mono ?_
       rintro e w2 ⟨rfl, hb2⟩
       have hB2 := bel_trans hB1 hb2
       obtain ⟨n0, n1⟩ := MO.out _ hB2
       clear m0 m1
       go_wp2_with fail
       refine (CBk.out _ hB2).mono ?_
       rintro e w3 ⟨rfl, hb3⟩
       have hB3 := bel_trans hB2 hb3
       go_upto_region 15 with fail
       obtain ⟨w4, hw4⟩ : ∃ w4, w4 = w3.alloc (Go.Obj.cells #[.int .i64 x1, .int .i64 x2, .int .i64 x3, .int .i64 x4] 28) := ⟨_, rfl⟩
       have q4 := new_at w3 (Go.Obj.cells #[.int .i64 x1, .int .i64 x2, .int .i64 x3, .int .i64 x4] 28)
       have hB4 : Below W0.heap.size W0 w4 := by rw [hw4]; exact bel_trans hB3 (bel_alloc _ _)
       rw [← hw4] at q4
       rw [← hw4]
       have v0 : At w4 w3.heap.size 0 _ := cells_at q4 rfl
       have v1 : At w4 w3.heap.size 1 _ := cells_at q4 rfl
       have v2 : At w4 w3.heap.size 2 _ := cells_at q4 rfl
       have v3 : At w4 w3.heap.size 3 _ := cells_at q4 rfl
       clear q4
       replace hw4 := Kp.mk hw4
       obtain ⟨hRw, hBl, hCl, hFz, z0, z1, z2, z3, y0, y1, y2, y3⟩ := FO.out _ (hB4)
       have u0 := hFz 0
       have u1 := hFz 1
       have u2 := hFz 2
       have u3 := hFz 3
       have hS := Kp.mk (fun a b c d => belFour hBl hCl a b c d)
       obtain ⟨p0, p1, p2, p3⟩ := putFour hRw (Value.int .i64 x1) (Value.int .i64 x2) (Value.int .i64 x3) (Value.int .i64 x4)
       replace hRw := Kp.mk hRw
       clear hBl hCl hFz
       go_wp2_with fail
       refine bodyPost_ret (v := .agg #[Value.int .i64 x1, Value.int .i64 x2, Value.int .i64 x3, Value.int .i64 x4]) ?_ rfl ⟨by rw [hR.out], hS.out _ _ _ _⟩
       simp [results, Tryz.results9, go_sem, p0, p1, p2, p3]
    ·have hlt2' : ¬ (k : Int) < (fs.length : Int) := by omega
     have hR : Kp (R = (0, 0, 0, 0)) := ⟨RR.out.fin hno.out hall.out (fun j hj => hd.out j (by omega))⟩
     clear hd
     obtain ⟨hRw, hBl, hCl, hFz, z0, z1, z2, z3, y0, y1, y2, y3⟩ := FO.out _ (hB1)
     have u0 := hFz 0
     have u1 := hFz 1
     have u2 := hFz 2
     have u3 := hFz 3
     have hS := Kp.mk (fun a b c d => belFour hBl hCl a b c d)
     obtain ⟨p0, p1, p2, p3⟩ := putFour hRw (Value.int .i64 0) (Value.int .i64 0) (Value.int .i64 0) (Value.int .i64 0)
     replace hRw := Kp.mk hRw
     clear hBl hCl hFz
     go_wp2_with fail
     refine bodyPost_ret (v := .agg #[Value.int .i64 0, Value.int .i64 0, Value.int .i64 0, Value.int .i64 0]) ?_ rfl ⟨by rw [hR.out], hS.out _ _ _ _⟩
     simp [results, Tryz.results9, go_sem, p0, p1, p2, p3]
end Go.Proofs.YtgdcgjlmkmdklaaGreatDoor

namespace Go.Proofs.YtgdcgjlmkmdklaaGreatDoor
open Go.ChangeShapes Go.WideShapes Go.ChangeAt Go.RowKit
set_option linter.unusedVariables false
set_option linter.unusedSimpArgs false
theorem wf_i64 {z : Int} (h : (Lit.int .i64 z).wf = true) : I64 z := by
 obtain ⟨a, b⟩ := bounds_i64 h
 exact ⟨a, b⟩
theorem list_of2 {α : Type} (n : Nat) (R : Nat → α → Prop) (B : α → Prop) (h : ∀ i, i < n → ∃ y, R i y ∧ B y) : ∃ ys : List α, ys.length = n ∧ (∀ i (hi : i < ys.length), R i ys[i]) ∧ ∀ y ∈ ys, B y := by
 obtain ⟨ys, h1, h2⟩ := list_of n (fun i y => R i y ∧ B y) h
 refine ⟨ys, h1, fun i hi => (h2 i hi).1, fun y hy => ?_⟩
 obtain ⟨i, hi, rfl⟩ := List.getElem_of_mem hy
 exact (h2 i hi).2
section
variable {H : Type} {enc : TypeId × Value → H} {w : World} {spare : Nat → Bool} {held : Bool}
theorem opn_intsB {t e : TypeId} {k : IntKind} {fuel : Nat} {v : Value} {x : DataW H × List MemPlace} (ht : Tryz.prog.underlying t = some (.slice e)) (he : Tryz.prog.underlying e = some (.int k)) (hc : Tryz.prog.cellsOf e = 1) (hb : decide (0 < Tryz.prog.bytesOf e) = true)
  (h : DataW.trod enc Tryz.prog w 0 spare held fuel t [v] = some x) (hw : ∀ n ∈ x.1.weights Tryz.prog t, n ≤ reachBytes) : ∃ xs, Ints 0 k w v xs ∧ ∀ z ∈ xs, (Lit.int k z).wf = true := by
 obtain ⟨b, o, len, s, hel⟩ := opn_slice ht hc (by decide) hb h hw
 obtain ⟨zs, e, hz, hzb⟩ := list_of2 len (fun i (z : Int) => At w b (o + i) (.int k z)) (fun z => (Lit.int k z).wf = true) (fun i hi => by
  obtain ⟨cs, y, n, c1, c2, c3, -⟩ := hel i hi
  obtain ⟨z, rfl, -, hwf⟩ := DataW.trod_int he c3
  exact ⟨z, by simpa using c2 0 (by simp), hwf⟩)
 subst e
 exact ⟨zs, ⟨b, o, s, Nat.zero_le _, hz⟩, hzb⟩
theorem one_intB {e : TypeId} {k : IntKind} {n : Nat} {v : Value} {y : DataW H × List MemPlace} (he : Tryz.prog.underlying e = some (.int k)) (h : DataW.trod enc Tryz.prog w 0 spare held n e [v] = some y) : ∃ a, v = .int k a ∧ (Lit.int k a).wf = true := by
 obtain ⟨a, h1, -, h3⟩ := DataW.trod_int he h
 exact ⟨a, by simpa using h1, h3⟩
theorem opn_opsB {fuel : Nat} {v : Value} {x : DataW H × List MemPlace} (h : DataW.trod enc Tryz.prog w 0 spare held fuel 220 [v] = some x) (hw : ∀ n ∈ x.1.weights Tryz.prog 220, n ≤ reachBytes) : ∃ xs, Ops 0 w v xs ∧ ∀ q ∈ xs, OpB q := by
 obtain ⟨b, o, len, s, hel⟩ := opn_slice Tryz.underlying220 (size := 4) (by kernel_rfl) (by decide) (by kernel_rfl) h hw
 obtain ⟨zs, e, hz, hzb⟩ := list_of2 len (fun i (d : OpD) => OpAt w b (o + i * 4) d) OpB (fun i hi => by
  obtain ⟨cs, y, n, c1, c2, c3, -⟩ := hel i hi
  match cs, c1 with
  | [v0, v1, v2, v3], _ =>
   obtain ⟨ys, m, rfl, -, -, hl, hd⟩ := DataW.trod_struct Tryz.underlying240 c3
   match ys, hl with
   | [y0, y1, y2, y3], _ =>
    obtain ⟨a0, rfl, z0⟩ := one_intB Tryz.underlying2 (by simpa [show Tryz.prog.cellsOf 2 = 1 by kernel_rfl] using hd 0 _ rfl)
    obtain ⟨a1, rfl, z1⟩ := one_intB Tryz.underlying2 (by simpa [show Tryz.prog.cellsOf 2 = 1 by kernel_rfl] using hd 1 _ rfl)
    obtain ⟨a2, rfl, z2⟩ := one_intB Tryz.underlying2 (by simpa [show Tryz.prog.cellsOf 2 = 1 by kernel_rfl] using hd 2 _ rfl)
    obtain ⟨a3, rfl, z3⟩ := one_intB Tryz.underlying119 (by simpa [show Tryz.prog.cellsOf 119 = 1 by kernel_rfl] using hd 3 _ rfl)
    exact ⟨⟨a0, a1, a2, a3⟩, ⟨c2 0 (by simp), c2 1 (by simp), c2 2 (by simp), c2 3 (by simp)⟩, ⟨(wf_i64 z2).a, (wf_i64 z2).b, (bounds_u64 z3).1, (bounds_u64 z3).2⟩⟩)
 subst e
 exact ⟨zs, ⟨b, o, s, Nat.zero_le _, hz⟩, hzb⟩
theorem opn_insB {fuel : Nat} {v : Value} {x : DataW H × List MemPlace} (h : DataW.trod enc Tryz.prog w 0 spare held fuel 169 [v] = some x) (hw : ∀ n ∈ x.1.weights Tryz.prog 169, n ≤ reachBytes) : ∃ xs, Ins 0 w v xs ∧ ∀ x ∈ xs, InB x := by
 obtain ⟨b, o, len, s, hel⟩ := opn_slice Tryz.underlying169 (size := 9) (by kernel_rfl) (by decide) (by kernel_rfl) h hw
 obtain ⟨zs, e, hz, hzb⟩ := list_of2 len (fun i (d : InD) => ∃ va vb vw, InAt 0 w b (o + i * 9) d va vb vw) InB (fun i hi => by
  obtain ⟨cs, y, n, c1, c2, c3, c4⟩ := hel i hi
  match cs, c1 with
  | [v0, v1, v2, v3, v4, v5, v6, v7, v8], _ =>
   obtain ⟨ys, m, rfl, hx, -, hl, hd⟩ := DataW.trod_struct Tryz.underlying222 c3
   match ys, hl with
   | [y0, y1, y2, y3, y4, y5, y6, y7, y8], _ =>
    simp only [hx, DataW.weights, Tryz.underlying222, DataW.weightsEach, List.map_cons, List.map_nil, List.mem_append] at c4
    obtain ⟨a0, rfl, z0⟩ := one_intB Tryz.underlying2 (by simpa [show Tryz.prog.cellsOf 2 = 1 by kernel_rfl] using hd 0 _ rfl)
    obtain ⟨a1, rfl, z1⟩ := one_intB Tryz.underlying2 (by simpa [show Tryz.prog.cellsOf 2 = 1 by kernel_rfl] using hd 1 _ rfl)
    obtain ⟨a2, rfl, z2⟩ := one_intB Tryz.underlying2 (by simpa [show Tryz.prog.cellsOf 2 = 1 by kernel_rfl] using hd 2 _ rfl)
    obtain ⟨a3, rfl, z3⟩ := one_intB Tryz.underlying2 (by simpa [show Tryz.prog.cellsOf 2 = 1 by kernel_rfl] using hd 3 _ rfl)
    obtain ⟨a4, rfl, z4⟩ := one_intB Tryz.underlying2 (by simpa [show Tryz.prog.cellsOf 2 = 1 by kernel_rfl] using hd 4 _ rfl)
    obtain ⟨a5, rfl, z5⟩ := one_intB Tryz.underlying2 (by simpa [show Tryz.prog.cellsOf 2 = 1 by kernel_rfl] using hd 5 _ rfl)
    obtain ⟨xa, ha, ya⟩ := opn_opsB (by simpa [show Tryz.prog.cellsOf 220 = 1 by kernel_rfl] using hd 6 _ rfl) (fun n hn => c4 n (by simp [hn]))
    obtain ⟨xb, hb, yb⟩ := opn_intsB Tryz.underlying50 Tryz.underlying2 (by kernel_rfl) (by kernel_rfl) (by simpa [show Tryz.prog.cellsOf 50 = 1 by kernel_rfl] using hd 7 _ rfl) (fun n hn => c4 n (by simp [hn]))
    obtain ⟨xc, hc, yc⟩ := opn_intsB Tryz.underlying71 Tryz.underlying119 (by kernel_rfl) (by kernel_rfl) (by simpa [show Tryz.prog.cellsOf 71 = 1 by kernel_rfl] using hd 8 _ rfl) (fun n hn => c4 n (by simp [hn]))
    exact ⟨⟨a0, a1, a2, a3, a4, a5, xa, xb, xc⟩, ⟨v6, v7, v8, c2 0 (by simp), c2 1 (by simp), c2 2 (by simp), c2 3 (by simp), c2 4 (by simp), c2 5 (by simp), c2 6 (by simp), c2 7 (by simp), c2 8 (by simp), ⟨ha, hb, hc⟩⟩, ⟨wf_i64 z2, wf_i64 z5, ya, fun z hz => wf_i64 (yb z hz), fun z hz => bounds_u64 (yc z hz)⟩⟩)
 subst e
 exact ⟨zs, ⟨b, o, s, Nat.zero_le _, hz⟩, hzb⟩
theorem opn_blsB {fuel : Nat} {v : Value} {x : DataW H × List MemPlace} (h : DataW.trod enc Tryz.prog w 0 spare held fuel 92 [v] = some x) (hw : ∀ n ∈ x.1.weights Tryz.prog 92, n ≤ reachBytes) : ∃ xs, Bls 0 w v xs ∧ ∀ ys ∈ xs, ∀ x ∈ ys, InB x := by
 obtain ⟨b, o, len, s, hel⟩ := opn_slice Tryz.underlying92 (size := 1) (by kernel_rfl) (by decide) (by kernel_rfl) h hw
 obtain ⟨zs, e, hz, hzb⟩ := list_of2 len (fun i (xs : List InD) => ∃ vi, At w b (o + i) vi ∧ Ins 0 w vi xs) (fun xs => ∀ x ∈ xs, InB x) (fun i hi => by
  obtain ⟨cs, y, n, c1, c2, c3, c4⟩ := hel i hi
  match cs, c1 with
  | [v0], _ =>
   obtain ⟨ys, m, rfl, hx, -, hl, hd⟩ := DataW.trod_struct Tryz.underlying171 c3
   match ys, hl with
   | [y0], _ =>
    simp only [hx, DataW.weights, Tryz.underlying171, DataW.weightsEach, List.map_cons, List.map_nil, List.mem_append] at c4
    obtain ⟨xs, hx, hxb⟩ := opn_insB (by simpa [show Tryz.prog.cellsOf 169 = 1 by kernel_rfl] using hd 0 _ rfl) (fun n hn => c4 n (by simp [hn]))
    exact ⟨xs, ⟨v0, by simpa using c2 0 (by simp), hx⟩, hxb⟩)
 subst e
 exact ⟨zs, ⟨b, o, s, Nat.zero_le _, hz⟩, hzb⟩
set_option maxRecDepth 100000 in
theorem opn_fnB {fuel : Nat} {cs : List Value} {x : DataW H × List MemPlace} (h : DataW.trod enc Tryz.prog w 0 spare held fuel 94 cs = some x) (hw : ∀ n ∈ x.1.weights Tryz.prog 94, n ≤ reachBytes) : ∃ d vp vb, cs = [.string d.name, .int .i64 d.link, vp, .int .i64 d.res, vb] ∧ FnAt 0 w d vp vb ∧ FnB d := by
 obtain ⟨ys, m, rfl, hx, hcl, hl, hd⟩ := DataW.trod_struct Tryz.underlying94 h
 rw [show Tryz.prog.cellsOf 94 = 5 by kernel_rfl] at hcl
 match cs, hcl with
 | [v0, v1, v2, v3, v4], _ =>
  match ys, hl with
  | [y0, y1, y2, y3, y4], _ =>
   simp only [hx, DataW.weights, Tryz.underlying94, DataW.weightsEach, List.map_cons, List.map_nil, List.mem_append] at hw
   obtain ⟨s, e0, e00, -⟩ := DataW.trod_string Tryz.underlying9 (by simpa [show Tryz.prog.cellsOf 9 = 1 by kernel_rfl] using hd 0 _ rfl)
   obtain rfl : v0 = .string s := by simpa using e0
   obtain ⟨a1, rfl, -⟩ := one_intB Tryz.underlying2 (by simpa [show Tryz.prog.cellsOf 2 = 1 by kernel_rfl] using hd 1 _ rfl)
   obtain ⟨a3, rfl, -⟩ := one_intB Tryz.underlying2 (by simpa [show Tryz.prog.cellsOf 2 = 1 by kernel_rfl] using hd 3 _ rfl)
   obtain ⟨xp, hp, -⟩ := opn_intsB Tryz.underlying50 Tryz.underlying2 (by kernel_rfl) (by kernel_rfl) (by simpa [show Tryz.prog.cellsOf 50 = 1 by kernel_rfl] using hd 2 _ rfl) (fun n hn => hw n (by simp [hn]))
   obtain ⟨xb, hb, yb⟩ := opn_blsB (by simpa [show Tryz.prog.cellsOf 92 = 1 by kernel_rfl] using hd 4 _ rfl) (fun n hn => hw n (by simp [hn]))
   have hn : s.size ≤ 140737488355328 := by
    exact tl96
   exact ⟨⟨s, a1, xp, a3, xb⟩, v2, v4, rfl, ⟨hn, hp, hb⟩, ⟨yb⟩⟩
set_option maxRecDepth 100000 in
theorem opn_fns {fuel : Nat} {v : Value} {x : DataW H × List MemPlace} (h : DataW.trod enc Tryz.prog w 0 spare held fuel 23 [v] = some x) (hw : ∀ n ∈ x.1.weights Tryz.prog 23, n ≤ reachBytes) : ∃ xs, Fns 0 w v xs ∧ ∀ f ∈ xs, FnB f := by
 obtain ⟨b, o, len, s, hel⟩ := opn_slice Tryz.underlying23 (size := 5) (by kernel_rfl) (by decide) (by kernel_rfl) h hw
 obtain ⟨zs, e, hz, hzb⟩ := list_of2 len (fun i (d : FnD) => ∃ vp vb, FcAt 0 w b (o + i * 5) d vp vb) FnB (fun i hi => by
  obtain ⟨cs, y, n, c1, c2, c3, c4⟩ := hel i hi
  obtain ⟨d, vp, vb, rfl, hd, hb⟩ := opn_fnB c3 c4
  exact ⟨d, ⟨vp, vb, c2 0 (by simp), c2 1 (by simp), c2 2 (by simp), c2 3 (by simp), c2 4 (by simp), hd⟩, hb⟩)
 subst e
 exact ⟨zs, ⟨b, o, s, Nat.zero_le _, hz⟩, hzb⟩
set_option maxRecDepth 100000 in
theorem opn_gls {fuel : Nat} {v : Value} {x : DataW H × List MemPlace} (h : DataW.trod enc Tryz.prog w 0 spare held fuel 22 [v] = some x) (hw : ∀ n ∈ x.1.weights Tryz.prog 22, n ≤ reachBytes) : ∃ xs, Gls 0 w v xs ∧ ∀ g ∈ xs, GlB g := by
 obtain ⟨b, o, len, s, hel⟩ := opn_slice Tryz.underlying22 (size := 5) (by kernel_rfl) (by decide) (by kernel_rfl) h hw
 obtain ⟨zs, e, hz, hzb⟩ := list_of2 len (fun i (d : GlD) => ∃ vb, GlAt 0 w b (o + i * 5) d vb) GlB (fun i hi => by
  obtain ⟨cs, y, n, c1, c2, c3, c4⟩ := hel i hi
  obtain ⟨ys, m, rfl, hx, hcl, hl, hd⟩ := DataW.trod_struct Tryz.underlying90 c3
  match cs, c1 with
  | [v0, v1, v2, v3, v4], _ =>
   match ys, hl with
   | [y0, y1, y2, y3, y4], _ =>
    simp only [hx, DataW.weights, Tryz.underlying90, DataW.weightsEach, List.map_cons, List.map_nil, List.mem_append] at c4
    obtain ⟨s', e0, e00, -⟩ := DataW.trod_string Tryz.underlying9 (by simpa [show Tryz.prog.cellsOf 9 = 1 by kernel_rfl] using hd 0 _ rfl)
    obtain rfl : v0 = .string s' := by simpa using e0
    obtain ⟨a1, rfl, -⟩ := one_intB Tryz.underlying2 (by simpa [show Tryz.prog.cellsOf 2 = 1 by kernel_rfl] using hd 1 _ rfl)
    obtain ⟨a2, e2, -⟩ := DataW.trod_bool Tryz.underlying4 (by simpa [show Tryz.prog.cellsOf 4 = 1 by kernel_rfl] using hd 2 _ rfl)
    obtain rfl : v2 = .bool a2 := by simpa using e2
    obtain ⟨a3, rfl, z3⟩ := one_intB Tryz.underlying2 (by simpa [show Tryz.prog.cellsOf 2 = 1 by kernel_rfl] using hd 3 _ rfl)
    obtain ⟨xp, hp, yp⟩ := opn_intsB Tryz.underlying74 Tryz.underlying5 (by kernel_rfl) (by kernel_rfl) (by simpa [show Tryz.prog.cellsOf 74 = 1 by kernel_rfl] using hd 4 _ rfl) (fun n hn => c4 n (by simp [hn]))
    have hn : s'.size ≤ 140737488355328 := by
     have := c4 s'.data.toList.length (.inl (by rw [e00]; simp [DataW.weights]))
     have h2 := reachBytes_lt
     simp at this
     have e : s'.data.size = s'.size := rfl
     omega
    exact ⟨⟨s', a1, a2, a3, xp⟩, ⟨v4, hn, c2 0 (by simp), c2 1 (by simp), c2 2 (by simp), c2 3 (by simp), c2 4 (by simp), hp⟩, ⟨wf_i64 z3, fun z hz => bounds_u8 (yp z hz)⟩⟩)
 subst e
 exact ⟨zs, ⟨b, o, s, Nat.zero_le _, hz⟩, hzb⟩
set_option maxRecDepth 100000 in
theorem opn_mo {fuel : Nat} {cs : List Value} {x : DataW H × List MemPlace} (h : DataW.trod enc Tryz.prog w 0 spare held fuel 25 cs = some x) (hw : ∀ n ∈ x.1.weights Tryz.prog 25, n ≤ reachBytes) : ∃ gs fs vg vf, cs = [vg, vf] ∧ MoAt 0 w gs fs vg vf ∧ MoB gs fs := by
 obtain ⟨ys, m, rfl, hx, hcl, hl, hd⟩ := DataW.trod_struct Tryz.underlying25 h
 rw [show Tryz.prog.cellsOf 25 = 2 by kernel_rfl] at hcl
 match cs, hcl with
 | [v0, v1], _ =>
  match ys, hl with
  | [y0, y1], _ =>
   simp only [hx, DataW.weights, Tryz.underlying25, DataW.weightsEach, List.map_cons, List.map_nil, List.mem_append] at hw
   obtain ⟨xg, hg, yg⟩ := opn_gls (by simpa [show Tryz.prog.cellsOf 22 = 1 by kernel_rfl] using hd 0 _ rfl) (fun n hn => hw n (by simp [hn]))
   obtain ⟨xf, hf, yf⟩ := opn_fns (by simpa [show Tryz.prog.cellsOf 23 = 1 by kernel_rfl] using hd 1 _ rfl) (fun n hn => hw n (by simp [hn]))
   exact ⟨xg, xf, v0, v1, rfl, ⟨hg, hf⟩, ⟨yg, yf⟩⟩
end
end Go.Proofs.YtgdcgjlmkmdklaaGreatDoor
