/- The packed texts Sf15. -/
import Derived.Test.YtbnkbbcncloedaaGreatDoorRows
import Derived.WalkKit
import Derived.ProofKit
import Derived.OpenShut
import Derived.WalkLawsBesides
import Derived.Below
import Derived.BigQuiet
import Derived.Lib.QuietBelow
import Derived.Lib.AtoiErrMem
import Derived.Deep.OwnRows
import Derived.Deep.DeepCutAuto
import Derived.RangeFuncNested
import Derived.RangeFuncBound
import Derived.RangeFuncCalls
import Derived.RangeFuncLeaves
import Derived.OwnWalkIn
import Derived.TacticsInMore
import Derived.LoopNIn
import Derived.LoopIn
import Derived.Shelf.Abstract
import Derived.Maps.AppendAt
import Derived.OwnWalk
import Derived.Lib.LaidTab
import Derived.Laws.BitsAllLaws
import Derived.Laws.Closers25b
import Derived.Test.YtbnkbbcncloedaaGreatDoorPk1
import Derived.Test.YtbnkbbcncloedaaGreatDoorPk2
import Derived.Test.YtbnkbbcncloedaaGreatDoorPk3
import Derived.Test.YtbnkbbcncloedaaGreatDoorPk4
import Derived.Test.YtbnkbbcncloedaaGreatDoorPk5
import Derived.Test.YtbnkbbcncloedaaGreatDoorPk6
import Derived.Test.YtbnkbbcncloedaaGreatDoorPk9
import Derived.Test.YtbnkbbcncloedaaGreatDoorPk10
import Derived.Test.YtbnkbbcncloedaaGreatDoorPk11
import Derived.Test.YtbnkbbcncloedaaGreatDoorPk17
import Derived.Test.YtbnkbbcncloedaaGreatDoorPk19
import Derived.Test.YtbnkbbcncloedaaGreatDoorPk25
import Derived.Test.YtbnkbbcncloedaaGreatDoorPk37
import Derived.Test.YtbnkbbcncloedaaGreatDoorPk40
namespace Go.Proofs.YtbnkbbcncloedaaGreatDoor
section
open Go.ChangeShapes Go.WideShapes Go.ChangeAt Go.RowKit

set_option linter.unusedVariables false

set_option linter.unusedSimpArgs false

theorem firstF_some {α : Type} {p : Nat → Option α} {n : Nat} {v : α} (h : firstF p n = some v) : ∃ i, i < n ∧ p i = some v := by
  induction n with
  | zero => cases h
  | succ n ih =>
    rw [firstF] at h
    cases q : firstF p n with
    | none => rw [q] at h; exact ⟨n, by omega, by simpa using h⟩
    | some x =>
      rw [q] at h
      obtain ⟨i, hi, e⟩ := ih (by rw [q]; simpa using h)
      exact ⟨i, by omega, e⟩

theorem boF_ne {ng : Nat} {fs : List FnD} {f : FnD} {fn : Nat} {x : FtD} (h : boF ng fs f fn = some x) : ¬ x.1 = 0 := by
  obtain ⟨b, hb, e⟩ := firstF_some h
  unfold blF at e
  split at e
  · cases e; simp
  · obtain ⟨i, hi, e2⟩ := firstF_some e
    split at e2
    · cases e2
    · rename_i q
      cases e2
      exact q

structure ShR (gs : List GlD) (fs : List FnD) (T : FtD) : Prop where
  big : 12 < gs.length ∨ 12 < fs.length → T = (1, -1, -1, -1)
  glo : ¬ (12 < gs.length ∨ 12 < fs.length) → ∀ i, i < gs.length → (∀ j, j < i → gloB gs j = true) → gloB gs i = false → T = (2, -1, -1, (i : Int))
  hea : ¬ (12 < gs.length ∨ 12 < fs.length) → (∀ j, j < gs.length → gloB gs j = true) → ∀ k, k < fs.length → (∀ j, j < k → heaB gs fs j = true ∧ boF gs.length fs (calD fs j) j = none) → heaB gs fs k = false → T = (3, (k : Int), -1, -1)
  bod : ¬ (12 < gs.length ∨ 12 < fs.length) → (∀ j, j < gs.length → gloB gs j = true) → ∀ k, k < fs.length → (∀ j, j < k → heaB gs fs j = true ∧ boF gs.length fs (calD fs j) j = none) → heaB gs fs k = true → ∀ x, boF gs.length fs (calD fs k) k = some x → T = x
  fin : ¬ (12 < gs.length ∨ 12 < fs.length) → (∀ j, j < gs.length → gloB gs j = true) → (∀ j, j < fs.length → heaB gs fs j = true ∧ boF gs.length fs (calD fs j) j = none) → T = (0, 0, 0, 0)

theorem shR (gs : List GlD) (fs : List FnD) : ShR gs fs (shF gs fs) := by
  constructor
  · intro h; unfold shF; rw [if_pos h]
  · intro h i hi hb hv
    unfold shF
    rw [if_neg h, firstF_hit hi (fun j hj => by rw [if_pos (hb j hj)]) (by rw [if_neg (by rw [hv]; simp)])]
    rfl
  · intro h hg k hk hb hv
    unfold shF
    rw [if_neg h, firstF_none (p := fun i => if gloB gs i = true then none else some (2, -1, -1, (i : Int))) (fun j hj => by rw [if_pos (hg j hj)]), firstF_hit hk (fun j hj => by rw [if_pos (hb j hj).1, (hb j hj).2]) (by rw [if_neg (by rw [hv]; simp)])]
    rfl
  · intro h hg k hk hb hv x hx
    unfold shF
    rw [if_neg h, firstF_none (p := fun i => if gloB gs i = true then none else some (2, -1, -1, (i : Int))) (fun j hj => by rw [if_pos (hg j hj)]), firstF_hit hk (fun j hj => by rw [if_pos (hb j hj).1, (hb j hj).2]) (by rw [if_pos hv, hx])]
    rfl
  · intro h hg hb
    unfold shF
    rw [if_neg h, firstF_none (p := fun i => if gloB gs i = true then none else some (2, -1, -1, (i : Int))) (fun j hj => by rw [if_pos (hg j hj)]), firstF_none (fun j hj => by rw [if_pos (hb j hj).1, (hb j hj).2])]
    rfl

set_option maxRecDepth 100000 in
set_option maxHeartbeats 4000000 in
theorem shapeS (gs : List GlD) (fs : List FnD) (vg vf : Value) (w : World) {lo : Nat} (h : MoAt lo w gs fs vg vf) (hn : moN gs fs ≤ 1048576) (hbd : MoB gs fs) :
    Calls Tryz.prog 8 #[.agg #[vg, vf]] w fun e w' => e = .returned (ftV (shF gs fs)) ∧ Below w.heap.size w w' := by
  obtain ⟨ag, kg, rfl⟩ := h.g.shape
  obtain ⟨af, kf, rfl⟩ := h.f.shape
  have g1 : (fs.length : Int) ≤ 140737488355328 := by obtain ⟨_, _, q, _⟩ := h.f.ex; have := q.le; omega
  have g2 : (gs.length : Int) ≤ 140737488355328 := by obtain ⟨_, _, q, _⟩ := h.g.ex; have := q.le; omega
  obtain ⟨W0, hW⟩ : ∃ W0, W0 = (w.alloc (Go.Obj.cells #[.slice ag gs.length kg, .slice af fs.length kf] 33)).alloc (Go.Obj.cells #[.int .i64 0, .int .i64 0, .int .i64 0, .int .i64 0] 28) := ⟨_, rfl⟩
  have B0 : Below w.heap.size w W0 := by rw [hW]; exact bel_trans (bel_alloc _ _) (bel_alloc _ _)
  have mC0 : W0.heap[w.heap.size]? = some (Go.Obj.cells #[.slice ag gs.length kg, .slice af fs.length kf] 33) := by rw [hW]; exact kept_at (new_at w _) (bel_alloc _ _)
  have rC0 : W0.heap[w.heap.size + 1]? = some (Go.Obj.cells #[.int .i64 0, .int .i64 0, .int .i64 0, .int .i64 0] 28) := by
    rw [hW]
    have := new_at (w.alloc (Go.Obj.cells #[.slice ag gs.length kg, .slice af fs.length kf] 33)) (Go.Obj.cells #[.int .i64 0, .int .i64 0, .int .i64 0, .int .i64 0] 28)
    rwa [World.size_alloc] at this
  have MO : Kp (∀ W, Below W0.heap.size W0 W → MoC W w.heap.size (.slice ag gs.length kg) (.slice af fs.length kf)) := ⟨fun W hB => moC_of (kept_at mC0 hB)⟩
  have FO : Kp (∀ W, Below W0.heap.size W0 W → Four w (w.heap.size + 1) W) := ⟨fun W hB => four_of (kept_at rC0 hB) (bel_trans B0 hB) (by omega)⟩
  have CG : Kp (∀ W, Below W0.heap.size W0 W → ∀ i, i < gs.length → Calls Tryz.prog 28 #[.agg #[.slice ag gs.length kg, .slice af fs.length kf], .int .i64 i] W fun e w' => e = .returned (.bool (!gloB gs i)) ∧ Below W.heap.size W w') := ⟨fun W hB i hi => l2Glo gs fs _ _ i W (h.keep (bel_trans B0 hB)) hi⟩
  have CF : Kp (∀ W, Below W0.heap.size W0 W → ∀ i, i < fs.length → Calls Tryz.prog 29 #[.agg #[.slice ag gs.length kg, .slice af fs.length kf], .int .i64 i] W fun e w' => e = .returned (.bool (!heaB gs fs i)) ∧ Below W.heap.size W w') := ⟨fun W hB i hi => l2Fun gs fs _ _ i W (h.keep (bel_trans B0 hB)) hi hn⟩
  have CB : Kp (∀ W, Below W0.heap.size W0 W → ∀ i, i < fs.length → Calls Tryz.prog 30 #[.agg #[.slice ag gs.length kg, .slice af fs.length kf], .int .i64 i] W fun e w' => e = .returned (ftV ((boF gs.length fs (calD fs i) i).getD (0, 0, 0, 0))) ∧ Below W.heap.size W w') := ⟨fun W hB i hi => l2Bod gs fs _ _ i W (h.keep (bel_trans B0 hB)) hi hn hbd⟩
  have RR := Kp.mk (shR gs fs)
  have NE : Kp (∀ (i : Nat) x, boF gs.length fs (calD fs i) i = some x → ¬ x.1 = 0) := ⟨fun i x => boF_ne⟩
  obtain ⟨R, hR⟩ : ∃ R, R = shF gs fs := ⟨_, rfl⟩
  rw [← hR] at RR ⊢
  replace hW := Kp.mk hW
  clear hR mC0 rC0 h hn hbd
  obtain ⟨m0, m1⟩ := MO.out W0 (Below.refl _ _)
  have hBB := Below.refl W0.heap.size W0
  go_enter Tryz.func8, Tryz.ntmps8
  go_upto_region 1 with fail
  rw [← hW.out]
  by_cases b1 : 12 < gs.length
  · have hR : Kp (R = (1, -1, -1, -1)) := ⟨RR.out.big (.inl b1)⟩
    have b1' : (12 : Int) < (gs.length : Int) := by omega
    clear b1
    obtain ⟨hRw, hBl, hCl, hFz, z0, z1, z2, z3, y0, y1, y2, y3⟩ := FO.out _ (hBB)
    have u0 := hFz 0
    have u1 := hFz 1
    have u2 := hFz 2
    have u3 := hFz 3
    have hS := Kp.mk (fun a b c d => belFour hBl hCl a b c d)
    obtain ⟨p0, p1, p2, p3⟩ := putFour hRw (Value.int .i64 1) (Value.int .i64 (-1)) (Value.int .i64 (-1)) (Value.int .i64 (-1))
    replace hRw := Kp.mk hRw
    clear hBl hCl hFz
    go_wp2_with fail
    refine bodyPost_ret (v := .agg #[Value.int .i64 1, Value.int .i64 (-1), Value.int .i64 (-1), Value.int .i64 (-1)]) ?_ rfl ⟨by rw [hR.out], hS.out _ _ _ _⟩
    simp [results, Tryz.results8, go_sem, p0, p1, p2, p3]
  by_cases b2 : 12 < fs.length
  · have hR : Kp (R = (1, -1, -1, -1)) := ⟨RR.out.big (.inr b2)⟩
    have b2' : (12 : Int) < (fs.length : Int) := by omega
    have b1' : ¬ (12 : Int) < (gs.length : Int) := by omega
    clear b1 b2
    obtain ⟨hRw, hBl, hCl, hFz, z0, z1, z2, z3, y0, y1, y2, y3⟩ := FO.out _ (hBB)
    have u0 := hFz 0
    have u1 := hFz 1
    have u2 := hFz 2
    have u3 := hFz 3
    have hS := Kp.mk (fun a b c d => belFour hBl hCl a b c d)
    obtain ⟨p0, p1, p2, p3⟩ := putFour hRw (Value.int .i64 1) (Value.int .i64 (-1)) (Value.int .i64 (-1)) (Value.int .i64 (-1))
    replace hRw := Kp.mk hRw
    clear hBl hCl hFz
    go_wp2_with fail
    refine bodyPost_ret (v := .agg #[Value.int .i64 1, Value.int .i64 (-1), Value.int .i64 (-1), Value.int .i64 (-1)]) ?_ rfl ⟨by rw [hR.out], hS.out _ _ _ _⟩
    simp [results, Tryz.results8, go_sem, p0, p1, p2, p3]
  have hno : Kp (¬ (12 < gs.length ∨ 12 < fs.length)) := ⟨by omega⟩
  have b2' : ¬ (12 : Int) < (fs.length : Int) := by omega
  have b1' : ¬ (12 : Int) < (gs.length : Int) := by omega
  clear b1 b2
  go_wp2_with fail
  clear m0 m1
  go_loopw [3] (fun r wr => ∃ i : Nat, i ≤ gs.length ∧ r = .int .i64 i ∧ Kp (∀ j, j < i → gloB gs j = true) ∧ Below W0.heap.size W0 wr) (fun r _ => gs.length - (intOf r).toNat)
  case atStart => exact ⟨0, Nat.zero_le _, rfl, ⟨fun j hj => absurd hj (by omega)⟩, hBB⟩
  case round =>
    clear hBB
    obtain ⟨i, hi, rfl, hd, hB⟩ := hrel
    obtain ⟨m0, m1⟩ := MO.out _ hB
    by_cases hlt : i < gs.length
    · have hlt' : (i : Int) < (gs.length : Int) := by omega
      have Ci := Kp.mk (CG.out _ hB i hlt)
      cases hg : gloB gs i with
      | false =>
        have hR : Kp (R = (2, -1, -1, (i : Int))) := ⟨RR.out.glo hno.out i hlt hd.out hg⟩
        rw [hg] at Ci
        clear hg hd
        go_wp2_with fail
        refine Ci.out.mono ?_
        rintro e w2 ⟨rfl, hb2⟩
        have hB2 := bel_trans hB hb2
        obtain ⟨hRw, hBl, hCl, hFz, z0, z1, z2, z3, y0, y1, y2, y3⟩ := FO.out _ (hB2)
        have u0 := hFz 0
        have u1 := hFz 1
        have u2 := hFz 2
        have u3 := hFz 3
        have hS := Kp.mk (fun a b c d => belFour hBl hCl a b c d)
        obtain ⟨p0, p1, p2, p3⟩ := putFour hRw (Value.int .i64 2) (Value.int .i64 (-1)) (Value.int .i64 (-1)) (Value.int .i64 i)
        replace hRw := Kp.mk hRw
        clear hBl hCl hFz
        go_wp2_with fail
        refine bodyPost_ret (v := .agg #[Value.int .i64 2, Value.int .i64 (-1), Value.int .i64 (-1), Value.int .i64 i]) ?_ rfl ⟨by rw [hR.out], hS.out _ _ _ _⟩
        simp [results, Tryz.results8, go_sem, p0, p1, p2, p3]
      | true =>
        have hd' : Kp (∀ j, j < i + 1 → gloB gs j = true) := ⟨fun j hj => by
          by_cases e : j = i
          · rw [e]; exact hg
          · exact hd.out j (by omega)⟩
        rw [hg] at Ci
        clear hg hd
        go_wp2_with fail
        refine Ci.out.mono ?_
        rintro e w2 ⟨rfl, hb2⟩
        go_wp2_with fail
        exact ⟨⟨i + 1, by omega, by go_num, hd', bel_trans hB hb2⟩, by simp [intOf]; omega⟩
    · have hlt' : ¬ (i : Int) < (gs.length : Int) := by omega
      have hall : Kp (∀ j, j < gs.length → gloB gs j = true) := ⟨fun j hj => hd.out j (by omega)⟩
      obtain ⟨wo, hwo⟩ : ∃ wo : World, wo = wr := ⟨_, rfl⟩
      have hBo : Below wo.heap.size wo wr := by rw [hwo]; exact Below.refl _ _
      rw [← hwo] at hB
      clear hwo hd
      go_wp2_with fail
      clear m0 m1
      go_loopw [4] (fun r wr => ∃ i : Nat, i ≤ fs.length ∧ r = .int .i64 i ∧ Kp (∀ j, j < i → heaB gs fs j = true ∧ boF gs.length fs (calD fs j) j = none) ∧ Below wo.heap.size wo wr) (fun r _ => fs.length - (intOf r).toNat)
      case atStart => exact ⟨0, Nat.zero_le _, rfl, ⟨fun j hj => absurd hj (by omega)⟩, hBo⟩
      case round =>
        clear hBo
        obtain ⟨k, hk, rfl, hd, hBq⟩ := hrel
        have hB1 := bel_trans hB hBq
        obtain ⟨m0, m1⟩ := MO.out _ hB1
        by_cases hlt2 : k < fs.length
        · have hlt2' : (k : Int) < (fs.length : Int) := by omega
          have Ci := Kp.mk (CF.out _ hB1 k hlt2)
          cases hg : heaB gs fs k with
          | false =>
            have hR : Kp (R = (3, (k : Int), -1, -1)) := ⟨RR.out.hea hno.out hall.out k hlt2 hd.out hg⟩
            rw [hg] at Ci
            clear hg hd
            go_wp2_with fail
            refine Ci.out.mono ?_
            rintro e w2 ⟨rfl, hb2⟩
            have hB2 := bel_trans hB1 hb2
            obtain ⟨hRw, hBl, hCl, hFz, z0, z1, z2, z3, y0, y1, y2, y3⟩ := FO.out _ (hB2)
            have u0 := hFz 0
            have u1 := hFz 1
            have u2 := hFz 2
            have u3 := hFz 3
            have hS := Kp.mk (fun a b c d => belFour hBl hCl a b c d)
            obtain ⟨p0, p1, p2, p3⟩ := putFour hRw (Value.int .i64 3) (Value.int .i64 k) (Value.int .i64 (-1)) (Value.int .i64 (-1))
            replace hRw := Kp.mk hRw
            clear hBl hCl hFz
            go_wp2_with fail
            refine bodyPost_ret (v := .agg #[Value.int .i64 3, Value.int .i64 k, Value.int .i64 (-1), Value.int .i64 (-1)]) ?_ rfl ⟨by rw [hR.out], hS.out _ _ _ _⟩
            simp [results, Tryz.results8, go_sem, p0, p1, p2, p3]
          | true =>
            rw [hg] at Ci
            cases hbo : boF gs.length fs (calD fs k) k with
            | none =>
              have CBk := Kp.mk (fun W hW => CB.out W hW k hlt2)
              rw [hbo] at CBk
              have hd' : Kp (∀ j, j < k + 1 → heaB gs fs j = true ∧ boF gs.length fs (calD fs j) j = none) := ⟨fun j hj => by
                by_cases e : j = k
                · rw [e]; exact ⟨hg, hbo⟩
                · exact hd.out j (by omega)⟩
              clear hg hd hbo
              go_wp2_with fail
              refine Ci.out.mono ?_
              rintro e w2 ⟨rfl, hb2⟩
              have hB2 := bel_trans hB1 hb2
              obtain ⟨n0, n1⟩ := MO.out _ hB2
              clear m0 m1
              go_wp2_with fail
              refine (CBk.out _ hB2).mono ?_
              rintro e w3 ⟨rfl, hb3⟩
              go_wp2_with fail
              exact ⟨⟨k + 1, by omega, by go_num, hd', bel_trans hBq (bel_trans hb2 (bel_trans hb3 (bel_alloc _ _)))⟩, by simp [intOf]; omega⟩
            | some x =>
              obtain ⟨x1, x2, x3, x4⟩ := x
              have CBk := Kp.mk (fun W hW => CB.out W hW k hlt2)
              rw [hbo] at CBk
              have hR : Kp (R = (x1, x2, x3, x4)) := ⟨RR.out.bod hno.out hall.out k hlt2 hd.out hg _ hbo⟩
              have hne : ¬ x1 = 0 := NE.out k _ hbo
              have n1' := nbT hne
              have n2' := nb hne
              clear hg hd hbo hne
              go_wp2_with fail
              refine Ci.out.mono ?_
              rintro e w2 ⟨rfl, hb2⟩
              have hB2 := bel_trans hB1 hb2
              obtain ⟨n0, n1⟩ := MO.out _ hB2
              clear m0 m1
              go_wp2_with fail
              refine (CBk.out _ hB2).mono ?_
              rintro e w3 ⟨rfl, hb3⟩
              have hB3 := bel_trans hB2 hb3
              go_upto_region 14 with fail
              obtain ⟨w4, hw4⟩ : ∃ w4, w4 = w3.alloc (Go.Obj.cells #[.int .i64 x1, .int .i64 x2, .int .i64 x3, .int .i64 x4] 28) := ⟨_, rfl⟩
              have q4 := new_at w3 (Go.Obj.cells #[.int .i64 x1, .int .i64 x2, .int .i64 x3, .int .i64 x4] 28)
              have hB4 : Below W0.heap.size W0 w4 := by rw [hw4]; exact bel_trans hB3 (bel_alloc _ _)
              rw [← hw4] at q4
              rw [← hw4]
              have v0 : At w4 w3.heap.size 0 _ := cells_at q4 rfl
              have v1 : At w4 w3.heap.size 1 _ := cells_at q4 rfl
              have v2 : At w4 w3.heap.size 2 _ := cells_at q4 rfl
              have v3 : At w4 w3.heap.size 3 _ := cells_at q4 rfl
              clear q4
              replace hw4 := Kp.mk hw4
              obtain ⟨hRw, hBl, hCl, hFz, z0, z1, z2, z3, y0, y1, y2, y3⟩ := FO.out _ (hB4)
              have u0 := hFz 0
              have u1 := hFz 1
              have u2 := hFz 2
              have u3 := hFz 3
              have hS := Kp.mk (fun a b c d => belFour hBl hCl a b c d)
              obtain ⟨p0, p1, p2, p3⟩ := putFour hRw (Value.int .i64 x1) (Value.int .i64 x2) (Value.int .i64 x3) (Value.int .i64 x4)
              replace hRw := Kp.mk hRw
              clear hBl hCl hFz
              go_wp2_with fail
              refine bodyPost_ret (v := .agg #[Value.int .i64 x1, Value.int .i64 x2, Value.int .i64 x3, Value.int .i64 x4]) ?_ rfl ⟨by rw [hR.out], hS.out _ _ _ _⟩
              simp [results, Tryz.results8, go_sem, p0, p1, p2, p3]
        · have hlt2' : ¬ (k : Int) < (fs.length : Int) := by omega
          have hR : Kp (R = (0, 0, 0, 0)) := ⟨RR.out.fin hno.out hall.out (fun j hj => hd.out j (by omega))⟩
          clear hd
          obtain ⟨hRw, hBl, hCl, hFz, z0, z1, z2, z3, y0, y1, y2, y3⟩ := FO.out _ (hB1)
          have u0 := hFz 0
          have u1 := hFz 1
          have u2 := hFz 2
          have u3 := hFz 3
          have hS := Kp.mk (fun a b c d => belFour hBl hCl a b c d)
          obtain ⟨p0, p1, p2, p3⟩ := putFour hRw (Value.int .i64 0) (Value.int .i64 0) (Value.int .i64 0) (Value.int .i64 0)
          replace hRw := Kp.mk hRw
          clear hBl hCl hFz
          go_wp2_with fail
          refine bodyPost_ret (v := .agg #[Value.int .i64 0, Value.int .i64 0, Value.int .i64 0, Value.int .i64 0]) ?_ rfl ⟨by rw [hR.out], hS.out _ _ _ _⟩
          simp [results, Tryz.results8, go_sem, p0, p1, p2, p3]
end
end Go.Proofs.YtbnkbbcncloedaaGreatDoor
