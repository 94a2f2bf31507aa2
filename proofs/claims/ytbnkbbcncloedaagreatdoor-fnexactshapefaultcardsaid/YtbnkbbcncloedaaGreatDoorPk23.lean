/- The packed texts Im2, Im3. -/
import Derived.Test.YtbnkbbcncloedaaGreatDoorRows
import Derived.WalkKit
import Derived.ProofKit
import Derived.OpenShut
import Derived.WalkLawsBesides
import Derived.Below
import Derived.BigQuiet
import Derived.Lib.QuietBelow
import Derived.Lib.AtoiErrMem
import Derived.Deep.OwnRows
import Derived.Deep.DeepCutAuto
import Derived.RangeFuncNested
import Derived.RangeFuncBound
import Derived.RangeFuncCalls
import Derived.RangeFuncLeaves
import Derived.OwnWalkIn
import Derived.TacticsInMore
import Derived.LoopNIn
import Derived.LoopIn
import Derived.Shelf.Abstract
import Derived.Maps.AppendAt
import Derived.OwnWalk
import Derived.Lib.LaidTab
import Derived.Laws.BitsAllLaws
import Derived.Laws.Closers25b
import Derived.Test.YtbnkbbcncloedaaGreatDoorPk1
import Derived.Test.YtbnkbbcncloedaaGreatDoorPk2
import Derived.Test.YtbnkbbcncloedaaGreatDoorPk3
import Derived.Test.YtbnkbbcncloedaaGreatDoorPk4
import Derived.Test.YtbnkbbcncloedaaGreatDoorPk5
import Derived.Test.YtbnkbbcncloedaaGreatDoorPk6
import Derived.Test.YtbnkbbcncloedaaGreatDoorPk7
import Derived.Test.YtbnkbbcncloedaaGreatDoorPk9
import Derived.Test.YtbnkbbcncloedaaGreatDoorPk10
import Derived.Test.YtbnkbbcncloedaaGreatDoorPk22
namespace Go.Proofs.YtbnkbbcncloedaaGreatDoor
section
open Go.ChangeShapes Go.WideShapes Go.ChangeAt Go.RowKit

set_option linter.unusedVariables false

set_option linter.unusedSimpArgs false

abbrev hdV (op ty : Int) (va : Value) : Value := .agg #[.int .i64 op, .int .i64 ty, va]

theorem ints0 (W : World) : Ints 0 .i64 W (.slice none 0 0) [] :=
  ⟨0, 0, ⟨⟨none, 0, rfl, Nat.le_refl _, fun h => absurd h (by simp)⟩, by simp⟩, Nat.le_refl _, fun i hi => absurd hi (by simp)⟩

theorem ints1 {W : World} {B : Nat} {a : Int} {t : TypeId} (h : W.heap[B]? = some (Go.Obj.cells #[.int .i64 a] t (0, 0))) : Ints 0 .i64 W (.slice (some ⟨B, 0, none⟩) 1 1) [a] :=
  ⟨B, 0, ⟨⟨_, 1, rfl, Nat.le_refl _, fun _ => rfl⟩, by simp⟩, Nat.zero_le _, fun i hi => by
    obtain rfl : i = 0 := by simpa using hi
    exact cells_at h rfl⟩

theorem ints2 {W : World} {B : Nat} {a b : Int} {t : TypeId} (h : W.heap[B]? = some (Go.Obj.cells #[.int .i64 a, .int .i64 b] t (0, 0))) : Ints 0 .i64 W (.slice (some ⟨B, 0, none⟩) 2 2) [a, b] :=
  ⟨B, 0, ⟨⟨_, 2, rfl, Nat.le_refl _, fun _ => rfl⟩, by simp⟩, Nat.zero_le _, fun i hi => by
    have : i = 0 ∨ i = 1 := by simp at hi; omega
    rcases this with rfl | rfl <;> exact cells_at h rfl⟩

theorem ints3 {W : World} {B : Nat} {a b c : Int} {t : TypeId} (h : W.heap[B]? = some (Go.Obj.cells #[.int .i64 a, .int .i64 b, .int .i64 c] t (0, 0))) : Ints 0 .i64 W (.slice (some ⟨B, 0, none⟩) 3 3) [a, b, c] :=
  ⟨B, 0, ⟨⟨_, 3, rfl, Nat.le_refl _, fun _ => rfl⟩, by simp⟩, Nat.zero_le _, fun i hi => by
    have : i = 0 ∨ i = 1 ∨ i = 2 := by simp at hi; omega
    rcases this with rfl | rfl | rfl <;> exact cells_at h rfl⟩

set_option maxHeartbeats 2000000 in
theorem hdArgs (op ty : Int) (a : Option Addr) (n c : Nat) (w : World) :
    Calls Tryz.prog 256 #[hdV op ty (.slice a n c)] w fun e w' => e = .returned (.slice a n c) ∧ Below w.heap.size w w' := by
  go_enter Tryz.func256, Tryz.ntmps256
  go_wp2_with fail
  go_ret
  exact ⟨rfl, bel_alloc _ _⟩

set_option maxHeartbeats 2000000 in
theorem hdTgt (op ty : Int) (a : Option Addr) (n c : Nat) (w : World) :
    Calls Tryz.prog 261 #[hdV op ty (.slice a n c)] w fun e w' => e = .returned (.slice none 0 0) ∧ Below w.heap.size w w' := by
  go_enter Tryz.func261, Tryz.ntmps261
  go_wp2_with fail
  go_ret
  exact ⟨rfl, bel_alloc _ _⟩

set_option maxHeartbeats 2000000 in
theorem hdCases (op ty : Int) (a : Option Addr) (n c : Nat) (w : World) :
    Calls Tryz.prog 257 #[hdV op ty (.slice a n c)] w fun e w' => e = .returned (.bool true) ∧ Below w.heap.size w w' := by
  go_enter Tryz.func257, Tryz.ntmps257
  go_wp2_with fail
  go_ret
  exact ⟨rfl, bel_alloc _ _⟩

set_option maxHeartbeats 2000000 in
theorem hdOwn (op ty : Int) (a : Option Addr) (n c : Nat) (a1 a2 a3 a4 a5 : Option Addr) (n1 n2 n3 n4 n5 c1 c2 c3 c4 c5 : Nat) (name : ByteArray) (link res bk : Int) (w : World) :
    Calls Tryz.prog 259 #[hdV op ty (.slice a n c), scV (.slice a1 n1 c1) (.slice a2 n2 c2) name link (.slice a3 n3 c3) res (.slice a4 n4 c4) (.slice a5 n5 c5) bk] w fun e w' => e = .returned (.bool true) ∧ Below w.heap.size w w' := by
  go_enter Tryz.func259, Tryz.ntmps259
  go_wp2_with fail
  go_ret
  exact ⟨rfl, bel_trans (bel_alloc _ _) (bel_alloc _ _)⟩

def fty (args : List OpD) : Int := if vtB (args.getD 0 default).t = true then (args.getD 0 default).t else 0

def fwd (args : List OpD) : Int := if vw (fty args) = true then fty args else 0

def cty (op ty : Int) (args : List OpD) : Int := if (op = 18 ∧ ty < fwd args) ∨ (¬ op = 18 ∧ fwd args < ty) then fwd args else 0

set_option maxHeartbeats 4000000 in
theorem hdFty (op ty : Int) (va : Value) (args : List OpD) (w : World) {lo : Nat} (h : Ops lo w va args) (hw : Wid w) :
    Calls Tryz.prog 265 #[hdV op ty va] w fun e w' => e = .returned (.int .i64 (fty args)) ∧ Below w.heap.size w w' := by
  obtain ⟨b, o, ⟨⟨a, c, rfl, s1, s2⟩, s3⟩, -, hc⟩ := h.ex
  have g : (args.length : Int) ≤ 140737488355328 := by omega
  by_cases h0 : args.length = 0
  · have G : Kp (fty args = 0) := ⟨by cases args with
      | nil => rfl
      | cons x r => simp at h0⟩
    rw [G.out]
    have e0 : ((args.length : Int) == 0) = true := by simp [h0]
    replace h0 := Kp.mk h0
    clear hc h s2 G hw
    generalize args.length = L at *
    go_enter Tryz.func265, Tryz.ntmps265
    go_wp2_with fail
    go_ret
    exact ⟨rfl, bel_alloc _ _⟩
  · have hp : 0 < args.length := by omega
    obtain rfl := s2 hp
    have hcl := at_keep (hc 0 hp).c1 (bel_alloc w (Go.Obj.cells #[.int .i64 op, .int .i64 ty, .slice (some ⟨b, o, none⟩) args.length c] 228))
    have G : Kp (fty args = if vtB (args[0]).t = true then (args[0]).t else 0) := ⟨by simp [fty, List.getD_eq_getElem?_getD, hp]⟩
    rw [G.out]
    simp only [Nat.zero_mul, Nat.add_zero] at hcl
    have hp' : (0 : Int) < args.length := by omega
    have e0 : ((args.length : Int) == 0) = false := nb (by omega)
    clear hc s2 G
    generalize (args[0]).t = T at *
    obtain ⟨W1, hW1⟩ : ∃ W1, W1 = w.alloc (Go.Obj.cells #[.int .i64 op, .int .i64 ty, .slice (some ⟨b, o, none⟩) args.length c] 228) := ⟨_, rfl⟩
    have hx := new_at w (Go.Obj.cells #[.int .i64 op, .int .i64 ty, .slice (some ⟨b, o, none⟩) args.length c] 228)
    have B1 := bel_alloc w (Go.Obj.cells #[.int .i64 op, .int .i64 ty, .slice (some ⟨b, o, none⟩) args.length c] 228)
    rw [← hW1] at hcl hx B1
    have VT := Kp.mk (vtI T W1 (hw.below B1))
    have x2 : At W1 w.heap.size 2 _ := cells_at hx rfl
    clear hx
    replace hW1 := Kp.mk hW1
    generalize vtB T = R at *
    cases R
    all_goals
      go_enter Tryz.func265, Tryz.ntmps265
      go_upto_region 1 with fail
      rw [← hW1.out]
      go_wp2_with fail
      refine VT.out.mono ?_
      rintro e w1 ⟨rfl, rfl⟩
      go_wp2_with fail
      go_ret
      exact ⟨rfl, B1⟩

set_option maxHeartbeats 2000000 in
theorem hdFw (op ty : Int) (va : Value) (args : List OpD) (w : World) {lo : Nat} (h : Ops lo w va args) (hw : Wid w) :
    Calls Tryz.prog 266 #[hdV op ty va] w fun e w' => e = .returned (.int .i64 (fwd args)) ∧ Below w.heap.size w w' := by
  obtain ⟨b, o, ⟨⟨a, c, rfl, s1, s2⟩, s3⟩, -, hc⟩ := h.ex
  have FT : Kp (∀ w, Ops lo w (.slice a args.length c) args → Wid w → Calls Tryz.prog 265 #[hdV op ty (.slice a args.length c)] w fun e w' => e = .returned (.int .i64 (fty args)) ∧ Below w.heap.size w w') := ⟨fun w h hw => hdFty op ty _ args w h hw⟩
  have VW : Kp (∀ w, Wid w → Calls Tryz.prog 186 #[.int .i64 (fty args)] w fun e w' => e = .returned (.bool (vw (fty args))) ∧ w' = w) := ⟨fun w hw => validWidth_any _ w hw⟩
  have G : Kp (fwd args = if vw (fty args) = true then fty args else 0) := ⟨rfl⟩
  rw [G.out]
  replace h := Kp.mk h
  replace hw := Kp.mk hw
  clear G hc s2
  generalize vw (fty args) = R at *
  generalize fty args = T at *
  generalize args.length = L at *
  cases R
  all_goals
    go_enter Tryz.func266, Tryz.ntmps266
    go_wp2_with fail
    refine (FT.out _ (h.out.keep (bel_alloc _ _)) (hw.out.below (bel_alloc _ _))).mono ?_
    rintro e w1 ⟨rfl, hb1⟩
    have B1 := bel_trans (bel_alloc _ _) hb1
    have hw1 := hw.out.below B1
    go_wp2_with fail
    refine (VW.out _ hw1).mono ?_
    rintro e w2 ⟨rfl, rfl⟩
    go_wp2_with fail
    go_ret
    exact ⟨rfl, B1⟩

set_option maxHeartbeats 4000000 in
theorem hdCty (op ty : Int) (va : Value) (args : List OpD) (w : World) {lo : Nat} (h : Ops lo w va args) (hw : Wid w) :
    Calls Tryz.prog 264 #[hdV op ty va] w fun e w' => e = .returned (.int .i64 (cty op ty args)) ∧ Below w.heap.size w w' := by
  obtain ⟨b, o, ⟨⟨a, c, rfl, s1, s2⟩, s3⟩, -, hc⟩ := h.ex
  have FW : Kp (∀ w, Ops lo w (.slice a args.length c) args → Wid w → Calls Tryz.prog 266 #[hdV op ty (.slice a args.length c)] w fun e w' => e = .returned (.int .i64 (fwd args)) ∧ Below w.heap.size w w') := ⟨fun w h hw => hdFw op ty _ args w h hw⟩
  have G : Kp (cty op ty args = if (op = 18 ∧ ty < fwd args) ∨ (¬ op = 18 ∧ fwd args < ty) then fwd args else 0) := ⟨rfl⟩
  rw [G.out]
  replace h := Kp.mk h
  replace hw := Kp.mk hw
  clear G hc s2
  generalize fwd args = T at *
  generalize args.length = L at *
  obtain ⟨O, hO⟩ : ∃ O, O = Go.Obj.cells #[.int .i64 op, .int .i64 ty, .slice a L c] 228 := ⟨_, rfl⟩
  have hx : (w.alloc O).heap[w.heap.size]? = some (Go.Obj.cells #[.int .i64 op, .int .i64 ty, .slice a L c] 228) := by rw [← hO]; exact new_at w O
  have hB0 := bel_alloc w O
  rw [hO] at hx hB0
  replace hx := Kp.mk hx
  clear hO
  by_cases q : (op = 18 ∧ ty < T) ∨ (¬ op = 18 ∧ T < ty)
  · rw [if_pos q]
    rcases q with ⟨rfl, q2⟩ | ⟨q1, q2⟩
    · go_enter Tryz.func264, Tryz.ntmps264
      go_wp2_with fail
      refine (FW.out _ (h.out.keep hB0) (hw.out.below hB0)).mono ?_
      rintro e w1 ⟨rfl, hb1⟩
      have y0 : At w1 w.heap.size 0 _ := cells_at (kept_at hx.out hb1) rfl
      have y1 : At w1 w.heap.size 1 _ := cells_at (kept_at hx.out hb1) rfl
      go_wp2_with fail
      go_ret
      exact ⟨rfl, bel_trans hB0 hb1⟩
    · have n18 := nb q1
      have m18 : (op != 18) = true := by simp [bne, n18]
      clear q1
      go_enter Tryz.func264, Tryz.ntmps264
      go_wp2_with fail
      refine (FW.out _ (h.out.keep hB0) (hw.out.below hB0)).mono ?_
      rintro e w1 ⟨rfl, hb1⟩
      have y0 : At w1 w.heap.size 0 _ := cells_at (kept_at hx.out hb1) rfl
      have y1 : At w1 w.heap.size 1 _ := cells_at (kept_at hx.out hb1) rfl
      go_wp2_with fail
      go_ret
      exact ⟨rfl, bel_trans hB0 hb1⟩
  · rw [if_neg q]
    by_cases q1 : op = 18
    · subst q1
      have q2 : ¬ ty < T := by omega
      clear q
      go_enter Tryz.func264, Tryz.ntmps264
      go_wp2_with fail
      refine (FW.out _ (h.out.keep hB0) (hw.out.below hB0)).mono ?_
      rintro e w1 ⟨rfl, hb1⟩
      have y0 : At w1 w.heap.size 0 _ := cells_at (kept_at hx.out hb1) rfl
      have y1 : At w1 w.heap.size 1 _ := cells_at (kept_at hx.out hb1) rfl
      go_wp2_with fail
      go_ret
      exact ⟨rfl, bel_trans hB0 hb1⟩
    · have n18 := nb q1
      have m18 : (op != 18) = true := by simp [bne, n18]
      have q2 : ¬ T < ty := by omega
      clear q q1
      go_enter Tryz.func264, Tryz.ntmps264
      go_wp2_with fail
      refine (FW.out _ (h.out.keep hB0) (hw.out.below hB0)).mono ?_
      rintro e w1 ⟨rfl, hb1⟩
      have y0 : At w1 w.heap.size 0 _ := cells_at (kept_at hx.out hb1) rfl
      have y1 : At w1 w.heap.size 1 _ := cells_at (kept_at hx.out hb1) rfl
      go_wp2_with fail
      go_ret
      exact ⟨rfl, bel_trans hB0 hb1⟩
end
section
open Go.ChangeShapes Go.WideShapes Go.ChangeAt Go.RowKit

set_option linter.unusedVariables false

set_option linter.unusedSimpArgs false

def resB (op ty : Int) : Bool :=
  if op = 15 ∨ op = 20 ∨ op = 22 then vtB ty else if op = 16 ∨ op = 17 ∨ op = 18 then vw ty else if op = 21 ∨ op = 24 then decide (ty = 65) else decide (ty = 0)

def wanH (op ty : Int) (args : List OpD) (res : Int) : List Int :=
  if op = 15 then [1, ty, ty] else if op = 16 ∨ op = 17 ∨ op = 18 then [cty op ty args] else if op = 22 then [65] else if op = 23 then [fty args, 65]
  else if op = 24 then [65, 64] else if op = 26 then [64] else if op = 30 then (if res = 0 then [] else [res]) else []

set_option maxHeartbeats 4000000 in
theorem hdRes (op ty : Int) (a : Option Addr) (n c : Nat) (a1 a2 a3 a4 a5 : Option Addr) (n1 n2 n3 n4 n5 c1 c2 c3 c4 c5 : Nat) (name : ByteArray) (link res bk : Int) (w : World) (hw : Wid w) :
    Calls Tryz.prog 260 #[hdV op ty (.slice a n c), scV (.slice a1 n1 c1) (.slice a2 n2 c2) name link (.slice a3 n3 c3) res (.slice a4 n4 c4) (.slice a5 n5 c5) bk] w fun e w' => e = .returned (.bool (resB op ty)) ∧ Below w.heap.size w w' := by
  have BB := bel_trans (bel_alloc w (Go.Obj.cells #[.int .i64 op, .int .i64 ty, .slice a n c] 228)) (bel_alloc _ (scC (.slice a1 n1 c1) (.slice a2 n2 c2) name link (.slice a3 n3 c3) res (.slice a4 n4 c4) (.slice a5 n5 c5) bk))
  have hw1 := hw.below BB
  have VT := Kp.mk (vtI ty _ hw1)
  have VW := Kp.mk (validWidth_any ty _ hw1)
  clear hw1 hw
  by_cases e15 : op = 15
  · subst e15
    rw [show resB 15 ty = vtB ty by simp [resB]]
    clear VW
    generalize vtB ty = R at *
    go_enter Tryz.func260, Tryz.ntmps260
    go_wp2_with fail
    refine VT.out.mono ?_
    rintro e w1 ⟨rfl, rfl⟩
    go_wp2_with fail
    all_goals
      go_ret
      exact ⟨ret_bool (by first | rfl | (rw [Bool.eq_iff_iff]; simp; done) | simp_all), BB⟩
  by_cases e20 : op = 20
  · subst e20
    rw [show resB 20 ty = vtB ty by simp [resB]]
    clear VW
    generalize vtB ty = R at *
    go_enter Tryz.func260, Tryz.ntmps260
    go_wp2_with fail
    refine VT.out.mono ?_
    rintro e w1 ⟨rfl, rfl⟩
    go_wp2_with fail
    all_goals
      go_ret
      exact ⟨ret_bool (by first | rfl | (rw [Bool.eq_iff_iff]; simp; done) | simp_all), BB⟩
  by_cases e22 : op = 22
  · subst e22
    rw [show resB 22 ty = vtB ty by simp [resB]]
    clear VW
    generalize vtB ty = R at *
    go_enter Tryz.func260, Tryz.ntmps260
    go_wp2_with fail
    refine VT.out.mono ?_
    rintro e w1 ⟨rfl, rfl⟩
    go_wp2_with fail
    all_goals
      go_ret
      exact ⟨ret_bool (by first | rfl | (rw [Bool.eq_iff_iff]; simp; done) | simp_all), BB⟩
  by_cases e16 : op = 16
  · subst e16
    rw [show resB 16 ty = vw ty by simp [resB]]
    clear VT
    generalize vw ty = R at *
    go_enter Tryz.func260, Tryz.ntmps260
    go_wp2_with fail
    refine VW.out.mono ?_
    rintro e w1 ⟨rfl, rfl⟩
    go_wp2_with fail
    all_goals
      go_ret
      exact ⟨ret_bool (by first | rfl | (rw [Bool.eq_iff_iff]; simp; done) | simp_all), BB⟩
  by_cases e17 : op = 17
  · subst e17
    rw [show resB 17 ty = vw ty by simp [resB]]
    clear VT
    generalize vw ty = R at *
    go_enter Tryz.func260, Tryz.ntmps260
    go_wp2_with fail
    refine VW.out.mono ?_
    rintro e w1 ⟨rfl, rfl⟩
    go_wp2_with fail
    all_goals
      go_ret
      exact ⟨ret_bool (by first | rfl | (rw [Bool.eq_iff_iff]; simp; done) | simp_all), BB⟩
  by_cases e18 : op = 18
  · subst e18
    rw [show resB 18 ty = vw ty by simp [resB]]
    clear VT
    generalize vw ty = R at *
    go_enter Tryz.func260, Tryz.ntmps260
    go_wp2_with fail
    refine VW.out.mono ?_
    rintro e w1 ⟨rfl, rfl⟩
    go_wp2_with fail
    all_goals
      go_ret
      exact ⟨ret_bool (by first | rfl | (rw [Bool.eq_iff_iff]; simp; done) | simp_all), BB⟩
  by_cases e21 : op = 21
  · subst e21
    rw [show resB 21 ty = decide (ty = 65) by simp [resB]]
    clear VT VW
    go_enter Tryz.func260, Tryz.ntmps260
    go_wp2_with fail
    all_goals
      go_ret
      exact ⟨ret_bool (by first | rfl | (rw [Bool.eq_iff_iff]; simp; done) | simp_all), BB⟩
  by_cases e24 : op = 24
  · subst e24
    rw [show resB 24 ty = decide (ty = 65) by simp [resB]]
    clear VT VW
    go_enter Tryz.func260, Tryz.ntmps260
    go_wp2_with fail
    all_goals
      go_ret
      exact ⟨ret_bool (by first | rfl | (rw [Bool.eq_iff_iff]; simp; done) | simp_all), BB⟩
  rw [show resB op ty = decide (ty = 0) by simp [resB, e15, e20, e22, e16, e17, e18, e21, e24]]
  have n15 := nb e15
  have n20 := nb e20
  have n22 := nb e22
  have n16 := nb e16
  have n17 := nb e17
  have n18 := nb e18
  have n21 := nb e21
  have n24 := nb e24
  clear VT VW e15 e20 e22 e16 e17 e18 e21 e24
  go_enter Tryz.func260, Tryz.ntmps260
  go_wp2_with fail
  all_goals
    go_ret
    exact ⟨ret_bool (by first | rfl | (rw [Bool.eq_iff_iff]; simp; done) | simp_all), BB⟩

set_option maxRecDepth 100000 in
set_option maxHeartbeats 4000000 in
theorem hdWan (op ty : Int) (va : Value) (args : List OpD) (a1 a2 a3 a4 a5 : Option Addr) (n1 n2 n3 n4 n5 c1 c2 c3 c4 c5 : Nat) (name : ByteArray) (link res bk : Int) (w : World) {lo : Nat} (h : Ops lo w va args) (hw : Wid w) :
    Calls Tryz.prog 262 #[hdV op ty va, scV (.slice a1 n1 c1) (.slice a2 n2 c2) name link (.slice a3 n3 c3) res (.slice a4 n4 c4) (.slice a5 n5 c5) bk] w fun e w' => ∃ v, e = .returned v ∧ Ints 0 .i64 w' v (wanH op ty args res) ∧ Below w.heap.size w w' := by
  obtain ⟨b, o, ⟨⟨a, c, rfl, s1, s2⟩, s3⟩, -, hc⟩ := h.ex
  have FT : Kp (∀ w, Ops lo w (.slice a args.length c) args → Wid w → Calls Tryz.prog 265 #[hdV op ty (.slice a args.length c)] w fun e w' => e = .returned (.int .i64 (fty args)) ∧ Below w.heap.size w w') := ⟨fun w h hw => hdFty op ty _ args w h hw⟩
  have CT : Kp (∀ w, Ops lo w (.slice a args.length c) args → Wid w → Calls Tryz.prog 264 #[hdV op ty (.slice a args.length c)] w fun e w' => e = .returned (.int .i64 (cty op ty args)) ∧ Below w.heap.size w w') := ⟨fun w h hw => hdCty op ty _ args w h hw⟩
  have BB := bel_trans (bel_alloc w (Go.Obj.cells #[.int .i64 op, .int .i64 ty, .slice a args.length c] 228)) (bel_alloc _ (scC (.slice a1 n1 c1) (.slice a2 n2 c2) name link (.slice a3 n3 c3) res (.slice a4 n4 c4) (.slice a5 n5 c5) bk))
  have hw1 := Kp.mk (hw.below BB)
  have h1 := Kp.mk (h.keep BB)
  clear h hw hc s2
  by_cases e15 : op = 15
  · subst e15
    rw [show wanH 15 ty args res = [1, ty, ty] by simp [wanH]]
    clear FT CT h1
    go_enter Tryz.func262, Tryz.ntmps262
    go_wp2_with fail
    go_ret
    obtain ⟨-, B3, -, -, x3⟩ := boxes3 (w := w) (o1 := Go.Obj.cells #[.int .i64 15, .int .i64 ty, .slice a args.length c] 228) (o2 := scC (.slice a1 n1 c1) (.slice a2 n2 c2) name link (.slice a3 n3 c3) res (.slice a4 n4 c4) (.slice a5 n5 c5) bk) (o3 := Go.Obj.cells #[.int .i64 1, .int .i64 ty, .int .i64 ty] 2) rfl
    exact ⟨_, rfl, ints3 x3, B3⟩
  by_cases e22 : op = 22
  · subst e22
    rw [show wanH 22 ty args res = [65] by simp [wanH]]
    clear FT CT h1
    go_enter Tryz.func262, Tryz.ntmps262
    go_wp2_with fail
    go_ret
    obtain ⟨-, B3, -, -, x3⟩ := boxes3 (w := w) (o1 := Go.Obj.cells #[.int .i64 22, .int .i64 ty, .slice a args.length c] 228) (o2 := scC (.slice a1 n1 c1) (.slice a2 n2 c2) name link (.slice a3 n3 c3) res (.slice a4 n4 c4) (.slice a5 n5 c5) bk) (o3 := Go.Obj.cells #[.int .i64 65] 2) rfl
    exact ⟨_, rfl, ints1 x3, B3⟩
  by_cases e24 : op = 24
  · subst e24
    rw [show wanH 24 ty args res = [65, 64] by simp [wanH]]
    clear FT CT h1
    go_enter Tryz.func262, Tryz.ntmps262
    go_wp2_with fail
    go_ret
    obtain ⟨-, B3, -, -, x3⟩ := boxes3 (w := w) (o1 := Go.Obj.cells #[.int .i64 24, .int .i64 ty, .slice a args.length c] 228) (o2 := scC (.slice a1 n1 c1) (.slice a2 n2 c2) name link (.slice a3 n3 c3) res (.slice a4 n4 c4) (.slice a5 n5 c5) bk) (o3 := Go.Obj.cells #[.int .i64 65, .int .i64 64] 2) rfl
    exact ⟨_, rfl, ints2 x3, B3⟩
  by_cases e26 : op = 26
  · subst e26
    rw [show wanH 26 ty args res = [64] by simp [wanH]]
    clear FT CT h1
    go_enter Tryz.func262, Tryz.ntmps262
    go_wp2_with fail
    go_ret
    obtain ⟨-, B3, -, -, x3⟩ := boxes3 (w := w) (o1 := Go.Obj.cells #[.int .i64 26, .int .i64 ty, .slice a args.length c] 228) (o2 := scC (.slice a1 n1 c1) (.slice a2 n2 c2) name link (.slice a3 n3 c3) res (.slice a4 n4 c4) (.slice a5 n5 c5) bk) (o3 := Go.Obj.cells #[.int .i64 64] 2) rfl
    exact ⟨_, rfl, ints1 x3, B3⟩
  by_cases e16 : op = 16
  · subst e16
    rw [show wanH 16 ty args res = [cty 16 ty args] by simp [wanH]]
    clear FT
    generalize cty 16 ty args = T at *
    replace BB := Kp.mk BB
    go_enter Tryz.func262, Tryz.ntmps262
    go_wp2_with fail
    refine (CT.out _ h1.out hw1.out).mono ?_
    rintro e w1 ⟨rfl, hb1⟩
    have B1 := bel_trans BB.out hb1
    go_wp2_with fail
    go_ret
    exact ⟨_, rfl, ints1 (new_at w1 _), bel_trans B1 (bel_alloc _ _)⟩
  by_cases e17 : op = 17
  · subst e17
    rw [show wanH 17 ty args res = [cty 17 ty args] by simp [wanH]]
    clear FT
    generalize cty 17 ty args = T at *
    replace BB := Kp.mk BB
    go_enter Tryz.func262, Tryz.ntmps262
    go_wp2_with fail
    refine (CT.out _ h1.out hw1.out).mono ?_
    rintro e w1 ⟨rfl, hb1⟩
    have B1 := bel_trans BB.out hb1
    go_wp2_with fail
    go_ret
    exact ⟨_, rfl, ints1 (new_at w1 _), bel_trans B1 (bel_alloc _ _)⟩
  by_cases e18 : op = 18
  · subst e18
    rw [show wanH 18 ty args res = [cty 18 ty args] by simp [wanH]]
    clear FT
    generalize cty 18 ty args = T at *
    replace BB := Kp.mk BB
    go_enter Tryz.func262, Tryz.ntmps262
    go_wp2_with fail
    refine (CT.out _ h1.out hw1.out).mono ?_
    rintro e w1 ⟨rfl, hb1⟩
    have B1 := bel_trans BB.out hb1
    go_wp2_with fail
    go_ret
    exact ⟨_, rfl, ints1 (new_at w1 _), bel_trans B1 (bel_alloc _ _)⟩
  by_cases e23 : op = 23
  · subst e23
    rw [show wanH 23 ty args res = [fty args, 65] by simp [wanH]]
    clear CT
    generalize fty args = T at *
    replace BB := Kp.mk BB
    go_enter Tryz.func262, Tryz.ntmps262
    go_wp2_with fail
    refine (FT.out _ h1.out hw1.out).mono ?_
    rintro e w1 ⟨rfl, hb1⟩
    have B1 := bel_trans BB.out hb1
    go_wp2_with fail
    go_ret
    exact ⟨_, rfl, ints2 (new_at w1 _), bel_trans B1 (bel_alloc _ _)⟩
  by_cases e30 : op = 30
  · subst e30
    clear FT CT h1 hw1
    by_cases hr : res = 0
    · subst hr
      rw [show wanH 30 ty args 0 = [] by simp [wanH]]
      go_enter Tryz.func262, Tryz.ntmps262
      go_wp2_with fail
      go_ret
      exact ⟨_, rfl, ints0 _, BB⟩
    · rw [show wanH 30 ty args res = [res] by simp [wanH, hr]]
      have nr := nb hr
      have mr : (res != 0) = true := by simp [bne, nr]
      clear hr
      go_enter Tryz.func262, Tryz.ntmps262
      go_wp2_with fail
      go_ret
      obtain ⟨-, B3, -, -, x3⟩ := boxes3 (w := w) (o1 := Go.Obj.cells #[.int .i64 30, .int .i64 ty, .slice a args.length c] 228) (o2 := scC (.slice a1 n1 c1) (.slice a2 n2 c2) name link (.slice a3 n3 c3) res (.slice a4 n4 c4) (.slice a5 n5 c5) bk) (o3 := Go.Obj.cells #[.int .i64 res] 2) rfl
      exact ⟨_, rfl, ints1 x3, B3⟩
  rw [show wanH op ty args res = [] by simp [wanH, e15, e22, e24, e26, e16, e17, e18, e23, e30]]
  have n15 := nb e15
  have n22 := nb e22
  have n24 := nb e24
  have n26 := nb e26
  have n16 := nb e16
  have n17 := nb e17
  have n18 := nb e18
  have n23 := nb e23
  have n30 := nb e30
  clear FT CT h1 hw1 e15 e22 e24 e26 e16 e17 e18 e23 e30
  go_enter Tryz.func262, Tryz.ntmps262
  go_wp2_with fail
  go_ret
  exact ⟨_, rfl, ints0 _, BB⟩

set_option maxRecDepth 100000 in
set_option maxHeartbeats 4000000 in
theorem arOwn (op ty fl : Int) (a : Option Addr) (n c : Nat) (a1 a2 a3 a4 a5 : Option Addr) (n1 n2 n3 n4 n5 c1 c2 c3 c4 c5 : Nat) (name : ByteArray) (link res bk : Int) (w : World)  :
    Calls Tryz.prog 287 #[.agg #[.int .i64 op, .int .i64 ty, .slice a n c, .int .i64 fl], scV (.slice a1 n1 c1) (.slice a2 n2 c2) name link (.slice a3 n3 c3) res (.slice a4 n4 c4) (.slice a5 n5 c5) bk] w fun e w' => e = .returned (.bool (decide (bits .andNot .i64 fl (flgs op) = 0))) ∧ Below w.heap.size w w' := by
  have BB := bel_trans (bel_alloc w (Go.Obj.cells #[.int .i64 op, .int .i64 ty, .slice a n c, .int .i64 fl] 240)) (bel_alloc _ (scC (.slice a1 n1 c1) (.slice a2 n2 c2) name link (.slice a3 n3 c3) res (.slice a4 n4 c4) (.slice a5 n5 c5) bk))
  have FL : Kp (∀ w, Calls Tryz.prog 290 #[.int .i64 op] w fun e w' => e = .returned (.int .i64 (flgs op)) ∧ w' = w) := ⟨fun w => flgsI op w⟩
  generalize flgs op = F at *
  go_enter Tryz.func287, Tryz.ntmps287
  go_wp2_with fail
  go_quiet ((go_at_call 290; exact Calls.quiet_of_same (FL.out _)))
  go_wp2_with fail
  all_goals
    go_ret
    exact ⟨ret_bool (by first | rfl | (rw [Bool.eq_iff_iff]; simp; done) | simp_all), below_drewN BB _⟩

set_option maxRecDepth 100000 in
set_option maxHeartbeats 4000000 in
theorem arRes (op ty fl : Int) (a : Option Addr) (n c : Nat) (a1 a2 a3 a4 a5 : Option Addr) (n1 n2 n3 n4 n5 c1 c2 c3 c4 c5 : Nat) (name : ByteArray) (link res bk : Int) (w : World) (hw : Wid w) :
    Calls Tryz.prog 288 #[.agg #[.int .i64 op, .int .i64 ty, .slice a n c, .int .i64 fl], scV (.slice a1 n1 c1) (.slice a2 n2 c2) name link (.slice a3 n3 c3) res (.slice a4 n4 c4) (.slice a5 n5 c5) bk] w fun e w' => e = .returned (.bool (vw ty)) ∧ Below w.heap.size w w' := by
  have BB := bel_trans (bel_alloc w (Go.Obj.cells #[.int .i64 op, .int .i64 ty, .slice a n c, .int .i64 fl] 240)) (bel_alloc _ (scC (.slice a1 n1 c1) (.slice a2 n2 c2) name link (.slice a3 n3 c3) res (.slice a4 n4 c4) (.slice a5 n5 c5) bk))
  have VW := Kp.mk (validWidth_any ty _ (hw.below BB))
  generalize vw ty = R at *
  go_enter Tryz.func288, Tryz.ntmps288
  go_wp2_with fail
  refine VW.out.mono ?_
  rintro e w1 ⟨rfl, rfl⟩
  go_wp2_with fail
  go_ret
  exact ⟨rfl, BB⟩

set_option maxRecDepth 100000 in
set_option maxHeartbeats 4000000 in
theorem arWan (op ty fl : Int) (a : Option Addr) (n c : Nat) (a1 a2 a3 a4 a5 : Option Addr) (n1 n2 n3 n4 n5 c1 c2 c3 c4 c5 : Nat) (name : ByteArray) (link res bk : Int) (w : World)  :
    Calls Tryz.prog 289 #[.agg #[.int .i64 op, .int .i64 ty, .slice a n c, .int .i64 fl], scV (.slice a1 n1 c1) (.slice a2 n2 c2) name link (.slice a3 n3 c3) res (.slice a4 n4 c4) (.slice a5 n5 c5) bk] w fun e w' => ∃ v, e = .returned v ∧ Ints 0 .i64 w' v [ty, ty] ∧ Below w.heap.size w w' := by
  go_enter Tryz.func289, Tryz.ntmps289
  go_wp2_with fail
  go_ret
  obtain ⟨-, B3, -, -, x3⟩ := boxes3 (w := w) (o1 := Go.Obj.cells #[.int .i64 op, .int .i64 ty, .slice a n c, .int .i64 fl] 240) (o2 := scC (.slice a1 n1 c1) (.slice a2 n2 c2) name link (.slice a3 n3 c3) res (.slice a4 n4 c4) (.slice a5 n5 c5) bk) (o3 := Go.Obj.cells #[.int .i64 ty, .int .i64 ty] 2) rfl
  exact ⟨_, rfl, ints2 x3, B3⟩

set_option maxRecDepth 100000 in
set_option maxHeartbeats 4000000 in
theorem cmOwn (op ty pr : Int) (a : Option Addr) (n c : Nat) (a1 a2 a3 a4 a5 : Option Addr) (n1 n2 n3 n4 n5 c1 c2 c3 c4 c5 : Nat) (name : ByteArray) (link res bk : Int) (w : World)  :
    Calls Tryz.prog 267 #[.agg #[.int .i64 op, .int .i64 ty, .slice a n c, .int .i64 pr], scV (.slice a1 n1 c1) (.slice a2 n2 c2) name link (.slice a3 n3 c3) res (.slice a4 n4 c4) (.slice a5 n5 c5) bk] w fun e w' => e = .returned (.bool (decide (swpN pr ≠ 0))) ∧ Below w.heap.size w w' := by
  have BB := bel_trans (bel_alloc w (Go.Obj.cells #[.int .i64 op, .int .i64 ty, .slice a n c, .int .i64 pr] 230)) (bel_alloc _ (scC (.slice a1 n1 c1) (.slice a2 n2 c2) name link (.slice a3 n3 c3) res (.slice a4 n4 c4) (.slice a5 n5 c5) bk))
  have SW := Kp.mk (swpI pr ((w.alloc (Go.Obj.cells #[.int .i64 op, .int .i64 ty, .slice a n c, .int .i64 pr] 230)).alloc (scC (.slice a1 n1 c1) (.slice a2 n2 c2) name link (.slice a3 n3 c3) res (.slice a4 n4 c4) (.slice a5 n5 c5) bk)))
  generalize swpN pr = F at *
  go_enter Tryz.func267, Tryz.ntmps267
  go_wp2_with fail
  refine SW.out.mono ?_
  rintro e w1 ⟨rfl, rfl⟩
  go_wp2_with fail
  all_goals
    go_ret
    exact ⟨ret_bool (by first | rfl | (rw [Bool.eq_iff_iff]; simp; done) | simp_all), BB⟩

set_option maxRecDepth 100000 in
set_option maxHeartbeats 4000000 in
theorem cmRes (op ty pr : Int) (a : Option Addr) (n c : Nat) (a1 a2 a3 a4 a5 : Option Addr) (n1 n2 n3 n4 n5 c1 c2 c3 c4 c5 : Nat) (name : ByteArray) (link res bk : Int) (w : World)  :
    Calls Tryz.prog 268 #[.agg #[.int .i64 op, .int .i64 ty, .slice a n c, .int .i64 pr], scV (.slice a1 n1 c1) (.slice a2 n2 c2) name link (.slice a3 n3 c3) res (.slice a4 n4 c4) (.slice a5 n5 c5) bk] w fun e w' => e = .returned (.bool (decide (ty = 1))) ∧ Below w.heap.size w w' := by
  go_enter Tryz.func268, Tryz.ntmps268
  go_wp2_with fail
  all_goals
    go_ret
    exact ⟨ret_bool (by first | rfl | (rw [Bool.eq_iff_iff]; simp; done) | simp_all), bel_trans (bel_alloc _ _) (bel_alloc _ _)⟩

def cmF (pr : Int) (args : List OpD) : Int := if pr = 1 ∨ pr = 2 then fty args else fwd args

set_option maxRecDepth 100000 in
set_option maxHeartbeats 4000000 in
theorem cmWan (op ty pr : Int) (va : Value) (args : List OpD) (a1 a2 a3 a4 a5 : Option Addr) (n1 n2 n3 n4 n5 c1 c2 c3 c4 c5 : Nat) (name : ByteArray) (link res bk : Int) (w : World) {lo : Nat} (h : Ops lo w va args) (hw : Wid w) :
    Calls Tryz.prog 269 #[.agg #[.int .i64 op, .int .i64 ty, va, .int .i64 pr], scV (.slice a1 n1 c1) (.slice a2 n2 c2) name link (.slice a3 n3 c3) res (.slice a4 n4 c4) (.slice a5 n5 c5) bk] w fun e w' => ∃ v, e = .returned v ∧ Ints 0 .i64 w' v [cmF pr args, cmF pr args] ∧ Below w.heap.size w w' := by
  obtain ⟨b, o, ⟨⟨a, c, rfl, s1, s2⟩, s3⟩, -, hc⟩ := h.ex
  have FT : Kp (∀ w, Ops lo w (.slice a args.length c) args → Wid w → Calls Tryz.prog 265 #[hdV op ty (.slice a args.length c)] w fun e w' => e = .returned (.int .i64 (fty args)) ∧ Below w.heap.size w w') := ⟨fun w h hw => hdFty op ty _ args w h hw⟩
  have FW : Kp (∀ w, Ops lo w (.slice a args.length c) args → Wid w → Calls Tryz.prog 266 #[hdV op ty (.slice a args.length c)] w fun e w' => e = .returned (.int .i64 (fwd args)) ∧ Below w.heap.size w w') := ⟨fun w h hw => hdFw op ty _ args w h hw⟩
  have BB := bel_trans (bel_alloc w (Go.Obj.cells #[.int .i64 op, .int .i64 ty, .slice a args.length c, .int .i64 pr] 230)) (bel_alloc _ (scC (.slice a1 n1 c1) (.slice a2 n2 c2) name link (.slice a3 n3 c3) res (.slice a4 n4 c4) (.slice a5 n5 c5) bk))
  have hw1 := Kp.mk (hw.below BB)
  have h1 := Kp.mk (h.keep BB)
  have hx := Kp.mk (kept_at (new_at w (Go.Obj.cells #[.int .i64 op, .int .i64 ty, .slice a args.length c, .int .i64 pr] 230)) (bel_alloc _ (scC (.slice a1 n1 c1) (.slice a2 n2 c2) name link (.slice a3 n3 c3) res (.slice a4 n4 c4) (.slice a5 n5 c5) bk)))
  replace BB := Kp.mk BB
  clear h hw hc s2
  by_cases e1 : pr = 1
  · subst e1
    rw [show cmF 1 args = fty args by simp [cmF]]
    generalize fty args = T at *
    generalize fwd args = T2 at *
    go_enter Tryz.func269, Tryz.ntmps269
    go_wp2_with fail
    refine (FW.out _ h1.out hw1.out).mono ?_
    rintro e w1 ⟨rfl, hb1⟩
    have B1 := bel_trans BB.out hb1
    have y3 : At w1 w.heap.size 3 _ := cells_at (kept_at hx.out hb1) rfl
    have y0 : At w1 w.heap.size 0 _ := cells_at (kept_at hx.out hb1) rfl
    have y1 : At w1 w.heap.size 1 _ := cells_at (kept_at hx.out hb1) rfl
    have y2 : At w1 w.heap.size 2 _ := cells_at (kept_at hx.out hb1) rfl
    go_wp2_with fail
    refine (FT.out _ (h1.out.keep hb1) (hw1.out.below hb1)).mono ?_
    rintro e w2 ⟨rfl, hb2⟩
    have B2 := bel_trans B1 hb2
    go_wp2_with fail
    go_ret
    exact ⟨_, rfl, ints2 (new_at w2 _), bel_trans B2 (bel_alloc _ _)⟩
  by_cases e2 : pr = 2
  · subst e2
    rw [show cmF 2 args = fty args by simp [cmF]]
    generalize fty args = T at *
    generalize fwd args = T2 at *
    go_enter Tryz.func269, Tryz.ntmps269
    go_wp2_with fail
    refine (FW.out _ h1.out hw1.out).mono ?_
    rintro e w1 ⟨rfl, hb1⟩
    have B1 := bel_trans BB.out hb1
    have y3 : At w1 w.heap.size 3 _ := cells_at (kept_at hx.out hb1) rfl
    have y0 : At w1 w.heap.size 0 _ := cells_at (kept_at hx.out hb1) rfl
    have y1 : At w1 w.heap.size 1 _ := cells_at (kept_at hx.out hb1) rfl
    have y2 : At w1 w.heap.size 2 _ := cells_at (kept_at hx.out hb1) rfl
    go_wp2_with fail
    refine (FT.out _ (h1.out.keep hb1) (hw1.out.below hb1)).mono ?_
    rintro e w2 ⟨rfl, hb2⟩
    have B2 := bel_trans B1 hb2
    go_wp2_with fail
    go_ret
    exact ⟨_, rfl, ints2 (new_at w2 _), bel_trans B2 (bel_alloc _ _)⟩
  rw [show cmF pr args = fwd args by simp [cmF, e1, e2]]
  have n1 := nb e1
  have n2 := nb e2
  clear e1 e2
  generalize fty args = T at *
  generalize fwd args = T2 at *
  go_enter Tryz.func269, Tryz.ntmps269
  go_wp2_with fail
  refine (FW.out _ h1.out hw1.out).mono ?_
  rintro e w1 ⟨rfl, hb1⟩
  have B1 := bel_trans BB.out hb1
  have y3 : At w1 w.heap.size 3 _ := cells_at (kept_at hx.out hb1) rfl
  have y0 : At w1 w.heap.size 0 _ := cells_at (kept_at hx.out hb1) rfl
  have y1 : At w1 w.heap.size 1 _ := cells_at (kept_at hx.out hb1) rfl
  have y2 : At w1 w.heap.size 2 _ := cells_at (kept_at hx.out hb1) rfl
  go_wp2_with fail
  go_ret
  exact ⟨_, rfl, ints2 (new_at w1 _), bel_trans B1 (bel_alloc _ _)⟩

set_option maxRecDepth 100000 in
set_option maxHeartbeats 4000000 in
theorem alOwn (op ty sz : Int) (a : Option Addr) (n c : Nat) (a1 a2 a3 a4 a5 : Option Addr) (n1 n2 n3 n4 n5 c1 c2 c3 c4 c5 : Nat) (name : ByteArray) (link res bk : Int) (w : World)  :
    Calls Tryz.prog 271 #[.agg #[.int .i64 op, .int .i64 ty, .slice a n c, .int .i64 sz], scV (.slice a1 n1 c1) (.slice a2 n2 c2) name link (.slice a3 n3 c3) res (.slice a4 n4 c4) (.slice a5 n5 c5) bk] w fun e w' => e = .returned (.bool (decide (bk = 0) && (decide (1 ≤ sz) && decide (sz ≤ 256)))) ∧ Below w.heap.size w w' := by
  go_enter Tryz.func271, Tryz.ntmps271
  go_wp2_with fail
  all_goals
    go_ret
    exact ⟨ret_bool (by first | rfl | (rw [Bool.eq_iff_iff]; simp; omega) | simp_all), bel_trans (bel_alloc _ _) (bel_alloc _ _)⟩
end
end Go.Proofs.YtbnkbbcncloedaaGreatDoor
