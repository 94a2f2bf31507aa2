/- Texts of one claim. -/
import Derived.Test.YtgdcgjlmkmdklaaGreatDoorPk0
import Derived.Test.YtgdcgjlmkmdklaaGreatDoorPk21
import Derived.Test.YtgdcgjlmkmdklaaGreatDoorPk22
import Derived.Test.YtgdcgjlmkmdklaaGreatDoorPk11
import Derived.Deep.RegionWith
namespace Go.Proofs.YtgdcgjlmkmdklaaGreatDoor
open Go.ChangeShapes Go.WideShapes Go.ChangeAt Go.RowKit
set_option linter.unusedVariables false
set_option linter.unusedSimpArgs false
abbrev hdV (op ty : Int) (va : Value) : Value := .agg #[.int .i64 op, .int .i64 ty, va]
theorem ints0 (W : World) : Ints 0 .i64 W (.slice none 0 0) [] :=
 ⟨0, 0, ⟨⟨none, 0, rfl, Nat.le_refl _, fun h => absurd h (by simp)⟩, by simp⟩, Nat.le_refl _, fun i hi => absurd hi (by simp)⟩
theorem ints1 {W : World} {B : Nat} {a : Int} {t : TypeId} (h : W.heap[B]? = some (Go.Obj.cells #[.int .i64 a] t (0, 0))) : Ints 0 .i64 W (.slice (some ⟨B, 0, none⟩) 1 1) [a] :=
 ⟨B, 0, ⟨⟨_, 1, rfl, Nat.le_refl _, fun _ => rfl⟩, by simp⟩, Nat.zero_le _, fun i hi => by
  obtain rfl : i = 0 := by simpa using hi
  exact cells_at h rfl⟩
theorem ints2 {W : World} {B : Nat} {a b : Int} {t : TypeId} (h : W.heap[B]? = some (Go.Obj.cells #[.int .i64 a, .int .i64 b] t (0, 0))) : Ints 0 .i64 W (.slice (some ⟨B, 0, none⟩) 2 2) [a, b] :=
 ⟨B, 0, ⟨⟨_, 2, rfl, Nat.le_refl _, fun _ => rfl⟩, by simp⟩, Nat.zero_le _, fun i hi => by
  have : i = 0 ∨ i = 1 := by simp at hi; omega
  rcases this with rfl | rfl <;> exact cells_at h rfl⟩
theorem ints3 {W : World} {B : Nat} {a b c : Int} {t : TypeId} (h : W.heap[B]? = some (Go.Obj.cells #[.int .i64 a, .int .i64 b, .int .i64 c] t (0, 0))) : Ints 0 .i64 W (.slice (some ⟨B, 0, none⟩) 3 3) [a, b, c] :=
 ⟨B, 0, ⟨⟨_, 3, rfl, Nat.le_refl _, fun _ => rfl⟩, by simp⟩, Nat.zero_le _, fun i hi => by
  have : i = 0 ∨ i = 1 ∨ i = 2 := by simp at hi; omega
  rcases this with rfl | rfl | rfl <;> exact cells_at h rfl⟩
set_option maxHeartbeats 2000000 in
theorem hdArgs (op ty : Int) (a : Option Addr) (n c : Nat) (w : World) :
  Calls Tryz.prog 203 #[hdV op ty (.slice a n c)] w fun e w' => e = .returned (.slice a n c) ∧ Below w.heap.size w w' := by
 go_enter Tryz.func203, Tryz.ntmps203
 go_wp2_with fail
 go_ret
 exact ⟨rfl, bel_alloc _ _⟩
set_option maxHeartbeats 2000000 in
theorem hdTgt (op ty : Int) (a : Option Addr) (n c : Nat) (w : World) :
  Calls Tryz.prog 208 #[hdV op ty (.slice a n c)] w fun e w' => e = .returned (.slice none 0 0) ∧ Below w.heap.size w w' := by
 go_enter Tryz.func208, Tryz.ntmps208
 go_wp2_with fail
 go_ret
 exact ⟨rfl, bel_alloc _ _⟩
set_option maxHeartbeats 2000000 in
theorem hdCases (op ty : Int) (a : Option Addr) (n c : Nat) (w : World) :
  Calls Tryz.prog 204 #[hdV op ty (.slice a n c)] w fun e w' => e = .returned (.bool true) ∧ Below w.heap.size w w' := by
 go_enter Tryz.func204, Tryz.ntmps204
 go_wp2_with fail
 go_ret
 exact ⟨rfl, bel_alloc _ _⟩
set_option maxHeartbeats 2000000 in
theorem hdOwn (op ty : Int) (a : Option Addr) (n c : Nat) (a1 a2 a3 a4 a5 : Option Addr) (n1 n2 n3 n4 n5 c1 c2 c3 c4 c5 : Nat) (name : ByteArray) (link res bk : Int) (w : World) :
  Calls Tryz.prog 206 #[hdV op ty (.slice a n c), scV (.slice a1 n1 c1) (.slice a2 n2 c2) name link (.slice a3 n3 c3) res (.slice a4 n4 c4) (.slice a5 n5 c5) bk] w fun e w' => e = .returned (.bool true) ∧ Below w.heap.size w w' := by
 go_enter Tryz.func206, Tryz.ntmps206
 exact tl11
def fty (args : List OpD) : Int := if vtB (args.getD 0 default).t = true then (args.getD 0 default).t else 0
def fwd (args : List OpD) : Int := if vw (fty args) = true then fty args else 0
def cty (op ty : Int) (args : List OpD) : Int := if (op = 18 ∧ ty < fwd args) ∨ (¬ op = 18 ∧ fwd args < ty) then fwd args else 0
set_option maxHeartbeats 4000000 in
theorem hdFty (op ty : Int) (va : Value) (args : List OpD) (w : World) {lo : Nat} (h : Ops lo w va args) (hw : Wid w) :
  Calls Tryz.prog 212 #[hdV op ty va] w fun e w' => e = .returned (.int .i64 (fty args)) ∧ Below w.heap.size w w' := by
 obtain ⟨b, o, ⟨⟨a, c, rfl, s1, s2⟩, s3⟩, -, hc⟩ := h.ex
 have g : (args.length : Int) ≤ 140737488355328 := by omega
 by_cases h0 : args.length = 0
 ·have G : Kp (fty args = 0) := ⟨by cases args with
   | nil => rfl
   | cons x r => simp at h0⟩
  rw [G.out]
  have e0 : ((args.length : Int) == 0) = true := by simp [h0]
  replace h0 := Kp.mk h0
  clear hc h s2 G hw
  generalize args.length = L at *
  go_enter Tryz.func212, Tryz.ntmps212
  go_wp2_with fail
  go_ret
  exact ⟨rfl, bel_alloc _ _⟩
 ·have hp : 0 < args.length := by omega
  obtain rfl := s2 hp
  have hcl := at_keep (hc 0 hp).c1 (bel_alloc w (Go.Obj.cells #[.int .i64 op, .int .i64 ty, .slice (some ⟨b, o, none⟩) args.length c] 179))
  have G : Kp (fty args = if vtB (args[0]).t = true then (args[0]).t else 0) := ⟨by simp [fty, List.getD_eq_getElem?_getD, hp]⟩
  rw [G.out]
  simp only [Nat.zero_mul, Nat.add_zero] at hcl
  have hp' : (0 : Int) < args.length := by omega
  have e0 : ((args.length : Int) == 0) = false := nb (by omega)
  clear hc s2 G
  generalize (args[0]).t = T at *
  obtain ⟨W1, hW1⟩ : ∃ W1, W1 = w.alloc (Go.Obj.cells #[.int .i64 op, .int .i64 ty, .slice (some ⟨b, o, none⟩) args.length c] 179) := ⟨_, rfl⟩
  have hx := new_at w (Go.Obj.cells #[.int .i64 op, .int .i64 ty, .slice (some ⟨b, o, none⟩) args.length c] 179)
  have B1 := bel_alloc w (Go.Obj.cells #[.int .i64 op, .int .i64 ty, .slice (some ⟨b, o, none⟩) args.length c] 179)
  rw [← hW1] at hcl hx B1
  have VT := Kp.mk (vtI T W1 (hw.below B1))
  have x2 : At W1 w.heap.size 2 _ := cells_at hx rfl
  clear hx
  replace hW1 := Kp.mk hW1
  generalize vtB T = R at *
  cases R
  all_goals
   go_enter Tryz.func212, Tryz.ntmps212
   go_upto_region 1 with fail
   rw [← hW1.out]
   go_wp2_with fail
   refine VT.out.mono ?_
   rintro e w1 ⟨rfl, rfl⟩
   go_wp2_with fail
   go_ret
   exact ⟨rfl, B1⟩
set_option maxHeartbeats 2000000 in
theorem hdFw (op ty : Int) (va : Value) (args : List OpD) (w : World) {lo : Nat} (h : Ops lo w va args) (hw : Wid w) :
  Calls Tryz.prog 213 #[hdV op ty va] w fun e w' => e = .returned (.int .i64 (fwd args)) ∧ Below w.heap.size w w' := by
 obtain ⟨b, o, ⟨⟨a, c, rfl, s1, s2⟩, s3⟩, -, hc⟩ := h.ex
 have FT : Kp (∀ w, Ops lo w (.slice a args.length c) args → Wid w → Calls Tryz.prog 212 #[hdV op ty (.slice a args.length c)] w fun e w' => e = .returned (.int .i64 (fty args)) ∧ Below w.heap.size w w') := ⟨fun w h hw => hdFty op ty _ args w h hw⟩
 have VW : Kp (∀ w, Wid w → Calls Tryz.prog 137 #[.int .i64 (fty args)] w fun e w' => e = .returned (.bool (vw (fty args))) ∧ w' = w) := ⟨fun w hw => validWidth_any _ w hw⟩
 have G : Kp (fwd args = if vw (fty args) = true then fty args else 0) := ⟨rfl⟩
 rw [G.out]
 replace h := Kp.mk h
 replace hw := Kp.mk hw
 clear G hc s2
 generalize vw (fty args) = R at *
 generalize fty args = T at *
 generalize args.length = L at *
 cases R
 all_goals
  go_enter Tryz.func213, Tryz.ntmps213
  go_wp2_with fail
  refine (FT.out _ (h.out.keep (bel_alloc _ _)) (hw.out.below (bel_alloc _ _))).mono ?_
  rintro e w1 ⟨rfl, hb1⟩
  have B1 := bel_trans (bel_alloc _ _) hb1
  have hw1 := hw.out.below B1
  go_wp2_with fail
  refine (VW.out _ hw1).mono ?_
  rintro e w2 ⟨rfl, rfl⟩
  go_wp2_with fail
  go_ret
  exact ⟨rfl, B1⟩
set_option maxHeartbeats 4000000 in
theorem hdCty (op ty : Int) (va : Value) (args : List OpD) (w : World) {lo : Nat} (h : Ops lo w va args) (hw : Wid w) :
  Calls Tryz.prog 211 #[hdV op ty va] w fun e w' => e = .returned (.int .i64 (cty op ty args)) ∧ Below w.heap.size w w' := by
 obtain ⟨b, o, ⟨⟨a, c, rfl, s1, s2⟩, s3⟩, -, hc⟩ := h.ex
 have FW : Kp (∀ w, Ops lo w (.slice a args.length c) args → Wid w → Calls Tryz.prog 213 #[hdV op ty (.slice a args.length c)] w fun e w' => e = .returned (.int .i64 (fwd args)) ∧ Below w.heap.size w w') := ⟨fun w h hw => hdFw op ty _ args w h hw⟩
 have G : Kp (cty op ty args = if (op = 18 ∧ ty < fwd args) ∨ (¬ op = 18 ∧ fwd args < ty) then fwd args else 0) := ⟨rfl⟩
 rw [G.out]
 replace h := Kp.mk h
 replace hw := Kp.mk hw
 clear G hc s2
 generalize fwd args = T at *
 generalize args.length = L at *
 obtain ⟨O, hO⟩ : ∃ O, O = Go.Obj.cells #[.int .i64 op, .int .i64 ty, .slice a L c] 179 := ⟨_, rfl⟩
 have hx : (w.alloc O).heap[w.heap.size]? = some (Go.Obj.cells #[.int .i64 op, .int .i64 ty, .slice a L c] 179) := by rw [← hO]; exact new_at w O
 have hB0 := bel_alloc w O
 rw [hO] at hx hB0
 replace hx := Kp.mk hx
 clear hO
 by_cases q : (op = 18 ∧ ty < T) ∨ (¬ op = 18 ∧ T < ty)
 ·rw [if_pos q]
  rcases q with ⟨rfl, q2⟩ | ⟨q1, q2⟩
  ·exact tl21
  ·have n18 := nb q1
   have m18 : (op != 18) = true := by simp [bne, n18]
   clear q1
   exact tl21
 ·rw [if_neg q]
  by_cases q1 : op = 18
  ·subst q1
   have q2 : ¬ ty < T := by omega
   clear q
   exact tl21
  ·have n18 := nb q1
   have m18 : (op != 18) = true := by simp [bne, n18]
   have q2 : ¬ T < ty := by omega
   clear q q1
   exact tl21
end Go.Proofs.YtgdcgjlmkmdklaaGreatDoor

namespace Go.Proofs.YtgdcgjlmkmdklaaGreatDoor
open Go.ChangeShapes Go.WideShapes Go.ChangeAt Go.RowKit
set_option linter.unusedVariables false
set_option linter.unusedSimpArgs false
def resB (op ty : Int) : Bool :=
 if op = 15 ∨ op = 20 ∨ op = 22 then vtB ty else if op = 16 ∨ op = 17 ∨ op = 18 then vw ty else if op = 21 ∨ op = 24 then decide (ty = 65) else decide (ty = 0)
def wanH (op ty : Int) (args : List OpD) (res : Int) : List Int :=
 if op = 15 then [1, ty, ty] else if op = 16 ∨ op = 17 ∨ op = 18 then [cty op ty args] else if op = 22 then [65] else if op = 23 then [fty args, 65]
 else if op = 24 then [65, 64] else if op = 26 then [64] else if op = 30 then (if res = 0 then [] else [res]) else []
set_option maxHeartbeats 4000000 in
theorem hdRes (op ty : Int) (a : Option Addr) (n c : Nat) (a1 a2 a3 a4 a5 : Option Addr) (n1 n2 n3 n4 n5 c1 c2 c3 c4 c5 : Nat) (name : ByteArray) (link res bk : Int) (w : World) (hw : Wid w) :
  Calls Tryz.prog 207 #[hdV op ty (.slice a n c), scV (.slice a1 n1 c1) (.slice a2 n2 c2) name link (.slice a3 n3 c3) res (.slice a4 n4 c4) (.slice a5 n5 c5) bk] w fun e w' => e = .returned (.bool (resB op ty)) ∧ Below w.heap.size w w' := by
 have BB := bel_trans (bel_alloc w (Go.Obj.cells #[.int .i64 op, .int .i64 ty, .slice a n c] 179)) (bel_alloc _ (scC (.slice a1 n1 c1) (.slice a2 n2 c2) name link (.slice a3 n3 c3) res (.slice a4 n4 c4) (.slice a5 n5 c5) bk))
 have hw1 := hw.below BB
 have VT := Kp.mk (vtI ty _ hw1)
 have VW := Kp.mk (validWidth_any ty _ hw1)
 clear hw1 hw
 by_cases e15 : op = 15
 ·subst e15
  rw [show resB 15 ty = vtB ty by simp [resB]]
  exact tl146
 by_cases e20 : op = 20
 ·subst e20
  rw [show resB 20 ty = vtB ty by simp [resB]]
  exact tl146
 by_cases e22 : op = 22
 ·subst e22
  rw [show resB 22 ty = vtB ty by simp [resB]]
  exact tl146
 by_cases e16 : op = 16
 ·subst e16
  rw [show resB 16 ty = vw ty by simp [resB]]
  exact tl147
 by_cases e17 : op = 17
 ·subst e17
  rw [show resB 17 ty = vw ty by simp [resB]]
  exact tl147
 by_cases e18 : op = 18
 ·subst e18
  rw [show resB 18 ty = vw ty by simp [resB]]
  exact tl147
 by_cases e21 : op = 21
 ·subst e21
  rw [show resB 21 ty = decide (ty = 65) by simp [resB]]
  clear VT VW
  go_enter Tryz.func207, Tryz.ntmps207
  exact tl22
 by_cases e24 : op = 24
 ·subst e24
  rw [show resB 24 ty = decide (ty = 65) by simp [resB]]
  clear VT VW
  go_enter Tryz.func207, Tryz.ntmps207
  exact tl22
 rw [show resB op ty = decide (ty = 0) by simp [resB, e15, e20, e22, e16, e17, e18, e21, e24]]
 have n15 := nb e15
 have n20 := nb e20
 have n22 := nb e22
 have n16 := nb e16
 have n17 := nb e17
 have n18 := nb e18
 have n21 := nb e21
 have n24 := nb e24
 clear VT VW e15 e20 e22 e16 e17 e18 e21 e24
 go_enter Tryz.func207, Tryz.ntmps207
 exact tl22
set_option maxRecDepth 100000 in
set_option maxHeartbeats 4000000 in
theorem hdWan (op ty : Int) (va : Value) (args : List OpD) (a1 a2 a3 a4 a5 : Option Addr) (n1 n2 n3 n4 n5 c1 c2 c3 c4 c5 : Nat) (name : ByteArray) (link res bk : Int) (w : World) {lo : Nat} (h : Ops lo w va args) (hw : Wid w) :
  Calls Tryz.prog 209 #[hdV op ty va, scV (.slice a1 n1 c1) (.slice a2 n2 c2) name link (.slice a3 n3 c3) res (.slice a4 n4 c4) (.slice a5 n5 c5) bk] w fun e w' => ∃ v, e = .returned v ∧ Ints 0 .i64 w' v (wanH op ty args res) ∧ Below w.heap.size w w' := by
 obtain ⟨b, o, ⟨⟨a, c, rfl, s1, s2⟩, s3⟩, -, hc⟩ := h.ex
 have FT : Kp (∀ w, Ops lo w (.slice a args.length c) args → Wid w → Calls Tryz.prog 212 #[hdV op ty (.slice a args.length c)] w fun e w' => e = .returned (.int .i64 (fty args)) ∧ Below w.heap.size w w') := ⟨fun w h hw => hdFty op ty _ args w h hw⟩
 have CT : Kp (∀ w, Ops lo w (.slice a args.length c) args → Wid w → Calls Tryz.prog 211 #[hdV op ty (.slice a args.length c)] w fun e w' => e = .returned (.int .i64 (cty op ty args)) ∧ Below w.heap.size w w') := ⟨fun w h hw => hdCty op ty _ args w h hw⟩
 have BB := bel_trans (bel_alloc w (Go.Obj.cells #[.int .i64 op, .int .i64 ty, .slice a args.length c] 179)) (bel_alloc _ (scC (.slice a1 n1 c1) (.slice a2 n2 c2) name link (.slice a3 n3 c3) res (.slice a4 n4 c4) (.slice a5 n5 c5) bk))
 have hw1 := Kp.mk (hw.below BB)
 have h1 := Kp.mk (h.keep BB)
 clear h hw hc s2
 by_cases e15 : op = 15
 ·subst e15
  rw [show wanH 15 ty args res = [1, ty, ty] by simp [wanH]]
  clear FT CT h1
  go_enter Tryz.func209, Tryz.ntmps209
  go_wp2_with fail
  go_ret
  obtain ⟨-, B3, -, -, x3⟩ := boxes3 (w := w) (o1 := Go.Obj.cells #[.int .i64 15, .int .i64 ty, .slice a args.length c] 179) (o2 := scC (.slice a1 n1 c1) (.slice a2 n2 c2) name link (.slice a3 n3 c3) res (.slice a4 n4 c4) (.slice a5 n5 c5) bk) (o3 := Go.Obj.cells #[.int .i64 1, .int .i64 ty, .int .i64 ty] 2) rfl
  exact ⟨_, rfl, ints3 x3, B3⟩
 by_cases e22 : op = 22
 ·subst e22
  rw [show wanH 22 ty args res = [65] by simp [wanH]]
  clear FT CT h1
  go_enter Tryz.func209, Tryz.ntmps209
  go_wp2_with fail
  go_ret
  obtain ⟨-, B3, -, -, x3⟩ := boxes3 (w := w) (o1 := Go.Obj.cells #[.int .i64 22, .int .i64 ty, .slice a args.length c] 179) (o2 := scC (.slice a1 n1 c1) (.slice a2 n2 c2) name link (.slice a3 n3 c3) res (.slice a4 n4 c4) (.slice a5 n5 c5) bk) (o3 := Go.Obj.cells #[.int .i64 65] 2) rfl
  exact ⟨_, rfl, ints1 x3, B3⟩
 by_cases e24 : op = 24
 ·subst e24
  rw [show wanH 24 ty args res = [65, 64] by simp [wanH]]
  clear FT CT h1
  go_enter Tryz.func209, Tryz.ntmps209
  go_wp2_with fail
  go_ret
  obtain ⟨-, B3, -, -, x3⟩ := boxes3 (w := w) (o1 := Go.Obj.cells #[.int .i64 24, .int .i64 ty, .slice a args.length c] 179) (o2 := scC (.slice a1 n1 c1) (.slice a2 n2 c2) name link (.slice a3 n3 c3) res (.slice a4 n4 c4) (.slice a5 n5 c5) bk) (o3 := Go.Obj.cells #[.int .i64 65, .int .i64 64] 2) rfl
  exact ⟨_, rfl, ints2 x3, B3⟩
 by_cases e26 : op = 26
 ·subst e26
  rw [show wanH 26 ty args res = [64] by simp [wanH]]
  clear FT CT h1
  go_enter Tryz.func209, Tryz.ntmps209
  go_wp2_with fail
  go_ret
  obtain ⟨-, B3, -, -, x3⟩ := boxes3 (w := w) (o1 := Go.Obj.cells #[.int .i64 26, .int .i64 ty, .slice a args.length c] 179) (o2 := scC (.slice a1 n1 c1) (.slice a2 n2 c2) name link (.slice a3 n3 c3) res (.slice a4 n4 c4) (.slice a5 n5 c5) bk) (o3 := Go.Obj.cells #[.int .i64 64] 2) rfl
  exact ⟨_, rfl, ints1 x3, B3⟩
 by_cases e16 : op = 16
 ·subst e16
  rw [show wanH 16 ty args res = [cty 16 ty args] by simp [wanH]]
  clear FT
  generalize cty 16 ty args = T at *
  exact tl49
 by_cases e17 : op = 17
 ·subst e17
  rw [show wanH 17 ty args res = [cty 17 ty args] by simp [wanH]]
  clear FT
  generalize cty 17 ty args = T at *
  exact tl49
 by_cases e18 : op = 18
 ·subst e18
  rw [show wanH 18 ty args res = [cty 18 ty args] by simp [wanH]]
  clear FT
  generalize cty 18 ty args = T at *
  exact tl49
 by_cases e23 : op = 23
 ·subst e23
  rw [show wanH 23 ty args res = [fty args, 65] by simp [wanH]]
  clear CT
  generalize fty args = T at *
  replace BB := Kp.mk BB
  go_enter Tryz.func209, Tryz.ntmps209
  go_wp2_with fail
  refine (FT.out _ h1.out hw1.out).mono ?_
  rintro e w1 ⟨rfl, hb1⟩
  have B1 := bel_trans BB.out hb1
  go_wp2_with fail
  go_ret
  exact ⟨_, rfl, ints2 (new_at w1 _), bel_trans B1 (bel_alloc _ _)⟩
 by_cases e30 : op = 30
 ·subst e30
  clear FT CT h1 hw1
  by_cases hr : res = 0
  ·subst hr
   rw [show wanH 30 ty args 0 = [] by simp [wanH]]
   go_enter Tryz.func209, Tryz.ntmps209
   go_wp2_with fail
   go_ret
   exact ⟨_, rfl, ints0 _, BB⟩
  ·rw [show wanH 30 ty args res = [res] by simp [wanH, hr]]
   have nr := nb hr
   have mr : (res != 0) = true := by simp [bne, nr]
   clear hr
   go_enter Tryz.func209, Tryz.ntmps209
   go_wp2_with fail
   go_ret
   obtain ⟨-, B3, -, -, x3⟩ := boxes3 (w := w) (o1 := Go.Obj.cells #[.int .i64 30, .int .i64 ty, .slice a args.length c] 179) (o2 := scC (.slice a1 n1 c1) (.slice a2 n2 c2) name link (.slice a3 n3 c3) res (.slice a4 n4 c4) (.slice a5 n5 c5) bk) (o3 := Go.Obj.cells #[.int .i64 res] 2) rfl
   exact ⟨_, rfl, ints1 x3, B3⟩
 rw [show wanH op ty args res = [] by simp [wanH, e15, e22, e24, e26, e16, e17, e18, e23, e30]]
 have n15 := nb e15
 have n22 := nb e22
 have n24 := nb e24
 have n26 := nb e26
 have n16 := nb e16
 have n17 := nb e17
 have n18 := nb e18
 have n23 := nb e23
 have n30 := nb e30
 clear FT CT h1 hw1 e15 e22 e24 e26 e16 e17 e18 e23 e30
 go_enter Tryz.func209, Tryz.ntmps209
 go_wp2_with fail
 go_ret
 exact ⟨_, rfl, ints0 _, BB⟩
set_option maxRecDepth 100000 in
set_option maxHeartbeats 4000000 in
theorem arOwn (op ty fl : Int) (a : Option Addr) (n c : Nat) (a1 a2 a3 a4 a5 : Option Addr) (n1 n2 n3 n4 n5 c1 c2 c3 c4 c5 : Nat) (name : ByteArray) (link res bk : Int) (w : World)  :
  Calls Tryz.prog 234 #[.agg #[.int .i64 op, .int .i64 ty, .slice a n c, .int .i64 fl], scV (.slice a1 n1 c1) (.slice a2 n2 c2) name link (.slice a3 n3 c3) res (.slice a4 n4 c4) (.slice a5 n5 c5) bk] w fun e w' => e = .returned (.bool (decide (bits .andNot .i64 fl (flgs op) = 0))) ∧ Below w.heap.size w w' := by
 have BB := bel_trans (bel_alloc w (Go.Obj.cells #[.int .i64 op, .int .i64 ty, .slice a n c, .int .i64 fl] 191)) (bel_alloc _ (scC (.slice a1 n1 c1) (.slice a2 n2 c2) name link (.slice a3 n3 c3) res (.slice a4 n4 c4) (.slice a5 n5 c5) bk))
 have FL : Kp (∀ w, Calls Tryz.prog 237 #[.int .i64 op] w fun e w' => e = .returned (.int .i64 (flgs op)) ∧ w' = w) := ⟨fun w => flgsI op w⟩
 generalize flgs op = F at *
 go_enter Tryz.func234, Tryz.ntmps234
 go_wp2_with fail
 go_quiet ((go_at_call 237; exact Calls.quiet_of_same (FL.out _)))
 go_wp2_with fail
 all_goals
  go_ret
  exact ⟨ret_bool (by first | rfl | (rw [Bool.eq_iff_iff]; simp; done) | simp_all), below_drewN BB _⟩
set_option maxRecDepth 100000 in
set_option maxHeartbeats 4000000 in
theorem arRes (op ty fl : Int) (a : Option Addr) (n c : Nat) (a1 a2 a3 a4 a5 : Option Addr) (n1 n2 n3 n4 n5 c1 c2 c3 c4 c5 : Nat) (name : ByteArray) (link res bk : Int) (w : World) (hw : Wid w) :
  Calls Tryz.prog 235 #[.agg #[.int .i64 op, .int .i64 ty, .slice a n c, .int .i64 fl], scV (.slice a1 n1 c1) (.slice a2 n2 c2) name link (.slice a3 n3 c3) res (.slice a4 n4 c4) (.slice a5 n5 c5) bk] w fun e w' => e = .returned (.bool (vw ty)) ∧ Below w.heap.size w w' := by
 have BB := bel_trans (bel_alloc w (Go.Obj.cells #[.int .i64 op, .int .i64 ty, .slice a n c, .int .i64 fl] 191)) (bel_alloc _ (scC (.slice a1 n1 c1) (.slice a2 n2 c2) name link (.slice a3 n3 c3) res (.slice a4 n4 c4) (.slice a5 n5 c5) bk))
 have VW := Kp.mk (validWidth_any ty _ (hw.below BB))
 generalize vw ty = R at *
 go_enter Tryz.func235, Tryz.ntmps235
 go_wp2_with fail
 refine VW.out.mono ?_
 rintro e w1 ⟨rfl, rfl⟩
 go_wp2_with fail
 go_ret
 exact ⟨rfl, BB⟩
set_option maxRecDepth 100000 in
set_option maxHeartbeats 4000000 in
theorem arWan (op ty fl : Int) (a : Option Addr) (n c : Nat) (a1 a2 a3 a4 a5 : Option Addr) (n1 n2 n3 n4 n5 c1 c2 c3 c4 c5 : Nat) (name : ByteArray) (link res bk : Int) (w : World)  :
  Calls Tryz.prog 236 #[.agg #[.int .i64 op, .int .i64 ty, .slice a n c, .int .i64 fl], scV (.slice a1 n1 c1) (.slice a2 n2 c2) name link (.slice a3 n3 c3) res (.slice a4 n4 c4) (.slice a5 n5 c5) bk] w fun e w' => ∃ v, e = .returned v ∧ Ints 0 .i64 w' v [ty, ty] ∧ Below w.heap.size w w' := by
 go_enter Tryz.func236, Tryz.ntmps236
 go_wp2_with fail
 go_ret
 obtain ⟨-, B3, -, -, x3⟩ := boxes3 (w := w) (o1 := Go.Obj.cells #[.int .i64 op, .int .i64 ty, .slice a n c, .int .i64 fl] 191) (o2 := scC (.slice a1 n1 c1) (.slice a2 n2 c2) name link (.slice a3 n3 c3) res (.slice a4 n4 c4) (.slice a5 n5 c5) bk) (o3 := Go.Obj.cells #[.int .i64 ty, .int .i64 ty] 2) rfl
 exact ⟨_, rfl, ints2 x3, B3⟩
set_option maxRecDepth 100000 in
set_option maxHeartbeats 4000000 in
theorem cmOwn (op ty pr : Int) (a : Option Addr) (n c : Nat) (a1 a2 a3 a4 a5 : Option Addr) (n1 n2 n3 n4 n5 c1 c2 c3 c4 c5 : Nat) (name : ByteArray) (link res bk : Int) (w : World)  :
  Calls Tryz.prog 214 #[.agg #[.int .i64 op, .int .i64 ty, .slice a n c, .int .i64 pr], scV (.slice a1 n1 c1) (.slice a2 n2 c2) name link (.slice a3 n3 c3) res (.slice a4 n4 c4) (.slice a5 n5 c5) bk] w fun e w' => e = .returned (.bool (decide (swpN pr ≠ 0))) ∧ Below w.heap.size w w' := by
 have BB := bel_trans (bel_alloc w (Go.Obj.cells #[.int .i64 op, .int .i64 ty, .slice a n c, .int .i64 pr] 181)) (bel_alloc _ (scC (.slice a1 n1 c1) (.slice a2 n2 c2) name link (.slice a3 n3 c3) res (.slice a4 n4 c4) (.slice a5 n5 c5) bk))
 have SW := Kp.mk (swpI pr ((w.alloc (Go.Obj.cells #[.int .i64 op, .int .i64 ty, .slice a n c, .int .i64 pr] 181)).alloc (scC (.slice a1 n1 c1) (.slice a2 n2 c2) name link (.slice a3 n3 c3) res (.slice a4 n4 c4) (.slice a5 n5 c5) bk)))
 generalize swpN pr = F at *
 go_enter Tryz.func214, Tryz.ntmps214
 go_wp2_with fail
 refine SW.out.mono ?_
 rintro e w1 ⟨rfl, rfl⟩
 exact tl22
set_option maxRecDepth 100000 in
set_option maxHeartbeats 4000000 in
theorem cmRes (op ty pr : Int) (a : Option Addr) (n c : Nat) (a1 a2 a3 a4 a5 : Option Addr) (n1 n2 n3 n4 n5 c1 c2 c3 c4 c5 : Nat) (name : ByteArray) (link res bk : Int) (w : World)  :
  Calls Tryz.prog 215 #[.agg #[.int .i64 op, .int .i64 ty, .slice a n c, .int .i64 pr], scV (.slice a1 n1 c1) (.slice a2 n2 c2) name link (.slice a3 n3 c3) res (.slice a4 n4 c4) (.slice a5 n5 c5) bk] w fun e w' => e = .returned (.bool (decide (ty = 1))) ∧ Below w.heap.size w w' := by
 go_enter Tryz.func215, Tryz.ntmps215
 go_wp2_with fail
 all_goals
  go_ret
  exact ⟨ret_bool (by first | rfl | (rw [Bool.eq_iff_iff]; simp; done) | simp_all), bel_trans (bel_alloc _ _) (bel_alloc _ _)⟩
def cmF (pr : Int) (args : List OpD) : Int := if pr = 1 ∨ pr = 2 then fty args else fwd args
set_option maxRecDepth 100000 in
set_option maxHeartbeats 4000000 in
theorem cmWan (op ty pr : Int) (va : Value) (args : List OpD) (a1 a2 a3 a4 a5 : Option Addr) (n1 n2 n3 n4 n5 c1 c2 c3 c4 c5 : Nat) (name : ByteArray) (link res bk : Int) (w : World) {lo : Nat} (h : Ops lo w va args) (hw : Wid w) :
  Calls Tryz.prog 216 #[.agg #[.int .i64 op, .int .i64 ty, va, .int .i64 pr], scV (.slice a1 n1 c1) (.slice a2 n2 c2) name link (.slice a3 n3 c3) res (.slice a4 n4 c4) (.slice a5 n5 c5) bk] w fun e w' => ∃ v, e = .returned v ∧ Ints 0 .i64 w' v [cmF pr args, cmF pr args] ∧ Below w.heap.size w w' := by
 obtain ⟨b, o, ⟨⟨a, c, rfl, s1, s2⟩, s3⟩, -, hc⟩ := h.ex
 have FT : Kp (∀ w, Ops lo w (.slice a args.length c) args → Wid w → Calls Tryz.prog 212 #[hdV op ty (.slice a args.length c)] w fun e w' => e = .returned (.int .i64 (fty args)) ∧ Below w.heap.size w w') := ⟨fun w h hw => hdFty op ty _ args w h hw⟩
 have FW : Kp (∀ w, Ops lo w (.slice a args.length c) args → Wid w → Calls Tryz.prog 213 #[hdV op ty (.slice a args.length c)] w fun e w' => e = .returned (.int .i64 (fwd args)) ∧ Below w.heap.size w w') := ⟨fun w h hw => hdFw op ty _ args w h hw⟩
 have BB := bel_trans (bel_alloc w (Go.Obj.cells #[.int .i64 op, .int .i64 ty, .slice a args.length c, .int .i64 pr] 181)) (bel_alloc _ (scC (.slice a1 n1 c1) (.slice a2 n2 c2) name link (.slice a3 n3 c3) res (.slice a4 n4 c4) (.slice a5 n5 c5) bk))
 have hw1 := Kp.mk (hw.below BB)
 have h1 := Kp.mk (h.keep BB)
 have hx := Kp.mk (kept_at (new_at w (Go.Obj.cells #[.int .i64 op, .int .i64 ty, .slice a args.length c, .int .i64 pr] 181)) (bel_alloc _ (scC (.slice a1 n1 c1) (.slice a2 n2 c2) name link (.slice a3 n3 c3) res (.slice a4 n4 c4) (.slice a5 n5 c5) bk)))
 replace BB := Kp.mk BB
 clear h hw hc s2
 by_cases e1 : pr = 1
 ·subst e1
  rw [show cmF 1 args = fty args by simp [cmF]]
  exact tl33
 by_cases e2 : pr = 2
 ·subst e2
  rw [show cmF 2 args = fty args by simp [cmF]]
  exact tl33
 rw [show cmF pr args = fwd args by simp [cmF, e1, e2]]
 have n1 := nb e1
 have n2 := nb e2
 clear e1 e2
 generalize fty args = T at *
 generalize fwd args = T2 at *
 go_enter Tryz.func216, Tryz.ntmps216
 go_wp2_with fail
 refine (FW.out _ h1.out hw1.out).mono ?_
 rintro e w1 ⟨rfl, hb1⟩
 have B1 := bel_trans BB.out hb1
 have y3 : At w1 w.heap.size 3 _ := cells_at (kept_at hx.out hb1) rfl
 have y0 : At w1 w.heap.size 0 _ := cells_at (kept_at hx.out hb1) rfl
 have y1 : At w1 w.heap.size 1 _ := cells_at (kept_at hx.out hb1) rfl
 have y2 : At w1 w.heap.size 2 _ := cells_at (kept_at hx.out hb1) rfl
 go_wp2_with fail
 go_ret
 exact ⟨_, rfl, ints2 (new_at w1 _), bel_trans B1 (bel_alloc _ _)⟩
set_option maxRecDepth 100000 in
set_option maxHeartbeats 4000000 in
theorem alOwn (op ty sz : Int) (a : Option Addr) (n c : Nat) (a1 a2 a3 a4 a5 : Option Addr) (n1 n2 n3 n4 n5 c1 c2 c3 c4 c5 : Nat) (name : ByteArray) (link res bk : Int) (w : World)  :
  Calls Tryz.prog 218 #[.agg #[.int .i64 op, .int .i64 ty, .slice a n c, .int .i64 sz], scV (.slice a1 n1 c1) (.slice a2 n2 c2) name link (.slice a3 n3 c3) res (.slice a4 n4 c4) (.slice a5 n5 c5) bk] w fun e w' => e = .returned (.bool (decide (bk = 0) && (decide (1 ≤ sz) && decide (sz ≤ 256)))) ∧ Below w.heap.size w w' := by
 go_enter Tryz.func218, Tryz.ntmps218
 go_wp2_with fail
 all_goals
  go_ret
  exact ⟨ret_bool (by first | rfl | (rw [Bool.eq_iff_iff]; simp; omega) | simp_all), bel_trans (bel_alloc _ _) (bel_alloc _ _)⟩
end Go.Proofs.YtgdcgjlmkmdklaaGreatDoor

namespace Go.Proofs.YtgdcgjlmkmdklaaGreatDoor
open Go.ChangeShapes Go.WideShapes Go.ChangeAt Go.RowKit
set_option linter.unusedVariables false
set_option linter.unusedSimpArgs false
set_option maxRecDepth 100000 in
set_option maxHeartbeats 4000000 in
theorem inOwn (op ty ca : Int) (a : Option Addr) (n c : Nat) (a1 a2 a3 a4 a5 : Option Addr) (n1 n2 n3 n4 n5 c1 c2 c3 c4 c5 : Nat) (name : ByteArray) (link res bk : Int) (w : World) (hn : n2 ≤ 140737488355328) :
  Calls Tryz.prog 219 #[.agg #[.int .i64 op, .int .i64 ty, .slice a n c, .int .i64 ca], scV (.slice a1 n1 c1) (.slice a2 n2 c2) name link (.slice a3 n3 c3) res (.slice a4 n4 c4) (.slice a5 n5 c5) bk] w fun e w' => e = .returned (.bool (isIx ca n2)) ∧ Below w.heap.size w w' := by
 have BB := bel_trans (bel_alloc w (Go.Obj.cells #[.int .i64 op, .int .i64 ty, .slice a n c, .int .i64 ca] 185)) (bel_alloc _ (scC (.slice a1 n1 c1) (.slice a2 n2 c2) name link (.slice a3 n3 c3) res (.slice a4 n4 c4) (.slice a5 n5 c5) bk))
 have IX := Kp.mk (isIx_e ca n2 ((w.alloc (Go.Obj.cells #[.int .i64 op, .int .i64 ty, .slice a n c, .int .i64 ca] 185)).alloc (scC (.slice a1 n1 c1) (.slice a2 n2 c2) name link (.slice a3 n3 c3) res (.slice a4 n4 c4) (.slice a5 n5 c5) bk)) hn)
 have g : (n2 : Int) ≤ 140737488355328 := by omega
 generalize isIx ca n2 = R at *
 go_enter Tryz.func219, Tryz.ntmps219
 go_wp2_with fail
 refine IX.out.mono ?_
 rintro e w1 ⟨rfl, rfl⟩
 go_wp2_with fail
 go_ret
 exact ⟨rfl, BB⟩
set_option maxRecDepth 100000 in
set_option maxHeartbeats 4000000 in
theorem inRes (op ty ca : Int) (a : Option Addr) (n c : Nat) (a1 a2 a3 a4 a5 : Option Addr) (n1 n3 n4 n5 c1 c2 c3 c4 c5 : Nat) (fs : List FnD) (name : ByteArray) (link res bk : Int) (w : World) {lo : Nat} (hf : Fns lo w (.slice a2 fs.length c2) fs) :
  Calls Tryz.prog 220 #[.agg #[.int .i64 op, .int .i64 ty, .slice a n c, .int .i64 ca], scV (.slice a1 n1 c1) (.slice a2 fs.length c2) name link (.slice a3 n3 c3) res (.slice a4 n4 c4) (.slice a5 n5 c5) bk] w fun e w' => e = .returned (.bool (isIx ca fs.length && decide (ty = (calD fs ca).res))) ∧ Below w.heap.size w w' := by
 obtain ⟨bf, of, ⟨⟨_, _, hve, f1, f2⟩, f3⟩, -, hfc⟩ := hf.ex
 injection hve with v1 v2 v3
 subst v1 v3
 clear v2 hf
 have IOq : Kp (∀ w, Calls Tryz.prog 219 #[.agg #[.int .i64 op, .int .i64 ty, .slice a n c, .int .i64 ca], scV (.slice a1 n1 c1) (.slice a2 fs.length c2) name link (.slice a3 n3 c3) res (.slice a4 n4 c4) (.slice a5 n5 c5) bk] w fun e w' => e = .returned (.bool (isIx ca fs.length)) ∧ Below w.heap.size w w') := ⟨fun w => inOwn op ty ca a n c a1 a2 a3 a4 a5 n1 fs.length n3 n4 n5 c1 c2 c3 c4 c5 name link res bk w f3⟩
 have g2 : (fs.length : Int) ≤ 140737488355328 := by omega
 obtain ⟨W0, hW⟩ : ∃ W0, W0 = (w.alloc (Go.Obj.cells #[.int .i64 op, .int .i64 ty, .slice a n c, .int .i64 ca] 185)).alloc (scC (.slice a1 n1 c1) (.slice a2 fs.length c2) name link (.slice a3 n3 c3) res (.slice a4 n4 c4) (.slice a5 n5 c5) bk) := ⟨_, rfl⟩
 have BB : Below w.heap.size w W0 := by rw [hW]; exact bel_trans (bel_alloc w _) (bel_alloc _ _)
 have x1 : W0.heap[w.heap.size]? = some (Go.Obj.cells #[.int .i64 op, .int .i64 ty, .slice a n c, .int .i64 ca] 185) := by rw [hW]; exact kept_at (new_at w _) (bel_alloc _ _)
 have x2 : W0.heap[w.heap.size + 1]? = some (scC (.slice a1 n1 c1) (.slice a2 fs.length c2) name link (.slice a3 n3 c3) res (.slice a4 n4 c4) (.slice a5 n5 c5) bk) := by
  exact tl85
 have s1 : At W0 (w.heap.size + 1) 1 _ := cells_at x2 rfl
 have s0 : At W0 (w.heap.size + 1) 0 _ := cells_at x2 rfl
 have s2 : At W0 (w.heap.size + 1) 2 _ := cells_at x2 rfl
 have s3 : At W0 (w.heap.size + 1) 3 _ := cells_at x2 rfl
 have s4 : At W0 (w.heap.size + 1) 4 _ := cells_at x2 rfl
 have s5 : At W0 (w.heap.size + 1) 5 _ := cells_at x2 rfl
 have s6 : At W0 (w.heap.size + 1) 6 _ := cells_at x2 rfl
 have s7 : At W0 (w.heap.size + 1) 7 _ := cells_at x2 rfl
 have s8 : At W0 (w.heap.size + 1) 8 _ := cells_at x2 rfl
 have j0 : At W0 w.heap.size 0 _ := cells_at x1 rfl
 have j1 : At W0 w.heap.size 1 _ := cells_at x1 rfl
 have j2 : At W0 w.heap.size 2 _ := cells_at x1 rfl
 have j3 : At W0 w.heap.size 3 _ := cells_at x1 rfl
 replace hW := Kp.mk hW
 replace f2 := Kp.mk f2
 replace x1 := Kp.mk x1
 replace x2 := Kp.mk x2
 by_cases q1 : 0 ≤ ca ∧ ca < fs.length
 ·obtain ⟨q1, q2⟩ := q1
  obtain ⟨m, rfl⟩ := Int.eq_ofNat_of_zero_le q1
  have hn : m < fs.length := by omega
  have hcal := calD_get hn
  obtain ⟨vp, vb, hfa⟩ := hfc m hn
  obtain rfl := f2.out (by omega)
  have hR : isIx (m : Int) fs.length = true := by simp [isIx, hn]
  rw [hR] at IOq ⊢
  rw [hcal]
  have HC := at_keep hfa.c3 BB
  clear hfa hcal hfc
  have q2' : (m : Int) < fs.length := q2
  generalize fs[m].res = U at *
  by_cases hu : ty = U
  ·subst hu
   rw [show (true && decide (ty = ty)) = true by simp]
   exact tl12
  ·rw [show (true && decide (ty = U)) = false by simp [hu]]
   have hu' := nb hu
   clear hu
   exact tl12
 ·have hR : isIx ca fs.length = false := by simp [isIx]; omega
  rw [hR] at IOq ⊢
  clear q1 hfc
  rw [show (false && decide (ty = (calD fs ca).res)) = false by simp]
  have HC := j0
  exact tl12
set_option maxRecDepth 100000 in
set_option maxHeartbeats 4000000 in
theorem inWan (op ty ca : Int) (a : Option Addr) (n c : Nat) (a1 a2 a3 a4 a5 : Option Addr) (n1 n3 n4 n5 c1 c2 c3 c4 c5 : Nat) (fs : List FnD) (name : ByteArray) (link res bk : Int) (w : World) {lo : Nat} (hf : Fns lo w (.slice a2 fs.length c2) fs) :
  Calls Tryz.prog 221 #[.agg #[.int .i64 op, .int .i64 ty, .slice a n c, .int .i64 ca], scV (.slice a1 n1 c1) (.slice a2 fs.length c2) name link (.slice a3 n3 c3) res (.slice a4 n4 c4) (.slice a5 n5 c5) bk] w fun e w' => ∃ v, e = .returned v ∧ Ints 0 .i64 w' v (if isIx ca fs.length = true then (calD fs ca).params else []) ∧ Below w.heap.size w w' := by
 obtain ⟨bf, of, ⟨⟨_, _, hve, f1, f2⟩, f3⟩, -, hfc⟩ := hf.ex
 injection hve with v1 v2 v3
 subst v1 v3
 clear v2 hf
 have IOq : Kp (∀ w, Calls Tryz.prog 219 #[.agg #[.int .i64 op, .int .i64 ty, .slice a n c, .int .i64 ca], scV (.slice a1 n1 c1) (.slice a2 fs.length c2) name link (.slice a3 n3 c3) res (.slice a4 n4 c4) (.slice a5 n5 c5) bk] w fun e w' => e = .returned (.bool (isIx ca fs.length)) ∧ Below w.heap.size w w') := ⟨fun w => inOwn op ty ca a n c a1 a2 a3 a4 a5 n1 fs.length n3 n4 n5 c1 c2 c3 c4 c5 name link res bk w f3⟩
 have g2 : (fs.length : Int) ≤ 140737488355328 := by omega
 obtain ⟨W0, hW⟩ : ∃ W0, W0 = (w.alloc (Go.Obj.cells #[.int .i64 op, .int .i64 ty, .slice a n c, .int .i64 ca] 185)).alloc (scC (.slice a1 n1 c1) (.slice a2 fs.length c2) name link (.slice a3 n3 c3) res (.slice a4 n4 c4) (.slice a5 n5 c5) bk) := ⟨_, rfl⟩
 have BB : Below w.heap.size w W0 := by rw [hW]; exact bel_trans (bel_alloc w _) (bel_alloc _ _)
 have x1 : W0.heap[w.heap.size]? = some (Go.Obj.cells #[.int .i64 op, .int .i64 ty, .slice a n c, .int .i64 ca] 185) := by rw [hW]; exact kept_at (new_at w _) (bel_alloc _ _)
 have x2 : W0.heap[w.heap.size + 1]? = some (scC (.slice a1 n1 c1) (.slice a2 fs.length c2) name link (.slice a3 n3 c3) res (.slice a4 n4 c4) (.slice a5 n5 c5) bk) := by
  exact tl85
 have s1 : At W0 (w.heap.size + 1) 1 _ := cells_at x2 rfl
 have s0 : At W0 (w.heap.size + 1) 0 _ := cells_at x2 rfl
 have s2 : At W0 (w.heap.size + 1) 2 _ := cells_at x2 rfl
 have s3 : At W0 (w.heap.size + 1) 3 _ := cells_at x2 rfl
 have s4 : At W0 (w.heap.size + 1) 4 _ := cells_at x2 rfl
 have s5 : At W0 (w.heap.size + 1) 5 _ := cells_at x2 rfl
 have s6 : At W0 (w.heap.size + 1) 6 _ := cells_at x2 rfl
 have s7 : At W0 (w.heap.size + 1) 7 _ := cells_at x2 rfl
 have s8 : At W0 (w.heap.size + 1) 8 _ := cells_at x2 rfl
 have j0 : At W0 w.heap.size 0 _ := cells_at x1 rfl
 have j1 : At W0 w.heap.size 1 _ := cells_at x1 rfl
 have j2 : At W0 w.heap.size 2 _ := cells_at x1 rfl
 have j3 : At W0 w.heap.size 3 _ := cells_at x1 rfl
 replace hW := Kp.mk hW
 replace f2 := Kp.mk f2
 replace x1 := Kp.mk x1
 replace x2 := Kp.mk x2
 by_cases q1 : 0 ≤ ca ∧ ca < fs.length
 ·obtain ⟨q1, q2⟩ := q1
  obtain ⟨m, rfl⟩ := Int.eq_ofNat_of_zero_le q1
  have hn : m < fs.length := by omega
  have hcal := calD_get hn
  obtain ⟨vp, vb, hfa⟩ := hfc m hn
  obtain rfl := f2.out (by omega)
  have hR : isIx (m : Int) fs.length = true := by simp [isIx, hn]
  rw [hR] at IOq ⊢
  rw [hcal]
  rw [if_pos rfl]
  have HC := at_keep hfa.c2 BB
  have HP := Kp.mk (hfa.f.p.keep BB)
  clear hfa hcal hfc
  have q2' : (m : Int) < fs.length := q2
  obtain ⟨ap, cp, rfl⟩ := HP.out.shape
  go_enter Tryz.func221, Tryz.ntmps221
  go_upto_region 1 with fail
  rw [← hW.out]
  go_wp2_with fail
  refine (IOq.out _).mono ?_
  rintro e w1 ⟨rfl, hb1⟩
  have y3 : At w1 w.heap.size 3 _ := cells_at (kept_at x1.out hb1) rfl
  have z1 : At w1 (w.heap.size + 1) 1 _ := cells_at (kept_at x2.out hb1) rfl
  have fc := at_keep HC hb1
  go_wp2_with fail
  go_ret
  exact ⟨_, rfl, (HP.out.keep hb1).mono (Nat.zero_le _) (fun _ _ _ _ h => h), bel_trans BB hb1⟩
 ·have hR : isIx ca fs.length = false := by simp [isIx]; omega
  rw [hR] at IOq ⊢
  clear q1 hfc
  rw [if_neg (by simp)]
  go_enter Tryz.func221, Tryz.ntmps221
  go_upto_region 1 with fail
  rw [← hW.out]
  go_wp2_with fail
  refine (IOq.out _).mono ?_
  rintro e w1 ⟨rfl, hb1⟩
  go_wp2_with fail
  go_ret
  exact ⟨_, rfl, ints0 _, bel_trans BB hb1⟩
def jnB (op : Int) (n m : Nat) : Bool := if op = 20 then decide (0 < n) && decide (m = n) else if op = 28 then decide (m = 2) else decide (m = 1)
set_option maxRecDepth 100000 in
set_option maxHeartbeats 4000000 in
theorem jnOwn (op ty : Int) (a b : Option Addr) (n c m d : Nat) (a1 a2 a3 a4 a5 : Option Addr) (n1 n2 n3 n4 n5 c1 c2 c3 c4 c5 : Nat) (name : ByteArray) (link res bk : Int) (w : World) (hn : n ≤ 140737488355328) (hm : m ≤ 140737488355328) :
  Calls Tryz.prog 222 #[.agg #[.int .i64 op, .int .i64 ty, .slice a n c, .slice b m d], scV (.slice a1 n1 c1) (.slice a2 n2 c2) name link (.slice a3 n3 c3) res (.slice a4 n4 c4) (.slice a5 n5 c5) bk] w fun e w' => e = .returned (.bool (jnB op n m)) ∧ Below w.heap.size w w' := by
 have g1 : (n : Int) ≤ 140737488355328 := by omega
 have g2 : (m : Int) ≤ 140737488355328 := by omega
 by_cases e20 : op = 20
 ·subst e20
  rw [show jnB 20 n m = (decide (0 < n) && decide (m = n)) by simp [jnB]]
  exact tl56
 by_cases e28 : op = 28
 ·subst e28
  rw [show jnB 28 n m = decide (m = 2) by simp [jnB]]
  exact tl56
 rw [show jnB op n m = decide (m = 1) by simp [jnB, e20, e28]]
 have n20 := nb e20
 have n28 := nb e28
 clear e20 e28
 exact tl56
set_option maxRecDepth 100000 in
set_option maxHeartbeats 4000000 in
theorem jnTgt (op ty : Int) (a b : Option Addr) (n c m d : Nat)  (w : World)  :
  Calls Tryz.prog 223 #[.agg #[.int .i64 op, .int .i64 ty, .slice a n c, .slice b m d]] w fun e w' => e = .returned (.slice b m d) ∧ Below w.heap.size w w' := by
 go_enter Tryz.func223, Tryz.ntmps223
 go_wp2_with fail
 go_ret
 exact ⟨rfl, bel_alloc _ _⟩
set_option maxRecDepth 100000 in
set_option maxHeartbeats 4000000 in
theorem diWan (op ty : Int) (va : Value) (args : List OpD) (b b2 : Option Addr) (m d m2 d2 : Nat) (a1 a2 a3 a4 a5 : Option Addr) (n1 n2 n3 n4 n5 c1 c2 c3 c4 c5 : Nat) (name : ByteArray) (link res bk : Int) (w : World) {lo : Nat} (h : Ops lo w va args) (hw : Wid w) :
  Calls Tryz.prog 231 #[.agg #[.int .i64 op, .int .i64 ty, va, .slice b m d, .slice b2 m2 d2], scV (.slice a1 n1 c1) (.slice a2 n2 c2) name link (.slice a3 n3 c3) res (.slice a4 n4 c4) (.slice a5 n5 c5) bk] w fun e w' => ∃ v, e = .returned v ∧ Ints 0 .i64 w' v [fwd args] ∧ Below w.heap.size w w' := by
 obtain ⟨bb, o, ⟨⟨a, c, rfl, s1, s2⟩, s3⟩, -, hc⟩ := h.ex
 have FW : Kp (∀ w, Ops lo w (.slice a args.length c) args → Wid w → Calls Tryz.prog 213 #[hdV op ty (.slice a args.length c)] w fun e w' => e = .returned (.int .i64 (fwd args)) ∧ Below w.heap.size w w') := ⟨fun w h hw => hdFw op ty _ args w h hw⟩
 have BB := Kp.mk (bel_trans (bel_alloc w (Go.Obj.cells #[.int .i64 op, .int .i64 ty, .slice a args.length c, .slice b m d, .slice b2 m2 d2] 189)) (bel_alloc _ (scC (.slice a1 n1 c1) (.slice a2 n2 c2) name link (.slice a3 n3 c3) res (.slice a4 n4 c4) (.slice a5 n5 c5) bk)))
 have hw1 := Kp.mk (hw.below BB.out)
 have h1 := Kp.mk (h.keep BB.out)
 clear h hw hc s2
 generalize fwd args = T at *
 go_enter Tryz.func231, Tryz.ntmps231
 go_wp2_with fail
 refine (FW.out _ h1.out hw1.out).mono ?_
 exact tl157
end Go.Proofs.YtgdcgjlmkmdklaaGreatDoor
