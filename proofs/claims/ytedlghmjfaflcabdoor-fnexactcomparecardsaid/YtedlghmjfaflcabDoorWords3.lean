/- Contracts over one translation: holds, SwapPred and Compare of the program, Compare of its specification, and the law that compares their answers: all say what the plain function cmpI says, at every argument. -/
import Derived.Test.YtedlghmjfaflcabDoorWords2
namespace Go.Proofs.YtedlghmjfaflcabDoor
open Go.ChangeShapes Go.WideShapes Go.ChangeAt Go.RowKit
set_option linter.unusedVariables false

theorem sgn_inj {x a b : Int} (ha : isW x a = true) (hb : isW x b = true) (h : sgnI x a = sgnI x b) : a = b := by
  obtain ⟨a0, a1⟩ := isW_bd ha
  obtain ⟨b0, b1⟩ := isW_bd hb
  unfold sgnI at h
  rcases vw_cases (isW_vw ha) with rfl | rfl | rfl | rfl | rfl
  all_goals
    clear ha hb
    simp at a1 b1 h
    split at h
    · split at h <;> omega
    · split at h <;> omega

def bI (b : Bool) : Int := if b then 1 else 0
def cmpI (pred x a b : Int) : Bool :=
  if pred = 1 then a == b else if pred = 2 then a != b else if pred = 3 then decide (a < b) else if pred = 4 then decide (a ≤ b) else if pred = 5 then decide (b < a) else if pred = 6 then decide (b ≤ a)
  else if pred = 7 then decide (sgnI x a < sgnI x b) else if pred = 8 then decide (sgnI x a ≤ sgnI x b) else if pred = 9 then decide (sgnI x b < sgnI x a) else decide (sgnI x b ≤ sgnI x a)
theorem pred_cases {p : Int} (h0 : 1 ≤ p) (h1 : p ≤ 10) : p = 1 ∨ p = 2 ∨ p = 3 ∨ p = 4 ∨ p = 5 ∨ p = 6 ∨ p = 7 ∨ p = 8 ∨ p = 9 ∨ p = 10 := by omega
theorem u64_le {a : Int} {x : Int} (h : isW x a = true) : 0 ≤ a ∧ a ≤ 18446744073709551615 := by
  obtain ⟨a0, a1⟩ := isW_bd h
  rcases vw_cases (isW_vw h) with rfl | rfl | rfl | rfl | rfl <;> simp at a1 <;> omega

theorem signedI (x v : Int) (w : World) (hw : Wid w) (h : isW x v = true) :
    Calls Tryd.prog 10 #[.int .i64 x, .int .u64 v] w fun e w' => e = .returned (.int .i64 (sgnI x v)) ∧ w' = w :=
  signed_impl x v w hw (u64_le h).1 (u64_le h).2 h
theorem signedS (x v : Int) (w : World) (h : isW x v = true) :
    Calls Tryd.prog 9 #[.int .i64 x, .int .u64 v] w fun e w' => e = .returned (.int .i64 (sgnI x v)) ∧ w' = w :=
  signed_spec x v w (u64_le h).1 (u64_le h).2 h
set_option maxHeartbeats 2000000 in
theorem holds_any (p x a b : Int) (w : World) (hw : Wid w) (hp0 : 1 ≤ p) (hp1 : p ≤ 10) (ha : isW x a = true) (hb : isW x b = true) :
    Calls Tryd.prog 35 #[.int .i64 p, .int .i64 x, .int .u64 a, .int .u64 b] w fun e w' => e = .returned (.bool (cmpI p x a b)) ∧ w' = w := by
  have HA : Hid (isW x a = true) := ha
  have HB : Hid (isW x b = true) := hb
  clear ha hb
  rcases pred_cases hp0 hp1 with rfl | rfl | rfl | rfl | rfl | rfl | rfl | rfl | rfl | rfl
  all_goals
    clear hp0 hp1
    go_enter Tryd.func35, Tryd.ntmps35
    go_wp2_with (first | (go_at_call 10; refine (signedI _ _ _ hw (by first | exact HA.out | exact HB.out)).mono ?_; rintro e w' ⟨rfl, rfl⟩))
    go_ret
    refine ⟨ret_bool ?_, rfl⟩
    simp [cmpI]
set_option maxHeartbeats 2000000 in
theorem swapPred_no (p : Int) (w : World) (hp : p < 1 ∨ 10 < p) :
    Calls Tryd.prog 34 #[.int .i64 p] w fun e w' => e = .returned (.int .i64 0) ∧ w' = w := by
  have n1 : (p == 1) = false := by simp; omega
  have n2 : (p == 2) = false := by simp; omega
  have n3 : (p == 3) = false := by simp; omega
  have n4 : (p == 4) = false := by simp; omega
  have n5 : (p == 5) = false := by simp; omega
  have n6 : (p == 6) = false := by simp; omega
  have n7 : (p == 7) = false := by simp; omega
  have n8 : (p == 8) = false := by simp; omega
  have n9 : (p == 9) = false := by simp; omega
  have n10 : (p == 10) = false := by simp; omega
  clear hp
  go_enter Tryd.func34, Tryd.ntmps34
  go_wp2
  go_ret
  exact ⟨rfl, rfl⟩
set_option maxHeartbeats 2000000 in
theorem swapPred_yes (p : Int) (w : World) (hp0 : 1 ≤ p) (hp1 : p ≤ 10) :
    Calls Tryd.prog 34 #[.int .i64 p] w fun e w' => ∃ q : Int, e = .returned (.int .i64 q) ∧ (q == 0) = false ∧ w' = w := by
  rcases pred_cases hp0 hp1 with rfl | rfl | rfl | rfl | rfl | rfl | rfl | rfl | rfl | rfl
  all_goals
    clear hp0 hp1
    go_enter Tryd.func34, Tryd.ntmps34
    go_wp2
    go_ret
    exact ⟨_, rfl, by decide, rfl⟩
end Go.Proofs.YtedlghmjfaflcabDoor
