/- Contracts over one translation: Compare and SwapPred of the program answer what the plain function cmpI says. -/
import Derived.Test.YtmkhkgliipalaaaDoorLwC
namespace Go.Proofs.YtmkhkgliipalaaaDoor
open Go.ChangeShapes Go.WideShapes Go.ChangeAt Go.RowKit
set_option linter.unusedVariables false
set_option linter.unusedSimpArgs false
theorem sgn_inj {x a b : Int} (ha : isW x a = true) (hb : isW x b = true) (h : sgnI x a = sgnI x b) : a = b := by
  obtain ⟨a0, a1⟩ := isW_bd ha
  obtain ⟨b0, b1⟩ := isW_bd hb
  unfold sgnI at h
  rcases vw_cases (isW_vw ha) with rfl | rfl | rfl | rfl | rfl
  all_goals
    clear ha hb
    simp at a1 b1 h
    split at h
    · split at h <;> omega
    · split at h <;> omega

def bI (b : Bool) : Int := if b then 1 else 0
def cmpI (pred x a b : Int) : Bool :=
  if pred = 1 then a == b else if pred = 2 then a != b else if pred = 3 then decide (a < b) else if pred = 4 then decide (a ≤ b) else if pred = 5 then decide (b < a) else if pred = 6 then decide (b ≤ a)
  else if pred = 7 then decide (sgnI x a < sgnI x b) else if pred = 8 then decide (sgnI x a ≤ sgnI x b) else if pred = 9 then decide (sgnI x b < sgnI x a) else decide (sgnI x b ≤ sgnI x a)
theorem pred_cases {p : Int} (h0 : 1 ≤ p) (h1 : p ≤ 10) : p = 1 ∨ p = 2 ∨ p = 3 ∨ p = 4 ∨ p = 5 ∨ p = 6 ∨ p = 7 ∨ p = 8 ∨ p = 9 ∨ p = 10 := by omega
set_option maxHeartbeats 2000000 in
theorem holds_any (p x a b : Int) (w : World) (hw : Wid w) (hp0 : 1 ≤ p) (hp1 : p ≤ 10) (ha : isW x a = true) (hb : isW x b = true) :
    Calls Tryd.prog 35 #[.int .i64 p, .int .i64 x, .int .u64 a, .int .u64 b] w fun e w' => e = .returned (.bool (cmpI p x a b)) ∧ w' = w := by
  have HA : Hid (isW x a = true) := ha
  have HB : Hid (isW x b = true) := hb
  clear ha hb
  rcases pred_cases hp0 hp1 with rfl | rfl | rfl | rfl | rfl | rfl | rfl | rfl | rfl | rfl
  all_goals
    clear hp0 hp1
    go_enter Tryd.func35, Tryd.ntmps35
    go_wp2_with (first | (go_at_call 14; refine (signedI _ _ _ hw (by first | exact HA.out | exact HB.out)).mono ?_; rintro e w' ⟨rfl, rfl⟩))
    go_ret
    refine ⟨ret_bool ?_, rfl⟩
    simp [cmpI]
set_option maxHeartbeats 2000000 in
theorem swapPred_yes (p : Int) (w : World) (hp0 : 1 ≤ p) (hp1 : p ≤ 10) :
    Calls Tryd.prog 18 #[.int .i64 p] w fun e w' => ∃ q : Int, e = .returned (.int .i64 q) ∧ (q == 0) = false ∧ w' = w := by
  rcases pred_cases hp0 hp1 with rfl | rfl | rfl | rfl | rfl | rfl | rfl | rfl | rfl | rfl
  all_goals
    clear hp0 hp1
    go_enter Tryd.func18, Tryd.ntmps18
    go_wp2
    go_ret
    exact ⟨_, rfl, by decide, rfl⟩
set_option maxHeartbeats 2000000 in
theorem compare_impl (p x a b : Int) (w : World) (hw : Wid w) (hp0 : 1 ≤ p) (hp1 : p ≤ 10) (ha : isW x a = true) (hb : isW x b = true) :
    Calls Tryd.prog 17 #[.int .i64 p, .int .i64 x, .int .u64 a, .int .u64 b] w fun e w' => e = .returned (.agg #[.int .i64 0, .int .u64 (bI (cmpI p x a b))]) ∧ Below w.heap.size w w' := by
  have HA : Hid (isW x a = true) := ha
  have HB : Hid (isW x b = true) := hb
  clear ha hb
  cases hc : cmpI p x a b with
  | true =>
    have HC : Hid (cmpI p x a b = true) := hc
    clear hc
    go_enter Tryd.func17, Tryd.ntmps17
    go_wp2_with (first | (go_at_call 18; refine (swapPred_yes _ _ hp0 hp1).mono ?_; rintro e w' ⟨q, rfl, hq, rfl⟩) | (go_at_call 26; refine (isWordI _ _ _ (by first | exact hw | exact hw.below (bel_alloc _ _)) (by first | exact HA.out | exact HB.out)).mono ?_; rintro e w' ⟨rfl, rfl⟩) | (go_at_call 35; refine (holds_any _ _ _ _ _ (by first | exact hw | exact hw.below (bel_alloc _ _)) hp0 hp1 HA.out HB.out).mono ?_; rw [HC.out]; rintro e w' ⟨rfl, rfl⟩))
    exact bodyPost_ret (v := .agg #[.int .i64 0, .int .u64 1]) (by simp [results, Tryd.results17, go_sem]) rfl ⟨rfl, bel_alloc _ _⟩
  | false =>
    have HC : Hid (cmpI p x a b = false) := hc
    clear hc
    go_enter Tryd.func17, Tryd.ntmps17
    go_wp2_with (first | (go_at_call 18; refine (swapPred_yes _ _ hp0 hp1).mono ?_; rintro e w' ⟨q, rfl, hq, rfl⟩) | (go_at_call 26; refine (isWordI _ _ _ (by first | exact hw | exact hw.below (bel_alloc _ _)) (by first | exact HA.out | exact HB.out)).mono ?_; rintro e w' ⟨rfl, rfl⟩) | (go_at_call 35; refine (holds_any _ _ _ _ _ (by first | exact hw | exact hw.below (bel_alloc _ _)) hp0 hp1 HA.out HB.out).mono ?_; rw [HC.out]; rintro e w' ⟨rfl, rfl⟩))
    exact bodyPost_ret (v := .agg #[.int .i64 0, .int .u64 0]) (by simp [results, Tryd.results17, go_sem]) rfl ⟨rfl, bel_alloc _ _⟩
def swI (k : Int) : Int := if k = 3 then 5 else if k = 4 then 6 else if k = 5 then 3 else if k = 6 then 4 else if k = 7 then 9 else if k = 8 then 10 else if k = 9 then 7 else if k = 10 then 8 else k
set_option maxHeartbeats 2000000 in
theorem swap_any (p : Int) (w : World) (hp0 : 1 ≤ p) (hp1 : p ≤ 10) :
    Calls Tryd.prog 18 #[.int .i64 p] w fun e w' => e = .returned (.int .i64 (swI p)) ∧ w' = w := by
  rcases pred_cases hp0 hp1 with rfl | rfl | rfl | rfl | rfl | rfl | rfl | rfl | rfl | rfl
  all_goals
    clear hp0 hp1
    go_enter Tryd.func18, Tryd.ntmps18
    go_wp2
    go_ret
    exact ⟨rfl, rfl⟩
theorem sw_bd {p : Int} (hp0 : 1 ≤ p) (hp1 : p ≤ 10) : 1 ≤ swI p ∧ swI p ≤ 10 := by
  rcases pred_cases hp0 hp1 with rfl | rfl | rfl | rfl | rfl | rfl | rfl | rfl | rfl | rfl <;> decide
theorem cmp_swap {p x a b : Int} (hp0 : 1 ≤ p) (hp1 : p ≤ 10) : cmpI (swI p) x b a = cmpI p x a b := by
  rcases pred_cases hp0 hp1 with rfl | rfl | rfl | rfl | rfl | rfl | rfl | rfl | rfl | rfl
  · have e1 : cmpI (swI 1) x b a = (b == a) := by simp [swI, cmpI]
    have e2 : cmpI 1 x a b = (a == b) := by simp [cmpI]
    rw [e1, e2, Bool.eq_iff_iff, beq_iff_eq, beq_iff_eq]; exact eq_comm
  · have e1 : cmpI (swI 2) x b a = (b != a) := by simp [swI, cmpI]
    have e2 : cmpI 2 x a b = (a != b) := by simp [cmpI]
    rw [e1, e2, Bool.eq_iff_iff, bne_iff_ne, bne_iff_ne]; exact ne_comm
  all_goals simp [swI, cmpI]
end Go.Proofs.YtmkhkgliipalaaaDoor
