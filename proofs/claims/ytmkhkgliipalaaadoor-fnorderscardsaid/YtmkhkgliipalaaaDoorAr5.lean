/- Contracts over one translation: the program's signed quotients and remainders where the divisor is minus one. -/
import Derived.Test.YtmkhkgliipalaaaDoorAr4
namespace Go.Proofs.YtmkhkgliipalaaaDoor
open Go.ChangeShapes Go.WideShapes Go.ChangeAt Go.RowKit
set_option linter.unusedVariables false
set_option linter.unusedSimpArgs false
theorem top1 : (2 : Int) ^ ((1 : Int).toNat - 1) = 1 := by decide
theorem top8 : (2 : Int) ^ ((8 : Int).toNat - 1) = 128 := by decide
theorem top16 : (2 : Int) ^ ((16 : Int).toNat - 1) = 32768 := by decide
theorem top32 : (2 : Int) ^ ((32 : Int).toNat - 1) = 2147483648 := by decide
theorem top64 : (2 : Int) ^ ((64 : Int).toNat - 1) = 9223372036854775808 := by decide
set_option maxRecDepth 100000 in
set_option maxHeartbeats 2000000 in
theorem divS_one (op fl x a b c v : Int) (w : World) (hw : Wid w) (ha : isW x a = true) (hb : isW x b = true) (m0 : (sgnI x b == 0) = false) (m1 : (sgnI x b == -1) = true) (ht : (a == 2 ^ (x.toNat - 1)) = false) (h : QR op fl (cutI x (IntKind.u64.wrap (IntKind.i64.wrap ((sgnI x a).tdiv (sgnI x b))))) (cutI x (IntKind.u64.wrap ((sgnI x a).tmod (sgnI x b)))) c v) :
    Calls Tryd.prog 30 #[.int .i64 op, .int .i64 fl, .int .i64 x, .int .u64 a, .int .u64 b] w fun e w' => e = .returned (.agg #[.int .i64 c, .int .u64 v]) ∧ Below w.heap.size w w' := by
  have HX : Hid (vw x = true) := isW_vw ha
  have HA : Hid (isW x a = true) := ha
  have HB : Hid (isW x b = true) := hb
  have n2 : ¬ sgnI x b = 0 := by simpa using m0
  have hw1 := hw.below (bel_alloc w (Obj.cells #[.int .i64 0, .int .u64 0] 28))
  have hw2 := hw.below ((Below.refl w.heap.size w).alloc (Nat.le_refl _) (Obj.cells #[.int .i64 0, .int .u64 0] 28)).drew
  have HT : Hid ((a == 2 ^ (x.toNat - 1)) = false) := ht
  clear ht ha hb
  rcases vw_cases HX.out with rfl | rfl | rfl | rfl | rfl
  all_goals
    have HT' := HT.out
    first | rw [top1] at HT' | rw [top8] at HT' | rw [top16] at HT' | rw [top32] at HT' | rw [top64] at HT'
    go_enter Tryd.func30, Tryd.ntmps30
    go_wp2_with (first | (go_at_call 14; refine (signedI _ _ _ hw1 (by first | exact HA.out | exact HB.out)).mono ?_; rintro e w' ⟨rfl, rfl⟩))
    go_region_with (first | (go_at_call 16; refine (cut_impl _ _ _ hw2 HX.out (wrapU_bd _).1 (wrapU_bd _).2).mono ?_; rintro e w' ⟨rfl, rfl⟩) | (go_at_call 48; refine (h _).mono ?_; rintro e w1 ⟨rfl, hb1⟩; have z1 := own_cells hb1; obtain ⟨z1, c0, c1, d0, d1⟩ := z1))
    all_goals
      go_wp2_with fail
      exact bodyPost_ret (v := .agg #[.int .i64 c, .int .u64 v]) (by simp [results, Tryd.results30, go_sem, c0, c1, z1]) rfl ⟨rfl, ((own_below hb1).setCell (by simp) _).setCell (by simp) _⟩
set_option maxRecDepth 100000 in
set_option maxHeartbeats 2000000 in
theorem divS_least (op fl x a b : Int) (w : World) (hw : Wid w) (ha : isW x a = true) (hb : isW x b = true) (m0 : (sgnI x b == 0) = false) (m1 : (sgnI x b == -1) = true) (ht : (a == 2 ^ (x.toNat - 1)) = true) :
    Calls Tryd.prog 30 #[.int .i64 op, .int .i64 fl, .int .i64 x, .int .u64 a, .int .u64 b] w fun e w' => e = .returned (.agg #[.int .i64 2, .int .u64 0]) ∧ Below w.heap.size w w' := by
  have HX : Hid (vw x = true) := isW_vw ha
  have HA : Hid (isW x a = true) := ha
  have HB : Hid (isW x b = true) := hb
  have hw1 := hw.below (bel_alloc w (Obj.cells #[.int .i64 0, .int .u64 0] 28))
  have HT : Hid ((a == 2 ^ (x.toNat - 1)) = true) := ht
  clear ha hb ht
  rcases vw_cases HX.out with rfl | rfl | rfl | rfl | rfl
  all_goals
    have HT' := HT.out
    first | rw [top1] at HT' | rw [top8] at HT' | rw [top16] at HT' | rw [top32] at HT' | rw [top64] at HT'
    go_enter Tryd.func30, Tryd.ntmps30
    go_wp2_with (first | (go_at_call 14; refine (signedI _ _ _ hw1 (by first | exact HA.out | exact HB.out)).mono ?_; rintro e w' ⟨rfl, rfl⟩))
    exact bodyPost_ret (v := .agg #[.int .i64 2, .int .u64 0]) (by simp [results, Tryd.results30, go_sem]) rfl ⟨rfl, bel_alloc _ _⟩
end Go.Proofs.YtmkhkgliipalaaaDoor
