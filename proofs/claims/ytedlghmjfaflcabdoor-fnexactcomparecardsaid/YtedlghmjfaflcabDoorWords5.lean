/- Over one translation: Compare of the specification says what the plain function cmpI says of words. -/
import Derived.Test.YtedlghmjfaflcabDoorWords4
namespace Go.Proofs.YtedlghmjfaflcabDoor
open Go.ChangeShapes Go.WideShapes Go.ChangeAt Go.RowKit
set_option linter.unusedVariables false
set_option linter.unusedSimpArgs false

set_option maxHeartbeats 1000000 in
theorem cs1_lt (x a b : Int) (w : World) (ha : isW x a = true) (hb : isW x b = true) (h : a < b) :
    Calls Tryd.prog 14 #[.int .i64 1, .int .i64 x, .int .u64 a, .int .u64 b] w fun e w' => e = .returned (.agg #[.int .i64 0, .int .u64 0]) ∧ Below w.heap.size w w' := by
  have HA : Hid (isW x a = true) := ha
  have HB : Hid (isW x b = true) := hb
  have n1 : (a == b) = false := beq_eq_false_iff_ne.2 (by omega)
  clear ha hb
  go_enter Tryd.func14, Tryd.ntmps14
  go_wp2_with (first | (go_at_call 19; refine (isWordS _ _ _ (by first | exact HA.out | exact HB.out)).mono ?_; rintro e w' ⟨rfl, rfl⟩) | (go_at_call 9; refine (signedS _ _ _ (by first | exact HA.out | exact HB.out)).mono ?_; rintro e w' ⟨rfl, rfl⟩))
  exact bodyPost_ret (v := .agg #[.int .i64 0, .int .u64 0]) (by simp [results, Tryd.results14, go_sem]) rfl ⟨rfl, bel_alloc _ _⟩
set_option maxHeartbeats 1000000 in
theorem cs2_lt (x a b : Int) (w : World) (ha : isW x a = true) (hb : isW x b = true) (h : a < b) :
    Calls Tryd.prog 14 #[.int .i64 2, .int .i64 x, .int .u64 a, .int .u64 b] w fun e w' => e = .returned (.agg #[.int .i64 0, .int .u64 1]) ∧ Below w.heap.size w w' := by
  have HA : Hid (isW x a = true) := ha
  have HB : Hid (isW x b = true) := hb
  have n1 : (a == b) = false := beq_eq_false_iff_ne.2 (by omega)
  clear ha hb
  go_enter Tryd.func14, Tryd.ntmps14
  go_wp2_with (first | (go_at_call 19; refine (isWordS _ _ _ (by first | exact HA.out | exact HB.out)).mono ?_; rintro e w' ⟨rfl, rfl⟩) | (go_at_call 9; refine (signedS _ _ _ (by first | exact HA.out | exact HB.out)).mono ?_; rintro e w' ⟨rfl, rfl⟩))
  exact bodyPost_ret (v := .agg #[.int .i64 0, .int .u64 1]) (by simp [results, Tryd.results14, go_sem]) rfl ⟨rfl, bel_alloc _ _⟩
set_option maxHeartbeats 1000000 in
theorem cs3_lt (x a b : Int) (w : World) (ha : isW x a = true) (hb : isW x b = true) (h : a < b) :
    Calls Tryd.prog 14 #[.int .i64 3, .int .i64 x, .int .u64 a, .int .u64 b] w fun e w' => e = .returned (.agg #[.int .i64 0, .int .u64 1]) ∧ Below w.heap.size w w' := by
  have HA : Hid (isW x a = true) := ha
  have HB : Hid (isW x b = true) := hb
  have n1 : (a == b) = false := beq_eq_false_iff_ne.2 (by omega)
  clear ha hb
  go_enter Tryd.func14, Tryd.ntmps14
  go_wp2_with (first | (go_at_call 19; refine (isWordS _ _ _ (by first | exact HA.out | exact HB.out)).mono ?_; rintro e w' ⟨rfl, rfl⟩) | (go_at_call 9; refine (signedS _ _ _ (by first | exact HA.out | exact HB.out)).mono ?_; rintro e w' ⟨rfl, rfl⟩))
  exact bodyPost_ret (v := .agg #[.int .i64 0, .int .u64 1]) (by simp [results, Tryd.results14, go_sem]) rfl ⟨rfl, bel_alloc _ _⟩
set_option maxHeartbeats 1000000 in
theorem cs4_lt (x a b : Int) (w : World) (ha : isW x a = true) (hb : isW x b = true) (h : a < b) :
    Calls Tryd.prog 14 #[.int .i64 4, .int .i64 x, .int .u64 a, .int .u64 b] w fun e w' => e = .returned (.agg #[.int .i64 0, .int .u64 1]) ∧ Below w.heap.size w w' := by
  have HA : Hid (isW x a = true) := ha
  have HB : Hid (isW x b = true) := hb
  have n1 : (a == b) = false := beq_eq_false_iff_ne.2 (by omega)
  clear ha hb
  go_enter Tryd.func14, Tryd.ntmps14
  go_wp2_with (first | (go_at_call 19; refine (isWordS _ _ _ (by first | exact HA.out | exact HB.out)).mono ?_; rintro e w' ⟨rfl, rfl⟩) | (go_at_call 9; refine (signedS _ _ _ (by first | exact HA.out | exact HB.out)).mono ?_; rintro e w' ⟨rfl, rfl⟩))
  exact bodyPost_ret (v := .agg #[.int .i64 0, .int .u64 1]) (by simp [results, Tryd.results14, go_sem]) rfl ⟨rfl, bel_alloc _ _⟩
set_option maxHeartbeats 1000000 in
theorem cs5_lt (x a b : Int) (w : World) (ha : isW x a = true) (hb : isW x b = true) (h : a < b) :
    Calls Tryd.prog 14 #[.int .i64 5, .int .i64 x, .int .u64 a, .int .u64 b] w fun e w' => e = .returned (.agg #[.int .i64 0, .int .u64 0]) ∧ Below w.heap.size w w' := by
  have HA : Hid (isW x a = true) := ha
  have HB : Hid (isW x b = true) := hb
  have n1 : (a == b) = false := beq_eq_false_iff_ne.2 (by omega)
  clear ha hb
  go_enter Tryd.func14, Tryd.ntmps14
  go_wp2_with (first | (go_at_call 19; refine (isWordS _ _ _ (by first | exact HA.out | exact HB.out)).mono ?_; rintro e w' ⟨rfl, rfl⟩) | (go_at_call 9; refine (signedS _ _ _ (by first | exact HA.out | exact HB.out)).mono ?_; rintro e w' ⟨rfl, rfl⟩))
  exact bodyPost_ret (v := .agg #[.int .i64 0, .int .u64 0]) (by simp [results, Tryd.results14, go_sem]) rfl ⟨rfl, bel_alloc _ _⟩
set_option maxHeartbeats 1000000 in
theorem cs6_lt (x a b : Int) (w : World) (ha : isW x a = true) (hb : isW x b = true) (h : a < b) :
    Calls Tryd.prog 14 #[.int .i64 6, .int .i64 x, .int .u64 a, .int .u64 b] w fun e w' => e = .returned (.agg #[.int .i64 0, .int .u64 0]) ∧ Below w.heap.size w w' := by
  have HA : Hid (isW x a = true) := ha
  have HB : Hid (isW x b = true) := hb
  have n1 : (a == b) = false := beq_eq_false_iff_ne.2 (by omega)
  clear ha hb
  go_enter Tryd.func14, Tryd.ntmps14
  go_wp2_with (first | (go_at_call 19; refine (isWordS _ _ _ (by first | exact HA.out | exact HB.out)).mono ?_; rintro e w' ⟨rfl, rfl⟩) | (go_at_call 9; refine (signedS _ _ _ (by first | exact HA.out | exact HB.out)).mono ?_; rintro e w' ⟨rfl, rfl⟩))
  exact bodyPost_ret (v := .agg #[.int .i64 0, .int .u64 0]) (by simp [results, Tryd.results14, go_sem]) rfl ⟨rfl, bel_alloc _ _⟩
set_option maxHeartbeats 1000000 in
theorem cs7_lt (x a b : Int) (w : World) (ha : isW x a = true) (hb : isW x b = true) (h : sgnI x a < sgnI x b) :
    Calls Tryd.prog 14 #[.int .i64 7, .int .i64 x, .int .u64 a, .int .u64 b] w fun e w' => e = .returned (.agg #[.int .i64 0, .int .u64 1]) ∧ Below w.heap.size w w' := by
  have HA : Hid (isW x a = true) := ha
  have HB : Hid (isW x b = true) := hb
  have n1 : (a == b) = false := beq_eq_false_iff_ne.2 (fun e => by rw [e] at h; omega)
  clear ha hb
  go_enter Tryd.func14, Tryd.ntmps14
  go_wp2_with (first | (go_at_call 19; refine (isWordS _ _ _ (by first | exact HA.out | exact HB.out)).mono ?_; rintro e w' ⟨rfl, rfl⟩) | (go_at_call 9; refine (signedS _ _ _ (by first | exact HA.out | exact HB.out)).mono ?_; rintro e w' ⟨rfl, rfl⟩))
  exact bodyPost_ret (v := .agg #[.int .i64 0, .int .u64 1]) (by simp [results, Tryd.results14, go_sem]) rfl ⟨rfl, bel_alloc _ _⟩
set_option maxHeartbeats 1000000 in
theorem cs8_lt (x a b : Int) (w : World) (ha : isW x a = true) (hb : isW x b = true) (h : sgnI x a < sgnI x b) :
    Calls Tryd.prog 14 #[.int .i64 8, .int .i64 x, .int .u64 a, .int .u64 b] w fun e w' => e = .returned (.agg #[.int .i64 0, .int .u64 1]) ∧ Below w.heap.size w w' := by
  have HA : Hid (isW x a = true) := ha
  have HB : Hid (isW x b = true) := hb
  have n1 : (a == b) = false := beq_eq_false_iff_ne.2 (fun e => by rw [e] at h; omega)
  clear ha hb
  go_enter Tryd.func14, Tryd.ntmps14
  go_wp2_with (first | (go_at_call 19; refine (isWordS _ _ _ (by first | exact HA.out | exact HB.out)).mono ?_; rintro e w' ⟨rfl, rfl⟩) | (go_at_call 9; refine (signedS _ _ _ (by first | exact HA.out | exact HB.out)).mono ?_; rintro e w' ⟨rfl, rfl⟩))
  exact bodyPost_ret (v := .agg #[.int .i64 0, .int .u64 1]) (by simp [results, Tryd.results14, go_sem]) rfl ⟨rfl, bel_alloc _ _⟩
set_option maxHeartbeats 1000000 in
theorem cs9_lt (x a b : Int) (w : World) (ha : isW x a = true) (hb : isW x b = true) (h : sgnI x a < sgnI x b) :
    Calls Tryd.prog 14 #[.int .i64 9, .int .i64 x, .int .u64 a, .int .u64 b] w fun e w' => e = .returned (.agg #[.int .i64 0, .int .u64 0]) ∧ Below w.heap.size w w' := by
  have HA : Hid (isW x a = true) := ha
  have HB : Hid (isW x b = true) := hb
  have n1 : (a == b) = false := beq_eq_false_iff_ne.2 (fun e => by rw [e] at h; omega)
  clear ha hb
  go_enter Tryd.func14, Tryd.ntmps14
  go_wp2_with (first | (go_at_call 19; refine (isWordS _ _ _ (by first | exact HA.out | exact HB.out)).mono ?_; rintro e w' ⟨rfl, rfl⟩) | (go_at_call 9; refine (signedS _ _ _ (by first | exact HA.out | exact HB.out)).mono ?_; rintro e w' ⟨rfl, rfl⟩))
  exact bodyPost_ret (v := .agg #[.int .i64 0, .int .u64 0]) (by simp [results, Tryd.results14, go_sem]) rfl ⟨rfl, bel_alloc _ _⟩
set_option maxHeartbeats 1000000 in
theorem cs10_lt (x a b : Int) (w : World) (ha : isW x a = true) (hb : isW x b = true) (h : sgnI x a < sgnI x b) :
    Calls Tryd.prog 14 #[.int .i64 10, .int .i64 x, .int .u64 a, .int .u64 b] w fun e w' => e = .returned (.agg #[.int .i64 0, .int .u64 0]) ∧ Below w.heap.size w w' := by
  have HA : Hid (isW x a = true) := ha
  have HB : Hid (isW x b = true) := hb
  have n1 : (a == b) = false := beq_eq_false_iff_ne.2 (fun e => by rw [e] at h; omega)
  clear ha hb
  go_enter Tryd.func14, Tryd.ntmps14
  go_wp2_with (first | (go_at_call 19; refine (isWordS _ _ _ (by first | exact HA.out | exact HB.out)).mono ?_; rintro e w' ⟨rfl, rfl⟩) | (go_at_call 9; refine (signedS _ _ _ (by first | exact HA.out | exact HB.out)).mono ?_; rintro e w' ⟨rfl, rfl⟩))
  exact bodyPost_ret (v := .agg #[.int .i64 0, .int .u64 0]) (by simp [results, Tryd.results14, go_sem]) rfl ⟨rfl, bel_alloc _ _⟩
set_option maxHeartbeats 1000000 in
theorem cs1_eq (x a : Int) (w : World) (ha : isW x a = true)   :
    Calls Tryd.prog 14 #[.int .i64 1, .int .i64 x, .int .u64 a, .int .u64 a] w fun e w' => e = .returned (.agg #[.int .i64 0, .int .u64 1]) ∧ Below w.heap.size w w' := by
  have HA : Hid (isW x a = true) := ha
  have HB := HA
  clear ha
  go_enter Tryd.func14, Tryd.ntmps14
  go_wp2_with (first | (go_at_call 19; refine (isWordS _ _ _ (by first | exact HA.out | exact HB.out)).mono ?_; rintro e w' ⟨rfl, rfl⟩) | (go_at_call 9; refine (signedS _ _ _ (by first | exact HA.out | exact HB.out)).mono ?_; rintro e w' ⟨rfl, rfl⟩))
  exact bodyPost_ret (v := .agg #[.int .i64 0, .int .u64 1]) (by simp [results, Tryd.results14, go_sem]) rfl ⟨rfl, bel_alloc _ _⟩
set_option maxHeartbeats 1000000 in
theorem cs2_eq (x a : Int) (w : World) (ha : isW x a = true)   :
    Calls Tryd.prog 14 #[.int .i64 2, .int .i64 x, .int .u64 a, .int .u64 a] w fun e w' => e = .returned (.agg #[.int .i64 0, .int .u64 0]) ∧ Below w.heap.size w w' := by
  have HA : Hid (isW x a = true) := ha
  have HB := HA
  clear ha
  go_enter Tryd.func14, Tryd.ntmps14
  go_wp2_with (first | (go_at_call 19; refine (isWordS _ _ _ (by first | exact HA.out | exact HB.out)).mono ?_; rintro e w' ⟨rfl, rfl⟩) | (go_at_call 9; refine (signedS _ _ _ (by first | exact HA.out | exact HB.out)).mono ?_; rintro e w' ⟨rfl, rfl⟩))
  exact bodyPost_ret (v := .agg #[.int .i64 0, .int .u64 0]) (by simp [results, Tryd.results14, go_sem]) rfl ⟨rfl, bel_alloc _ _⟩
set_option maxHeartbeats 1000000 in
theorem cs3_eq (x a : Int) (w : World) (ha : isW x a = true)   :
    Calls Tryd.prog 14 #[.int .i64 3, .int .i64 x, .int .u64 a, .int .u64 a] w fun e w' => e = .returned (.agg #[.int .i64 0, .int .u64 0]) ∧ Below w.heap.size w w' := by
  have HA : Hid (isW x a = true) := ha
  have HB := HA
  clear ha
  go_enter Tryd.func14, Tryd.ntmps14
  go_wp2_with (first | (go_at_call 19; refine (isWordS _ _ _ (by first | exact HA.out | exact HB.out)).mono ?_; rintro e w' ⟨rfl, rfl⟩) | (go_at_call 9; refine (signedS _ _ _ (by first | exact HA.out | exact HB.out)).mono ?_; rintro e w' ⟨rfl, rfl⟩))
  exact bodyPost_ret (v := .agg #[.int .i64 0, .int .u64 0]) (by simp [results, Tryd.results14, go_sem]) rfl ⟨rfl, bel_alloc _ _⟩
set_option maxHeartbeats 1000000 in
theorem cs4_eq (x a : Int) (w : World) (ha : isW x a = true)   :
    Calls Tryd.prog 14 #[.int .i64 4, .int .i64 x, .int .u64 a, .int .u64 a] w fun e w' => e = .returned (.agg #[.int .i64 0, .int .u64 1]) ∧ Below w.heap.size w w' := by
  have HA : Hid (isW x a = true) := ha
  have HB := HA
  clear ha
  go_enter Tryd.func14, Tryd.ntmps14
  go_wp2_with (first | (go_at_call 19; refine (isWordS _ _ _ (by first | exact HA.out | exact HB.out)).mono ?_; rintro e w' ⟨rfl, rfl⟩) | (go_at_call 9; refine (signedS _ _ _ (by first | exact HA.out | exact HB.out)).mono ?_; rintro e w' ⟨rfl, rfl⟩))
  exact bodyPost_ret (v := .agg #[.int .i64 0, .int .u64 1]) (by simp [results, Tryd.results14, go_sem]) rfl ⟨rfl, bel_alloc _ _⟩
set_option maxHeartbeats 1000000 in
theorem cs5_eq (x a : Int) (w : World) (ha : isW x a = true)   :
    Calls Tryd.prog 14 #[.int .i64 5, .int .i64 x, .int .u64 a, .int .u64 a] w fun e w' => e = .returned (.agg #[.int .i64 0, .int .u64 0]) ∧ Below w.heap.size w w' := by
  have HA : Hid (isW x a = true) := ha
  have HB := HA
  clear ha
  go_enter Tryd.func14, Tryd.ntmps14
  go_wp2_with (first | (go_at_call 19; refine (isWordS _ _ _ (by first | exact HA.out | exact HB.out)).mono ?_; rintro e w' ⟨rfl, rfl⟩) | (go_at_call 9; refine (signedS _ _ _ (by first | exact HA.out | exact HB.out)).mono ?_; rintro e w' ⟨rfl, rfl⟩))
  exact bodyPost_ret (v := .agg #[.int .i64 0, .int .u64 0]) (by simp [results, Tryd.results14, go_sem]) rfl ⟨rfl, bel_alloc _ _⟩
set_option maxHeartbeats 1000000 in
theorem cs6_eq (x a : Int) (w : World) (ha : isW x a = true)   :
    Calls Tryd.prog 14 #[.int .i64 6, .int .i64 x, .int .u64 a, .int .u64 a] w fun e w' => e = .returned (.agg #[.int .i64 0, .int .u64 1]) ∧ Below w.heap.size w w' := by
  have HA : Hid (isW x a = true) := ha
  have HB := HA
  clear ha
  go_enter Tryd.func14, Tryd.ntmps14
  go_wp2_with (first | (go_at_call 19; refine (isWordS _ _ _ (by first | exact HA.out | exact HB.out)).mono ?_; rintro e w' ⟨rfl, rfl⟩) | (go_at_call 9; refine (signedS _ _ _ (by first | exact HA.out | exact HB.out)).mono ?_; rintro e w' ⟨rfl, rfl⟩))
  exact bodyPost_ret (v := .agg #[.int .i64 0, .int .u64 1]) (by simp [results, Tryd.results14, go_sem]) rfl ⟨rfl, bel_alloc _ _⟩
set_option maxHeartbeats 1000000 in
theorem cs7_eq (x a : Int) (w : World) (ha : isW x a = true)   :
    Calls Tryd.prog 14 #[.int .i64 7, .int .i64 x, .int .u64 a, .int .u64 a] w fun e w' => e = .returned (.agg #[.int .i64 0, .int .u64 0]) ∧ Below w.heap.size w w' := by
  have HA : Hid (isW x a = true) := ha
  have HB := HA
  clear ha
  go_enter Tryd.func14, Tryd.ntmps14
  go_wp2_with (first | (go_at_call 19; refine (isWordS _ _ _ (by first | exact HA.out | exact HB.out)).mono ?_; rintro e w' ⟨rfl, rfl⟩) | (go_at_call 9; refine (signedS _ _ _ (by first | exact HA.out | exact HB.out)).mono ?_; rintro e w' ⟨rfl, rfl⟩))
  exact bodyPost_ret (v := .agg #[.int .i64 0, .int .u64 0]) (by simp [results, Tryd.results14, go_sem]) rfl ⟨rfl, bel_alloc _ _⟩
set_option maxHeartbeats 1000000 in
theorem cs8_eq (x a : Int) (w : World) (ha : isW x a = true)   :
    Calls Tryd.prog 14 #[.int .i64 8, .int .i64 x, .int .u64 a, .int .u64 a] w fun e w' => e = .returned (.agg #[.int .i64 0, .int .u64 1]) ∧ Below w.heap.size w w' := by
  have HA : Hid (isW x a = true) := ha
  have HB := HA
  clear ha
  go_enter Tryd.func14, Tryd.ntmps14
  go_wp2_with (first | (go_at_call 19; refine (isWordS _ _ _ (by first | exact HA.out | exact HB.out)).mono ?_; rintro e w' ⟨rfl, rfl⟩) | (go_at_call 9; refine (signedS _ _ _ (by first | exact HA.out | exact HB.out)).mono ?_; rintro e w' ⟨rfl, rfl⟩))
  exact bodyPost_ret (v := .agg #[.int .i64 0, .int .u64 1]) (by simp [results, Tryd.results14, go_sem]) rfl ⟨rfl, bel_alloc _ _⟩
set_option maxHeartbeats 1000000 in
theorem cs9_eq (x a : Int) (w : World) (ha : isW x a = true)   :
    Calls Tryd.prog 14 #[.int .i64 9, .int .i64 x, .int .u64 a, .int .u64 a] w fun e w' => e = .returned (.agg #[.int .i64 0, .int .u64 0]) ∧ Below w.heap.size w w' := by
  have HA : Hid (isW x a = true) := ha
  have HB := HA
  clear ha
  go_enter Tryd.func14, Tryd.ntmps14
  go_wp2_with (first | (go_at_call 19; refine (isWordS _ _ _ (by first | exact HA.out | exact HB.out)).mono ?_; rintro e w' ⟨rfl, rfl⟩) | (go_at_call 9; refine (signedS _ _ _ (by first | exact HA.out | exact HB.out)).mono ?_; rintro e w' ⟨rfl, rfl⟩))
  exact bodyPost_ret (v := .agg #[.int .i64 0, .int .u64 0]) (by simp [results, Tryd.results14, go_sem]) rfl ⟨rfl, bel_alloc _ _⟩
set_option maxHeartbeats 1000000 in
theorem cs10_eq (x a : Int) (w : World) (ha : isW x a = true)   :
    Calls Tryd.prog 14 #[.int .i64 10, .int .i64 x, .int .u64 a, .int .u64 a] w fun e w' => e = .returned (.agg #[.int .i64 0, .int .u64 1]) ∧ Below w.heap.size w w' := by
  have HA : Hid (isW x a = true) := ha
  have HB := HA
  clear ha
  go_enter Tryd.func14, Tryd.ntmps14
  go_wp2_with (first | (go_at_call 19; refine (isWordS _ _ _ (by first | exact HA.out | exact HB.out)).mono ?_; rintro e w' ⟨rfl, rfl⟩) | (go_at_call 9; refine (signedS _ _ _ (by first | exact HA.out | exact HB.out)).mono ?_; rintro e w' ⟨rfl, rfl⟩))
  exact bodyPost_ret (v := .agg #[.int .i64 0, .int .u64 1]) (by simp [results, Tryd.results14, go_sem]) rfl ⟨rfl, bel_alloc _ _⟩
set_option maxHeartbeats 1000000 in
theorem cs1_gt (x a b : Int) (w : World) (ha : isW x a = true) (hb : isW x b = true) (h : b < a) :
    Calls Tryd.prog 14 #[.int .i64 1, .int .i64 x, .int .u64 a, .int .u64 b] w fun e w' => e = .returned (.agg #[.int .i64 0, .int .u64 0]) ∧ Below w.heap.size w w' := by
  have HA : Hid (isW x a = true) := ha
  have HB : Hid (isW x b = true) := hb
  have n1 : (a == b) = false := beq_eq_false_iff_ne.2 (by omega)
  have n2 : decide (a < b) = false := decide_eq_false (by omega)
  have n3 : (a != b) = true := by rw [bne_iff_ne]; exact beq_eq_false_iff_ne.1 n1
  clear ha hb
  go_enter Tryd.func14, Tryd.ntmps14
  go_wp2_with (first | (go_at_call 19; refine (isWordS _ _ _ (by first | exact HA.out | exact HB.out)).mono ?_; rintro e w' ⟨rfl, rfl⟩) | (go_at_call 9; refine (signedS _ _ _ (by first | exact HA.out | exact HB.out)).mono ?_; rintro e w' ⟨rfl, rfl⟩))
  exact bodyPost_ret (v := .agg #[.int .i64 0, .int .u64 0]) (by simp [results, Tryd.results14, go_sem]) rfl ⟨rfl, bel_alloc _ _⟩
set_option maxHeartbeats 1000000 in
theorem cs2_gt (x a b : Int) (w : World) (ha : isW x a = true) (hb : isW x b = true) (h : b < a) :
    Calls Tryd.prog 14 #[.int .i64 2, .int .i64 x, .int .u64 a, .int .u64 b] w fun e w' => e = .returned (.agg #[.int .i64 0, .int .u64 1]) ∧ Below w.heap.size w w' := by
  have HA : Hid (isW x a = true) := ha
  have HB : Hid (isW x b = true) := hb
  have n1 : (a == b) = false := beq_eq_false_iff_ne.2 (by omega)
  have n2 : decide (a < b) = false := decide_eq_false (by omega)
  have n3 : (a != b) = true := by rw [bne_iff_ne]; exact beq_eq_false_iff_ne.1 n1
  clear ha hb
  go_enter Tryd.func14, Tryd.ntmps14
  go_wp2_with (first | (go_at_call 19; refine (isWordS _ _ _ (by first | exact HA.out | exact HB.out)).mono ?_; rintro e w' ⟨rfl, rfl⟩) | (go_at_call 9; refine (signedS _ _ _ (by first | exact HA.out | exact HB.out)).mono ?_; rintro e w' ⟨rfl, rfl⟩))
  exact bodyPost_ret (v := .agg #[.int .i64 0, .int .u64 1]) (by simp [results, Tryd.results14, go_sem]) rfl ⟨rfl, bel_alloc _ _⟩
set_option maxHeartbeats 1000000 in
theorem cs3_gt (x a b : Int) (w : World) (ha : isW x a = true) (hb : isW x b = true) (h : b < a) :
    Calls Tryd.prog 14 #[.int .i64 3, .int .i64 x, .int .u64 a, .int .u64 b] w fun e w' => e = .returned (.agg #[.int .i64 0, .int .u64 0]) ∧ Below w.heap.size w w' := by
  have HA : Hid (isW x a = true) := ha
  have HB : Hid (isW x b = true) := hb
  have n1 : (a == b) = false := beq_eq_false_iff_ne.2 (by omega)
  have n2 : decide (a < b) = false := decide_eq_false (by omega)
  have n3 : (a != b) = true := by rw [bne_iff_ne]; exact beq_eq_false_iff_ne.1 n1
  clear ha hb
  go_enter Tryd.func14, Tryd.ntmps14
  go_wp2_with (first | (go_at_call 19; refine (isWordS _ _ _ (by first | exact HA.out | exact HB.out)).mono ?_; rintro e w' ⟨rfl, rfl⟩) | (go_at_call 9; refine (signedS _ _ _ (by first | exact HA.out | exact HB.out)).mono ?_; rintro e w' ⟨rfl, rfl⟩))
  exact bodyPost_ret (v := .agg #[.int .i64 0, .int .u64 0]) (by simp [results, Tryd.results14, go_sem]) rfl ⟨rfl, bel_alloc _ _⟩
set_option maxHeartbeats 1000000 in
theorem cs4_gt (x a b : Int) (w : World) (ha : isW x a = true) (hb : isW x b = true) (h : b < a) :
    Calls Tryd.prog 14 #[.int .i64 4, .int .i64 x, .int .u64 a, .int .u64 b] w fun e w' => e = .returned (.agg #[.int .i64 0, .int .u64 0]) ∧ Below w.heap.size w w' := by
  have HA : Hid (isW x a = true) := ha
  have HB : Hid (isW x b = true) := hb
  have n1 : (a == b) = false := beq_eq_false_iff_ne.2 (by omega)
  have n2 : decide (a < b) = false := decide_eq_false (by omega)
  have n3 : (a != b) = true := by rw [bne_iff_ne]; exact beq_eq_false_iff_ne.1 n1
  clear ha hb
  go_enter Tryd.func14, Tryd.ntmps14
  go_wp2_with (first | (go_at_call 19; refine (isWordS _ _ _ (by first | exact HA.out | exact HB.out)).mono ?_; rintro e w' ⟨rfl, rfl⟩) | (go_at_call 9; refine (signedS _ _ _ (by first | exact HA.out | exact HB.out)).mono ?_; rintro e w' ⟨rfl, rfl⟩))
  exact bodyPost_ret (v := .agg #[.int .i64 0, .int .u64 0]) (by simp [results, Tryd.results14, go_sem]) rfl ⟨rfl, bel_alloc _ _⟩
set_option maxHeartbeats 1000000 in
theorem cs5_gt (x a b : Int) (w : World) (ha : isW x a = true) (hb : isW x b = true) (h : b < a) :
    Calls Tryd.prog 14 #[.int .i64 5, .int .i64 x, .int .u64 a, .int .u64 b] w fun e w' => e = .returned (.agg #[.int .i64 0, .int .u64 1]) ∧ Below w.heap.size w w' := by
  have HA : Hid (isW x a = true) := ha
  have HB : Hid (isW x b = true) := hb
  have n1 : (a == b) = false := beq_eq_false_iff_ne.2 (by omega)
  have n2 : decide (a < b) = false := decide_eq_false (by omega)
  have n3 : (a != b) = true := by rw [bne_iff_ne]; exact beq_eq_false_iff_ne.1 n1
  clear ha hb
  go_enter Tryd.func14, Tryd.ntmps14
  go_wp2_with (first | (go_at_call 19; refine (isWordS _ _ _ (by first | exact HA.out | exact HB.out)).mono ?_; rintro e w' ⟨rfl, rfl⟩) | (go_at_call 9; refine (signedS _ _ _ (by first | exact HA.out | exact HB.out)).mono ?_; rintro e w' ⟨rfl, rfl⟩))
  exact bodyPost_ret (v := .agg #[.int .i64 0, .int .u64 1]) (by simp [results, Tryd.results14, go_sem]) rfl ⟨rfl, bel_alloc _ _⟩
set_option maxHeartbeats 1000000 in
theorem cs6_gt (x a b : Int) (w : World) (ha : isW x a = true) (hb : isW x b = true) (h : b < a) :
    Calls Tryd.prog 14 #[.int .i64 6, .int .i64 x, .int .u64 a, .int .u64 b] w fun e w' => e = .returned (.agg #[.int .i64 0, .int .u64 1]) ∧ Below w.heap.size w w' := by
  have HA : Hid (isW x a = true) := ha
  have HB : Hid (isW x b = true) := hb
  have n1 : (a == b) = false := beq_eq_false_iff_ne.2 (by omega)
  have n2 : decide (a < b) = false := decide_eq_false (by omega)
  have n3 : (a != b) = true := by rw [bne_iff_ne]; exact beq_eq_false_iff_ne.1 n1
  clear ha hb
  go_enter Tryd.func14, Tryd.ntmps14
  go_wp2_with (first | (go_at_call 19; refine (isWordS _ _ _ (by first | exact HA.out | exact HB.out)).mono ?_; rintro e w' ⟨rfl, rfl⟩) | (go_at_call 9; refine (signedS _ _ _ (by first | exact HA.out | exact HB.out)).mono ?_; rintro e w' ⟨rfl, rfl⟩))
  exact bodyPost_ret (v := .agg #[.int .i64 0, .int .u64 1]) (by simp [results, Tryd.results14, go_sem]) rfl ⟨rfl, bel_alloc _ _⟩
set_option maxHeartbeats 1000000 in
theorem cs7_gt (x a b : Int) (w : World) (ha : isW x a = true) (hb : isW x b = true) (h : sgnI x b < sgnI x a) :
    Calls Tryd.prog 14 #[.int .i64 7, .int .i64 x, .int .u64 a, .int .u64 b] w fun e w' => e = .returned (.agg #[.int .i64 0, .int .u64 0]) ∧ Below w.heap.size w w' := by
  have HA : Hid (isW x a = true) := ha
  have HB : Hid (isW x b = true) := hb
  have n1 : (a == b) = false := beq_eq_false_iff_ne.2 (fun e => by rw [e] at h; omega)
  have n2 : decide (sgnI x a < sgnI x b) = false := decide_eq_false (by omega)
  have n3 : (a != b) = true := by rw [bne_iff_ne]; exact beq_eq_false_iff_ne.1 n1
  clear ha hb
  go_enter Tryd.func14, Tryd.ntmps14
  go_wp2_with (first | (go_at_call 19; refine (isWordS _ _ _ (by first | exact HA.out | exact HB.out)).mono ?_; rintro e w' ⟨rfl, rfl⟩) | (go_at_call 9; refine (signedS _ _ _ (by first | exact HA.out | exact HB.out)).mono ?_; rintro e w' ⟨rfl, rfl⟩))
  exact bodyPost_ret (v := .agg #[.int .i64 0, .int .u64 0]) (by simp [results, Tryd.results14, go_sem]) rfl ⟨rfl, bel_alloc _ _⟩
set_option maxHeartbeats 1000000 in
theorem cs8_gt (x a b : Int) (w : World) (ha : isW x a = true) (hb : isW x b = true) (h : sgnI x b < sgnI x a) :
    Calls Tryd.prog 14 #[.int .i64 8, .int .i64 x, .int .u64 a, .int .u64 b] w fun e w' => e = .returned (.agg #[.int .i64 0, .int .u64 0]) ∧ Below w.heap.size w w' := by
  have HA : Hid (isW x a = true) := ha
  have HB : Hid (isW x b = true) := hb
  have n1 : (a == b) = false := beq_eq_false_iff_ne.2 (fun e => by rw [e] at h; omega)
  have n2 : decide (sgnI x a < sgnI x b) = false := decide_eq_false (by omega)
  have n3 : (a != b) = true := by rw [bne_iff_ne]; exact beq_eq_false_iff_ne.1 n1
  clear ha hb
  go_enter Tryd.func14, Tryd.ntmps14
  go_wp2_with (first | (go_at_call 19; refine (isWordS _ _ _ (by first | exact HA.out | exact HB.out)).mono ?_; rintro e w' ⟨rfl, rfl⟩) | (go_at_call 9; refine (signedS _ _ _ (by first | exact HA.out | exact HB.out)).mono ?_; rintro e w' ⟨rfl, rfl⟩))
  exact bodyPost_ret (v := .agg #[.int .i64 0, .int .u64 0]) (by simp [results, Tryd.results14, go_sem]) rfl ⟨rfl, bel_alloc _ _⟩
set_option maxHeartbeats 1000000 in
theorem cs9_gt (x a b : Int) (w : World) (ha : isW x a = true) (hb : isW x b = true) (h : sgnI x b < sgnI x a) :
    Calls Tryd.prog 14 #[.int .i64 9, .int .i64 x, .int .u64 a, .int .u64 b] w fun e w' => e = .returned (.agg #[.int .i64 0, .int .u64 1]) ∧ Below w.heap.size w w' := by
  have HA : Hid (isW x a = true) := ha
  have HB : Hid (isW x b = true) := hb
  have n1 : (a == b) = false := beq_eq_false_iff_ne.2 (fun e => by rw [e] at h; omega)
  have n2 : decide (sgnI x a < sgnI x b) = false := decide_eq_false (by omega)
  have n3 : (a != b) = true := by rw [bne_iff_ne]; exact beq_eq_false_iff_ne.1 n1
  clear ha hb
  go_enter Tryd.func14, Tryd.ntmps14
  go_wp2_with (first | (go_at_call 19; refine (isWordS _ _ _ (by first | exact HA.out | exact HB.out)).mono ?_; rintro e w' ⟨rfl, rfl⟩) | (go_at_call 9; refine (signedS _ _ _ (by first | exact HA.out | exact HB.out)).mono ?_; rintro e w' ⟨rfl, rfl⟩))
  exact bodyPost_ret (v := .agg #[.int .i64 0, .int .u64 1]) (by simp [results, Tryd.results14, go_sem]) rfl ⟨rfl, bel_alloc _ _⟩
set_option maxHeartbeats 1000000 in
theorem cs10_gt (x a b : Int) (w : World) (ha : isW x a = true) (hb : isW x b = true) (h : sgnI x b < sgnI x a) :
    Calls Tryd.prog 14 #[.int .i64 10, .int .i64 x, .int .u64 a, .int .u64 b] w fun e w' => e = .returned (.agg #[.int .i64 0, .int .u64 1]) ∧ Below w.heap.size w w' := by
  have HA : Hid (isW x a = true) := ha
  have HB : Hid (isW x b = true) := hb
  have n1 : (a == b) = false := beq_eq_false_iff_ne.2 (fun e => by rw [e] at h; omega)
  have n2 : decide (sgnI x a < sgnI x b) = false := decide_eq_false (by omega)
  have n3 : (a != b) = true := by rw [bne_iff_ne]; exact beq_eq_false_iff_ne.1 n1
  clear ha hb
  go_enter Tryd.func14, Tryd.ntmps14
  go_wp2_with (first | (go_at_call 19; refine (isWordS _ _ _ (by first | exact HA.out | exact HB.out)).mono ?_; rintro e w' ⟨rfl, rfl⟩) | (go_at_call 9; refine (signedS _ _ _ (by first | exact HA.out | exact HB.out)).mono ?_; rintro e w' ⟨rfl, rfl⟩))
  exact bodyPost_ret (v := .agg #[.int .i64 0, .int .u64 1]) (by simp [results, Tryd.results14, go_sem]) rfl ⟨rfl, bel_alloc _ _⟩

theorem compare_spec (p x a b : Int) (w : World) (hp0 : 1 ≤ p) (hp1 : p ≤ 10) (ha : isW x a = true) (hb : isW x b = true) :
    Calls Tryd.prog 14 #[.int .i64 p, .int .i64 x, .int .u64 a, .int .u64 b] w fun e w' => e = .returned (.agg #[.int .i64 0, .int .u64 (bI (cmpI p x a b))]) ∧ Below w.heap.size w w' := by
  by_cases e : a = b
  · subst e
    rcases pred_cases hp0 hp1 with rfl | rfl | rfl | rfl | rfl | rfl | rfl | rfl | rfl | rfl
    · rw [show bI (cmpI 1 x a a) = 1 by simp [cmpI, bI]]
      exact cs1_eq x a w ha
    · rw [show bI (cmpI 2 x a a) = 0 by simp [cmpI, bI]]
      exact cs2_eq x a w ha
    · rw [show bI (cmpI 3 x a a) = 0 by simp [cmpI, bI]]
      exact cs3_eq x a w ha
    · rw [show bI (cmpI 4 x a a) = 1 by simp [cmpI, bI]]
      exact cs4_eq x a w ha
    · rw [show bI (cmpI 5 x a a) = 0 by simp [cmpI, bI]]
      exact cs5_eq x a w ha
    · rw [show bI (cmpI 6 x a a) = 1 by simp [cmpI, bI]]
      exact cs6_eq x a w ha
    · rw [show bI (cmpI 7 x a a) = 0 by simp [cmpI, bI]]
      exact cs7_eq x a w ha
    · rw [show bI (cmpI 8 x a a) = 1 by simp [cmpI, bI]]
      exact cs8_eq x a w ha
    · rw [show bI (cmpI 9 x a a) = 0 by simp [cmpI, bI]]
      exact cs9_eq x a w ha
    · rw [show bI (cmpI 10 x a a) = 1 by simp [cmpI, bI]]
      exact cs10_eq x a w ha
  · have ne : ¬ sgnI x a = sgnI x b := fun h => e (sgn_inj ha hb h)
    rcases pred_cases hp0 hp1 with rfl | rfl | rfl | rfl | rfl | rfl | rfl | rfl | rfl | rfl
    · by_cases l : a < b
      · have q1 : ¬ b < a := by omega
        have q2 : a ≤ b := by omega
        have q3 : ¬ b ≤ a := by omega
        rw [show bI (cmpI 1 x a b) = 0 by simp [cmpI, bI, e, l, q1, q2, q3]]
        exact cs1_lt x a b w ha hb l
      · have q1 : b < a := by omega
        have q2 : b ≤ a := by omega
        have q3 : ¬ a ≤ b := by omega
        rw [show bI (cmpI 1 x a b) = 0 by simp [cmpI, bI, e, l, q1, q2, q3]]
        exact cs1_gt x a b w ha hb q1
    · by_cases l : a < b
      · have q1 : ¬ b < a := by omega
        have q2 : a ≤ b := by omega
        have q3 : ¬ b ≤ a := by omega
        rw [show bI (cmpI 2 x a b) = 1 by simp [cmpI, bI, e, l, q1, q2, q3]]
        exact cs2_lt x a b w ha hb l
      · have q1 : b < a := by omega
        have q2 : b ≤ a := by omega
        have q3 : ¬ a ≤ b := by omega
        rw [show bI (cmpI 2 x a b) = 1 by simp [cmpI, bI, e, l, q1, q2, q3]]
        exact cs2_gt x a b w ha hb q1
    · by_cases l : a < b
      · have q1 : ¬ b < a := by omega
        have q2 : a ≤ b := by omega
        have q3 : ¬ b ≤ a := by omega
        rw [show bI (cmpI 3 x a b) = 1 by simp [cmpI, bI, e, l, q1, q2, q3]]
        exact cs3_lt x a b w ha hb l
      · have q1 : b < a := by omega
        have q2 : b ≤ a := by omega
        have q3 : ¬ a ≤ b := by omega
        rw [show bI (cmpI 3 x a b) = 0 by simp [cmpI, bI, e, l, q1, q2, q3]]
        exact cs3_gt x a b w ha hb q1
    · by_cases l : a < b
      · have q1 : ¬ b < a := by omega
        have q2 : a ≤ b := by omega
        have q3 : ¬ b ≤ a := by omega
        rw [show bI (cmpI 4 x a b) = 1 by simp [cmpI, bI, e, l, q1, q2, q3]]
        exact cs4_lt x a b w ha hb l
      · have q1 : b < a := by omega
        have q2 : b ≤ a := by omega
        have q3 : ¬ a ≤ b := by omega
        rw [show bI (cmpI 4 x a b) = 0 by simp [cmpI, bI, e, l, q1, q2, q3]]
        exact cs4_gt x a b w ha hb q1
    · by_cases l : a < b
      · have q1 : ¬ b < a := by omega
        have q2 : a ≤ b := by omega
        have q3 : ¬ b ≤ a := by omega
        rw [show bI (cmpI 5 x a b) = 0 by simp [cmpI, bI, e, l, q1, q2, q3]]
        exact cs5_lt x a b w ha hb l
      · have q1 : b < a := by omega
        have q2 : b ≤ a := by omega
        have q3 : ¬ a ≤ b := by omega
        rw [show bI (cmpI 5 x a b) = 1 by simp [cmpI, bI, e, l, q1, q2, q3]]
        exact cs5_gt x a b w ha hb q1
    · by_cases l : a < b
      · have q1 : ¬ b < a := by omega
        have q2 : a ≤ b := by omega
        have q3 : ¬ b ≤ a := by omega
        rw [show bI (cmpI 6 x a b) = 0 by simp [cmpI, bI, e, l, q1, q2, q3]]
        exact cs6_lt x a b w ha hb l
      · have q1 : b < a := by omega
        have q2 : b ≤ a := by omega
        have q3 : ¬ a ≤ b := by omega
        rw [show bI (cmpI 6 x a b) = 1 by simp [cmpI, bI, e, l, q1, q2, q3]]
        exact cs6_gt x a b w ha hb q1
    · by_cases l : sgnI x a < sgnI x b
      · have q1 : ¬ sgnI x b < sgnI x a := by omega
        have q2 : sgnI x a ≤ sgnI x b := by omega
        have q3 : ¬ sgnI x b ≤ sgnI x a := by omega
        rw [show bI (cmpI 7 x a b) = 1 by simp [cmpI, bI, e, l, q1, q2, q3]]
        exact cs7_lt x a b w ha hb l
      · have q1 : sgnI x b < sgnI x a := by omega
        have q2 : sgnI x b ≤ sgnI x a := by omega
        have q3 : ¬ sgnI x a ≤ sgnI x b := by omega
        rw [show bI (cmpI 7 x a b) = 0 by simp [cmpI, bI, e, l, q1, q2, q3]]
        exact cs7_gt x a b w ha hb q1
    · by_cases l : sgnI x a < sgnI x b
      · have q1 : ¬ sgnI x b < sgnI x a := by omega
        have q2 : sgnI x a ≤ sgnI x b := by omega
        have q3 : ¬ sgnI x b ≤ sgnI x a := by omega
        rw [show bI (cmpI 8 x a b) = 1 by simp [cmpI, bI, e, l, q1, q2, q3]]
        exact cs8_lt x a b w ha hb l
      · have q1 : sgnI x b < sgnI x a := by omega
        have q2 : sgnI x b ≤ sgnI x a := by omega
        have q3 : ¬ sgnI x a ≤ sgnI x b := by omega
        rw [show bI (cmpI 8 x a b) = 0 by simp [cmpI, bI, e, l, q1, q2, q3]]
        exact cs8_gt x a b w ha hb q1
    · by_cases l : sgnI x a < sgnI x b
      · have q1 : ¬ sgnI x b < sgnI x a := by omega
        have q2 : sgnI x a ≤ sgnI x b := by omega
        have q3 : ¬ sgnI x b ≤ sgnI x a := by omega
        rw [show bI (cmpI 9 x a b) = 0 by simp [cmpI, bI, e, l, q1, q2, q3]]
        exact cs9_lt x a b w ha hb l
      · have q1 : sgnI x b < sgnI x a := by omega
        have q2 : sgnI x b ≤ sgnI x a := by omega
        have q3 : ¬ sgnI x a ≤ sgnI x b := by omega
        rw [show bI (cmpI 9 x a b) = 1 by simp [cmpI, bI, e, l, q1, q2, q3]]
        exact cs9_gt x a b w ha hb q1
    · by_cases l : sgnI x a < sgnI x b
      · have q1 : ¬ sgnI x b < sgnI x a := by omega
        have q2 : sgnI x a ≤ sgnI x b := by omega
        have q3 : ¬ sgnI x b ≤ sgnI x a := by omega
        rw [show bI (cmpI 10 x a b) = 0 by simp [cmpI, bI, e, l, q1, q2, q3]]
        exact cs10_lt x a b w ha hb l
      · have q1 : sgnI x b < sgnI x a := by omega
        have q2 : sgnI x b ≤ sgnI x a := by omega
        have q3 : ¬ sgnI x a ≤ sgnI x b := by omega
        rw [show bI (cmpI 10 x a b) = 1 by simp [cmpI, bI, e, l, q1, q2, q3]]
        exact cs10_gt x a b w ha hb q1

end Go.Proofs.YtedlghmjfaflcabDoor
