/- Contracts over one translation: the specification's shifts answer what the program's answer. -/
import Derived.Test.YtmkhkgliipalaabDoorSp8
namespace Go.Proofs.YtmkhkgliipalaabDoor
open Go.ChangeShapes Go.WideShapes Go.ChangeAt Go.RowKit
set_option linter.unusedVariables false
set_option linter.unusedSimpArgs false
theorem shS (op x a n : Int) (w : World) (ho : op = 8 ∨ op = 9 ∨ op = 10) (ha : isW x a = true) (n0 : 0 ≤ n) (n1 : n ≤ 63) :
    Calls Tryd.prog 28 #[.int .i64 op, .int .i64 x, .int .u64 a, .int .i64 n] w fun e w' => e = .returned (.int .u64 (shI op x a n)) ∧ w' = w := by
  rcases ho with rfl | rfl | rfl
  · exact shifted_spec8 x a n w ha n0 n1
  · exact shifted_spec9 x a n w ha n0 n1
  · exact shifted_spec10 x a n w ha n0 n1
set_option maxHeartbeats 1000000 in
theorem shS_far (op fl x a b : Int) (w : World) (hx : vw x = true) (hf : x ≤ b) :
    Calls Tryd.prog 11 #[.int .i64 op, .int .i64 fl, .int .i64 x, .int .u64 a, .int .u64 b] w fun e w' => e = .returned (.agg #[.int .i64 1, .int .u64 0]) ∧ Below w.heap.size w w' := by
  rcases vw_cases hx with rfl | rfl | rfl | rfl | rfl
  all_goals
    clear hx
    go_enter Tryd.func11, Tryd.ntmps11
    go_wp2_with fail
    exact bodyPost_ret (v := .agg #[.int .i64 1, .int .u64 0]) (by simp [results, Tryd.results11, go_sem]) rfl ⟨rfl, bel_alloc _ _⟩

set_option maxRecDepth 100000 in
set_option maxHeartbeats 2000000 in
theorem sLp1 (fl x a b : Int) (w : World) (ha : isW x a = true) (b0 : 0 ≤ b) (hf : b < x) (ks : (bits BinOp.and IntKind.i64 fl 1 != 0) = true) (e1 : (shI 10 x (shI 8 x a b) b != a) = true) :
    Calls Tryd.prog 11 #[.int .i64 8, .int .i64 fl, .int .i64 x, .int .u64 a, .int .u64 b] w fun e w' => e = .returned (.agg #[.int .i64 1, .int .u64 (0)]) ∧ Below w.heap.size w w' := by
  have HX := isW_vw ha
  have HA : Hid (isW x a = true) := ha
  have HV : Hid (isW x (shI 8 x a b) = true) := isW_sh (by decide) ha
  have b1 : b ≤ 63 := by rcases vw_cases HX with rfl | rfl | rfl | rfl | rfl <;> omega
  have HX' : Hid (vw x = true) := HX
  clear ha HX
  rcases vw_cases HX'.out with rfl | rfl | rfl | rfl | rfl
  all_goals
    clear HX'
    go_enter Tryd.func11, Tryd.ntmps11
    go_wp2_with (first | (go_at_call 28; refine (shS _ _ _ _ _ (by decide) (by first | exact HA.out | exact HV.out) b0 b1).mono ?_; rintro e w' ⟨rfl, rfl⟩))
    exact bodyPost_ret (v := .agg #[.int .i64 1, .int .u64 (0)]) (by simp [results, Tryd.results11, go_sem]) rfl ⟨rfl, bel_alloc _ _⟩
set_option maxRecDepth 100000 in
set_option maxHeartbeats 2000000 in
theorem sLp2 (fl x a b : Int) (w : World) (ha : isW x a = true) (b0 : 0 ≤ b) (hf : b < x) (ks : (bits BinOp.and IntKind.i64 fl 1 != 0) = true) (e1 : (shI 10 x (shI 8 x a b) b != a) = false) (ku : (bits BinOp.and IntKind.i64 fl 2 != 0) = true) (e2 : (shI 9 x (shI 8 x a b) b != a) = true) :
    Calls Tryd.prog 11 #[.int .i64 8, .int .i64 fl, .int .i64 x, .int .u64 a, .int .u64 b] w fun e w' => e = .returned (.agg #[.int .i64 1, .int .u64 (0)]) ∧ Below w.heap.size w w' := by
  have HX := isW_vw ha
  have HA : Hid (isW x a = true) := ha
  have HV : Hid (isW x (shI 8 x a b) = true) := isW_sh (by decide) ha
  have b1 : b ≤ 63 := by rcases vw_cases HX with rfl | rfl | rfl | rfl | rfl <;> omega
  have HX' : Hid (vw x = true) := HX
  clear ha HX
  rcases vw_cases HX'.out with rfl | rfl | rfl | rfl | rfl
  all_goals
    clear HX'
    go_enter Tryd.func11, Tryd.ntmps11
    go_wp2_with (first | (go_at_call 28; refine (shS _ _ _ _ _ (by decide) (by first | exact HA.out | exact HV.out) b0 b1).mono ?_; rintro e w' ⟨rfl, rfl⟩))
    exact bodyPost_ret (v := .agg #[.int .i64 1, .int .u64 (0)]) (by simp [results, Tryd.results11, go_sem]) rfl ⟨rfl, bel_alloc _ _⟩
set_option maxRecDepth 100000 in
set_option maxHeartbeats 2000000 in
theorem sLp3 (fl x a b : Int) (w : World) (ha : isW x a = true) (b0 : 0 ≤ b) (hf : b < x) (ks : (bits BinOp.and IntKind.i64 fl 1 != 0) = false) (ku : (bits BinOp.and IntKind.i64 fl 2 != 0) = true) (e2 : (shI 9 x (shI 8 x a b) b != a) = true) :
    Calls Tryd.prog 11 #[.int .i64 8, .int .i64 fl, .int .i64 x, .int .u64 a, .int .u64 b] w fun e w' => e = .returned (.agg #[.int .i64 1, .int .u64 (0)]) ∧ Below w.heap.size w w' := by
  have HX := isW_vw ha
  have HA : Hid (isW x a = true) := ha
  have HV : Hid (isW x (shI 8 x a b) = true) := isW_sh (by decide) ha
  have b1 : b ≤ 63 := by rcases vw_cases HX with rfl | rfl | rfl | rfl | rfl <;> omega
  have HX' : Hid (vw x = true) := HX
  clear ha HX
  rcases vw_cases HX'.out with rfl | rfl | rfl | rfl | rfl
  all_goals
    clear HX'
    go_enter Tryd.func11, Tryd.ntmps11
    go_wp2_with (first | (go_at_call 28; refine (shS _ _ _ _ _ (by decide) (by first | exact HA.out | exact HV.out) b0 b1).mono ?_; rintro e w' ⟨rfl, rfl⟩))
    exact bodyPost_ret (v := .agg #[.int .i64 1, .int .u64 (0)]) (by simp [results, Tryd.results11, go_sem]) rfl ⟨rfl, bel_alloc _ _⟩
set_option maxRecDepth 100000 in
set_option maxHeartbeats 2000000 in
theorem sLo1 (fl x a b : Int) (w : World) (ha : isW x a = true) (b0 : 0 ≤ b) (hf : b < x) (ks : (bits BinOp.and IntKind.i64 fl 1 != 0) = true) (e1 : (shI 10 x (shI 8 x a b) b != a) = false) (ku : (bits BinOp.and IntKind.i64 fl 2 != 0) = true) (e2 : (shI 9 x (shI 8 x a b) b != a) = false) (ke : (bits BinOp.and IntKind.i64 fl 4 != 0) = false) :
    Calls Tryd.prog 11 #[.int .i64 8, .int .i64 fl, .int .i64 x, .int .u64 a, .int .u64 b] w fun e w' => e = .returned (.agg #[.int .i64 0, .int .u64 (shI 8 x a b)]) ∧ Below w.heap.size w w' := by
  have HX := isW_vw ha
  have HA : Hid (isW x a = true) := ha
  have HV : Hid (isW x (shI 8 x a b) = true) := isW_sh (by decide) ha
  have b1 : b ≤ 63 := by rcases vw_cases HX with rfl | rfl | rfl | rfl | rfl <;> omega
  have HX' : Hid (vw x = true) := HX
  clear ha HX
  rcases vw_cases HX'.out with rfl | rfl | rfl | rfl | rfl
  all_goals
    clear HX'
    go_enter Tryd.func11, Tryd.ntmps11
    go_wp2_with (first | (go_at_call 28; refine (shS _ _ _ _ _ (by decide) (by first | exact HA.out | exact HV.out) b0 b1).mono ?_; rintro e w' ⟨rfl, rfl⟩))
    exact bodyPost_ret (v := .agg #[.int .i64 0, .int .u64 (shI 8 _ a b)]) (by simp [results, Tryd.results11, go_sem]) rfl ⟨rfl, bel_alloc _ _⟩
set_option maxRecDepth 100000 in
set_option maxHeartbeats 2000000 in
theorem sLo2 (fl x a b : Int) (w : World) (ha : isW x a = true) (b0 : 0 ≤ b) (hf : b < x) (ks : (bits BinOp.and IntKind.i64 fl 1 != 0) = false) (ku : (bits BinOp.and IntKind.i64 fl 2 != 0) = true) (e2 : (shI 9 x (shI 8 x a b) b != a) = false) (ke : (bits BinOp.and IntKind.i64 fl 4 != 0) = false) :
    Calls Tryd.prog 11 #[.int .i64 8, .int .i64 fl, .int .i64 x, .int .u64 a, .int .u64 b] w fun e w' => e = .returned (.agg #[.int .i64 0, .int .u64 (shI 8 x a b)]) ∧ Below w.heap.size w w' := by
  have HX := isW_vw ha
  have HA : Hid (isW x a = true) := ha
  have HV : Hid (isW x (shI 8 x a b) = true) := isW_sh (by decide) ha
  have b1 : b ≤ 63 := by rcases vw_cases HX with rfl | rfl | rfl | rfl | rfl <;> omega
  have HX' : Hid (vw x = true) := HX
  clear ha HX
  rcases vw_cases HX'.out with rfl | rfl | rfl | rfl | rfl
  all_goals
    clear HX'
    go_enter Tryd.func11, Tryd.ntmps11
    go_wp2_with (first | (go_at_call 28; refine (shS _ _ _ _ _ (by decide) (by first | exact HA.out | exact HV.out) b0 b1).mono ?_; rintro e w' ⟨rfl, rfl⟩))
    exact bodyPost_ret (v := .agg #[.int .i64 0, .int .u64 (shI 8 _ a b)]) (by simp [results, Tryd.results11, go_sem]) rfl ⟨rfl, bel_alloc _ _⟩
set_option maxRecDepth 100000 in
set_option maxHeartbeats 2000000 in
theorem sLo3 (fl x a b : Int) (w : World) (ha : isW x a = true) (b0 : 0 ≤ b) (hf : b < x) (ks : (bits BinOp.and IntKind.i64 fl 1 != 0) = true) (e1 : (shI 10 x (shI 8 x a b) b != a) = false) (ku : (bits BinOp.and IntKind.i64 fl 2 != 0) = false) (ke : (bits BinOp.and IntKind.i64 fl 4 != 0) = false) :
    Calls Tryd.prog 11 #[.int .i64 8, .int .i64 fl, .int .i64 x, .int .u64 a, .int .u64 b] w fun e w' => e = .returned (.agg #[.int .i64 0, .int .u64 (shI 8 x a b)]) ∧ Below w.heap.size w w' := by
  have HX := isW_vw ha
  have HA : Hid (isW x a = true) := ha
  have HV : Hid (isW x (shI 8 x a b) = true) := isW_sh (by decide) ha
  have b1 : b ≤ 63 := by rcases vw_cases HX with rfl | rfl | rfl | rfl | rfl <;> omega
  have HX' : Hid (vw x = true) := HX
  clear ha HX
  rcases vw_cases HX'.out with rfl | rfl | rfl | rfl | rfl
  all_goals
    clear HX'
    go_enter Tryd.func11, Tryd.ntmps11
    go_wp2_with (first | (go_at_call 28; refine (shS _ _ _ _ _ (by decide) (by first | exact HA.out | exact HV.out) b0 b1).mono ?_; rintro e w' ⟨rfl, rfl⟩))
    exact bodyPost_ret (v := .agg #[.int .i64 0, .int .u64 (shI 8 _ a b)]) (by simp [results, Tryd.results11, go_sem]) rfl ⟨rfl, bel_alloc _ _⟩
set_option maxRecDepth 100000 in
set_option maxHeartbeats 2000000 in
theorem sLo4 (fl x a b : Int) (w : World) (ha : isW x a = true) (b0 : 0 ≤ b) (hf : b < x) (ks : (bits BinOp.and IntKind.i64 fl 1 != 0) = false) (ku : (bits BinOp.and IntKind.i64 fl 2 != 0) = false) (ke : (bits BinOp.and IntKind.i64 fl 4 != 0) = false) :
    Calls Tryd.prog 11 #[.int .i64 8, .int .i64 fl, .int .i64 x, .int .u64 a, .int .u64 b] w fun e w' => e = .returned (.agg #[.int .i64 0, .int .u64 (shI 8 x a b)]) ∧ Below w.heap.size w w' := by
  have HX := isW_vw ha
  have HA : Hid (isW x a = true) := ha
  have HV : Hid (isW x (shI 8 x a b) = true) := isW_sh (by decide) ha
  have b1 : b ≤ 63 := by rcases vw_cases HX with rfl | rfl | rfl | rfl | rfl <;> omega
  have HX' : Hid (vw x = true) := HX
  clear ha HX
  rcases vw_cases HX'.out with rfl | rfl | rfl | rfl | rfl
  all_goals
    clear HX'
    go_enter Tryd.func11, Tryd.ntmps11
    go_wp2_with (first | (go_at_call 28; refine (shS _ _ _ _ _ (by decide) (by first | exact HA.out | exact HV.out) b0 b1).mono ?_; rintro e w' ⟨rfl, rfl⟩))
    exact bodyPost_ret (v := .agg #[.int .i64 0, .int .u64 (shI 8 _ a b)]) (by simp [results, Tryd.results11, go_sem]) rfl ⟨rfl, bel_alloc _ _⟩
set_option maxRecDepth 100000 in
set_option maxHeartbeats 2000000 in
theorem sRp_9 (fl x a b : Int) (w : World) (ha : isW x a = true) (b0 : 0 ≤ b) (hf : b < x) (ks : (bits BinOp.and IntKind.i64 fl 1 != 0) = false) (ku : (bits BinOp.and IntKind.i64 fl 2 != 0) = false) (ke : (bits BinOp.and IntKind.i64 fl 4 != 0) = true) (e1 : (shI 8 x (shI 9 x a b) b != a) = true) :
    Calls Tryd.prog 11 #[.int .i64 9, .int .i64 fl, .int .i64 x, .int .u64 a, .int .u64 b] w fun e w' => e = .returned (.agg #[.int .i64 1, .int .u64 (0)]) ∧ Below w.heap.size w w' := by
  have HX := isW_vw ha
  have HA : Hid (isW x a = true) := ha
  have HV : Hid (isW x (shI 9 x a b) = true) := isW_sh (by decide) ha
  have b1 : b ≤ 63 := by rcases vw_cases HX with rfl | rfl | rfl | rfl | rfl <;> omega
  have HX' : Hid (vw x = true) := HX
  clear ha HX
  rcases vw_cases HX'.out with rfl | rfl | rfl | rfl | rfl
  all_goals
    clear HX'
    go_enter Tryd.func11, Tryd.ntmps11
    go_wp2_with (first | (go_at_call 28; refine (shS _ _ _ _ _ (by decide) (by first | exact HA.out | exact HV.out) b0 b1).mono ?_; rintro e w' ⟨rfl, rfl⟩))
    exact bodyPost_ret (v := .agg #[.int .i64 1, .int .u64 (0)]) (by simp [results, Tryd.results11, go_sem]) rfl ⟨rfl, bel_alloc _ _⟩
set_option maxRecDepth 100000 in
set_option maxHeartbeats 2000000 in
theorem sRo1_9 (fl x a b : Int) (w : World) (ha : isW x a = true) (b0 : 0 ≤ b) (hf : b < x) (ks : (bits BinOp.and IntKind.i64 fl 1 != 0) = false) (ku : (bits BinOp.and IntKind.i64 fl 2 != 0) = false) (ke : (bits BinOp.and IntKind.i64 fl 4 != 0) = true) (e1 : (shI 8 x (shI 9 x a b) b != a) = false) :
    Calls Tryd.prog 11 #[.int .i64 9, .int .i64 fl, .int .i64 x, .int .u64 a, .int .u64 b] w fun e w' => e = .returned (.agg #[.int .i64 0, .int .u64 (shI 9 x a b)]) ∧ Below w.heap.size w w' := by
  have HX := isW_vw ha
  have HA : Hid (isW x a = true) := ha
  have HV : Hid (isW x (shI 9 x a b) = true) := isW_sh (by decide) ha
  have b1 : b ≤ 63 := by rcases vw_cases HX with rfl | rfl | rfl | rfl | rfl <;> omega
  have HX' : Hid (vw x = true) := HX
  clear ha HX
  rcases vw_cases HX'.out with rfl | rfl | rfl | rfl | rfl
  all_goals
    clear HX'
    go_enter Tryd.func11, Tryd.ntmps11
    go_wp2_with (first | (go_at_call 28; refine (shS _ _ _ _ _ (by decide) (by first | exact HA.out | exact HV.out) b0 b1).mono ?_; rintro e w' ⟨rfl, rfl⟩))
    exact bodyPost_ret (v := .agg #[.int .i64 0, .int .u64 (shI 9 _ a b)]) (by simp [results, Tryd.results11, go_sem]) rfl ⟨rfl, bel_alloc _ _⟩
set_option maxRecDepth 100000 in
set_option maxHeartbeats 2000000 in
theorem sRo2_9 (fl x a b : Int) (w : World) (ha : isW x a = true) (b0 : 0 ≤ b) (hf : b < x) (ks : (bits BinOp.and IntKind.i64 fl 1 != 0) = false) (ku : (bits BinOp.and IntKind.i64 fl 2 != 0) = false) (ke : (bits BinOp.and IntKind.i64 fl 4 != 0) = false) :
    Calls Tryd.prog 11 #[.int .i64 9, .int .i64 fl, .int .i64 x, .int .u64 a, .int .u64 b] w fun e w' => e = .returned (.agg #[.int .i64 0, .int .u64 (shI 9 x a b)]) ∧ Below w.heap.size w w' := by
  have HX := isW_vw ha
  have HA : Hid (isW x a = true) := ha
  have HV : Hid (isW x (shI 9 x a b) = true) := isW_sh (by decide) ha
  have b1 : b ≤ 63 := by rcases vw_cases HX with rfl | rfl | rfl | rfl | rfl <;> omega
  have HX' : Hid (vw x = true) := HX
  clear ha HX
  rcases vw_cases HX'.out with rfl | rfl | rfl | rfl | rfl
  all_goals
    clear HX'
    go_enter Tryd.func11, Tryd.ntmps11
    go_wp2_with (first | (go_at_call 28; refine (shS _ _ _ _ _ (by decide) (by first | exact HA.out | exact HV.out) b0 b1).mono ?_; rintro e w' ⟨rfl, rfl⟩))
    exact bodyPost_ret (v := .agg #[.int .i64 0, .int .u64 (shI 9 _ a b)]) (by simp [results, Tryd.results11, go_sem]) rfl ⟨rfl, bel_alloc _ _⟩
set_option maxRecDepth 100000 in
set_option maxHeartbeats 2000000 in
theorem sRp_10 (fl x a b : Int) (w : World) (ha : isW x a = true) (b0 : 0 ≤ b) (hf : b < x) (ks : (bits BinOp.and IntKind.i64 fl 1 != 0) = false) (ku : (bits BinOp.and IntKind.i64 fl 2 != 0) = false) (ke : (bits BinOp.and IntKind.i64 fl 4 != 0) = true) (e1 : (shI 8 x (shI 10 x a b) b != a) = true) :
    Calls Tryd.prog 11 #[.int .i64 10, .int .i64 fl, .int .i64 x, .int .u64 a, .int .u64 b] w fun e w' => e = .returned (.agg #[.int .i64 1, .int .u64 (0)]) ∧ Below w.heap.size w w' := by
  have HX := isW_vw ha
  have HA : Hid (isW x a = true) := ha
  have HV : Hid (isW x (shI 10 x a b) = true) := isW_sh (by decide) ha
  have b1 : b ≤ 63 := by rcases vw_cases HX with rfl | rfl | rfl | rfl | rfl <;> omega
  have HX' : Hid (vw x = true) := HX
  clear ha HX
  rcases vw_cases HX'.out with rfl | rfl | rfl | rfl | rfl
  all_goals
    clear HX'
    go_enter Tryd.func11, Tryd.ntmps11
    go_wp2_with (first | (go_at_call 28; refine (shS _ _ _ _ _ (by decide) (by first | exact HA.out | exact HV.out) b0 b1).mono ?_; rintro e w' ⟨rfl, rfl⟩))
    exact bodyPost_ret (v := .agg #[.int .i64 1, .int .u64 (0)]) (by simp [results, Tryd.results11, go_sem]) rfl ⟨rfl, bel_alloc _ _⟩
set_option maxRecDepth 100000 in
set_option maxHeartbeats 2000000 in
theorem sRo1_10 (fl x a b : Int) (w : World) (ha : isW x a = true) (b0 : 0 ≤ b) (hf : b < x) (ks : (bits BinOp.and IntKind.i64 fl 1 != 0) = false) (ku : (bits BinOp.and IntKind.i64 fl 2 != 0) = false) (ke : (bits BinOp.and IntKind.i64 fl 4 != 0) = true) (e1 : (shI 8 x (shI 10 x a b) b != a) = false) :
    Calls Tryd.prog 11 #[.int .i64 10, .int .i64 fl, .int .i64 x, .int .u64 a, .int .u64 b] w fun e w' => e = .returned (.agg #[.int .i64 0, .int .u64 (shI 10 x a b)]) ∧ Below w.heap.size w w' := by
  have HX := isW_vw ha
  have HA : Hid (isW x a = true) := ha
  have HV : Hid (isW x (shI 10 x a b) = true) := isW_sh (by decide) ha
  have b1 : b ≤ 63 := by rcases vw_cases HX with rfl | rfl | rfl | rfl | rfl <;> omega
  have HX' : Hid (vw x = true) := HX
  clear ha HX
  rcases vw_cases HX'.out with rfl | rfl | rfl | rfl | rfl
  all_goals
    clear HX'
    go_enter Tryd.func11, Tryd.ntmps11
    go_wp2_with (first | (go_at_call 28; refine (shS _ _ _ _ _ (by decide) (by first | exact HA.out | exact HV.out) b0 b1).mono ?_; rintro e w' ⟨rfl, rfl⟩))
    exact bodyPost_ret (v := .agg #[.int .i64 0, .int .u64 (shI 10 _ a b)]) (by simp [results, Tryd.results11, go_sem]) rfl ⟨rfl, bel_alloc _ _⟩
set_option maxRecDepth 100000 in
set_option maxHeartbeats 2000000 in
theorem sRo2_10 (fl x a b : Int) (w : World) (ha : isW x a = true) (b0 : 0 ≤ b) (hf : b < x) (ks : (bits BinOp.and IntKind.i64 fl 1 != 0) = false) (ku : (bits BinOp.and IntKind.i64 fl 2 != 0) = false) (ke : (bits BinOp.and IntKind.i64 fl 4 != 0) = false) :
    Calls Tryd.prog 11 #[.int .i64 10, .int .i64 fl, .int .i64 x, .int .u64 a, .int .u64 b] w fun e w' => e = .returned (.agg #[.int .i64 0, .int .u64 (shI 10 x a b)]) ∧ Below w.heap.size w w' := by
  have HX := isW_vw ha
  have HA : Hid (isW x a = true) := ha
  have HV : Hid (isW x (shI 10 x a b) = true) := isW_sh (by decide) ha
  have b1 : b ≤ 63 := by rcases vw_cases HX with rfl | rfl | rfl | rfl | rfl <;> omega
  have HX' : Hid (vw x = true) := HX
  clear ha HX
  rcases vw_cases HX'.out with rfl | rfl | rfl | rfl | rfl
  all_goals
    clear HX'
    go_enter Tryd.func11, Tryd.ntmps11
    go_wp2_with (first | (go_at_call 28; refine (shS _ _ _ _ _ (by decide) (by first | exact HA.out | exact HV.out) b0 b1).mono ?_; rintro e w' ⟨rfl, rfl⟩))
    exact bodyPost_ret (v := .agg #[.int .i64 0, .int .u64 (shI 10 _ a b)]) (by simp [results, Tryd.results11, go_sem]) rfl ⟨rfl, bel_alloc _ _⟩
/-- THE SHIFT TO THE LEFT: what the specification answers the program answers. -/
theorem shL_same (fl x a b : Int) (ha : isW x a = true) (hb : isW x b = true) (ke : (bits BinOp.and IntKind.i64 fl 4 != 0) = false) : ∃ c v : Int,
    (∀ w, Calls Tryd.prog 11 #[.int .i64 8, .int .i64 fl, .int .i64 x, .int .u64 a, .int .u64 b] w fun e w' => e = .returned (.agg #[.int .i64 c, .int .u64 v]) ∧ Below w.heap.size w w') ∧
    (∀ w, Wid w → Calls Tryd.prog 18 #[.int .i64 fl, .int .i64 x, .int .u64 a, .int .u64 b] w fun e w' => e = .returned (.agg #[.int .i64 c, .int .u64 v]) ∧ Below w.heap.size w w') := by
  have b0 := (u64_bd hb).1
  by_cases hf : x ≤ b
  · exact ⟨1, 0, fun w => shS_far 8 fl x a b w (isW_vw ha) hf, fun w hw => shL_far fl x a b w (isW_vw ha) hf⟩
  · have hf' : b < x := by omega
    cases ks : (bits BinOp.and IntKind.i64 fl 1 != 0) <;> cases ku : (bits BinOp.and IntKind.i64 fl 2 != 0)
    · exact ⟨0, shI 8 x a b, fun w => sLo4 fl x a b w ha b0 hf' ks ku ke, fun w hw => shL_o4 fl x a b w hw ha b0 hf' ks ku⟩
    · cases e2 : (shI 9 x (shI 8 x a b) b != a)
      · exact ⟨0, shI 8 x a b, fun w => sLo2 fl x a b w ha b0 hf' ks ku e2 ke, fun w hw => shL_o2 fl x a b w hw ha b0 hf' ks ku e2⟩
      · exact ⟨1, 0, fun w => sLp3 fl x a b w ha b0 hf' ks ku e2, fun w hw => shL_p3 fl x a b w hw ha b0 hf' ks ku e2⟩
    · cases e1 : (shI 10 x (shI 8 x a b) b != a)
      · exact ⟨0, shI 8 x a b, fun w => sLo3 fl x a b w ha b0 hf' ks e1 ku ke, fun w hw => shL_o3 fl x a b w hw ha b0 hf' ks e1 ku⟩
      · exact ⟨1, 0, fun w => sLp1 fl x a b w ha b0 hf' ks e1, fun w hw => shL_p1 fl x a b w hw ha b0 hf' ks e1⟩
    · cases e1 : (shI 10 x (shI 8 x a b) b != a)
      · cases e2 : (shI 9 x (shI 8 x a b) b != a)
        · exact ⟨0, shI 8 x a b, fun w => sLo1 fl x a b w ha b0 hf' ks e1 ku e2 ke, fun w hw => shL_o1 fl x a b w hw ha b0 hf' ks e1 ku e2⟩
        · exact ⟨1, 0, fun w => sLp2 fl x a b w ha b0 hf' ks e1 ku e2, fun w hw => shL_p2 fl x a b w hw ha b0 hf' ks e1 ku e2⟩
      · exact ⟨1, 0, fun w => sLp1 fl x a b w ha b0 hf' ks e1, fun w hw => shL_p1 fl x a b w hw ha b0 hf' ks e1⟩
/-- THE SHIFTS TO THE RIGHT. -/
theorem shR_same (op fl x a b : Int) (ho : op = 9 ∨ op = 10) (ha : isW x a = true) (hb : isW x b = true) (ks : (bits BinOp.and IntKind.i64 fl 1 != 0) = false) (ku : (bits BinOp.and IntKind.i64 fl 2 != 0) = false) : ∃ c v : Int,
    (∀ w, Calls Tryd.prog 11 #[.int .i64 op, .int .i64 fl, .int .i64 x, .int .u64 a, .int .u64 b] w fun e w' => e = .returned (.agg #[.int .i64 c, .int .u64 v]) ∧ Below w.heap.size w w') ∧
    (∀ w, Wid w → Calls Tryd.prog 19 #[.int .i64 op, .int .i64 fl, .int .i64 x, .int .u64 a, .int .u64 b] w fun e w' => e = .returned (.agg #[.int .i64 c, .int .u64 v]) ∧ Below w.heap.size w w') := by
  have b0 := (u64_bd hb).1
  by_cases hf : x ≤ b
  · exact ⟨1, 0, fun w => shS_far op fl x a b w (isW_vw ha) hf, fun w hw => shR_far op fl x a b w (isW_vw ha) hf⟩
  · have hf' : b < x := by omega
    cases ke : (bits BinOp.and IntKind.i64 fl 4 != 0)
    · refine ⟨0, shI op x a b, fun w => ?_, fun w hw => shR_o2 op fl x a b w hw ho ha b0 hf' ke⟩
      rcases ho with rfl | rfl
      · exact sRo2_9 fl x a b w ha b0 hf' ks ku ke
      · exact sRo2_10 fl x a b w ha b0 hf' ks ku ke
    · cases e1 : (shI 8 x (shI op x a b) b != a)
      · refine ⟨0, shI op x a b, fun w => ?_, fun w hw => shR_o1 op fl x a b w hw ho ha b0 hf' ke e1⟩
        rcases ho with rfl | rfl
        · exact sRo1_9 fl x a b w ha b0 hf' ks ku ke e1
        · exact sRo1_10 fl x a b w ha b0 hf' ks ku ke e1
      · refine ⟨1, 0, fun w => ?_, fun w hw => shR_p op fl x a b w hw ho ha b0 hf' ke e1⟩
        rcases ho with rfl | rfl
        · exact sRp_9 fl x a b w ha b0 hf' ks ku ke e1
        · exact sRp_10 fl x a b w ha b0 hf' ks ku ke e1
end Go.Proofs.YtmkhkgliipalaabDoor
