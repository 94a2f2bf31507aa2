/- Contracts over one translation: the program's shifts and bitwise operations. -/
import Derived.Test.YtmkhkgliipalaaaDoorAr3
namespace Go.Proofs.YtmkhkgliipalaaaDoor
open Go.ChangeShapes Go.WideShapes Go.ChangeAt Go.RowKit
set_option linter.unusedVariables false
set_option linter.unusedSimpArgs false
def shI (op x a n : Int) : Int := if op = 8 then cutI x (IntKind.u64.wrap (a * 2 ^ min n.toNat 64)) else if op = 9 then a / 2 ^ min n.toNat 64 else cutI x (IntKind.u64.wrap (sgnI x a / 2 ^ min n.toNat 64))
set_option maxHeartbeats 1000000 in
theorem shifted_any (op x a n : Int) (w : World) (hw : Wid w) (ho : op = 8 ∨ op = 9 ∨ op = 10) (ha : isW x a = true) (n0 : 0 ≤ n) (n1 : n ≤ 18446744073709551615) :
    Calls Tryd.prog 49 #[.int .i64 op, .int .i64 x, .int .u64 a, .int .u64 n] w fun e w' => e = .returned (.int .u64 (shI op x a n)) ∧ w' = w := by
  have HX : Hid (vw x = true) := isW_vw ha
  have HA : Hid (isW x a = true) := ha
  clear ha
  rcases ho with rfl | rfl | rfl
  all_goals
    go_enter Tryd.func49, Tryd.ntmps49
    go_wp2_with (first | (go_at_call 16; refine (cut_impl _ _ _ hw HX.out (wrapU_bd _).1 (wrapU_bd _).2).mono ?_; rintro e w' ⟨rfl, rfl⟩) | (go_at_call 14; refine (signedI _ _ _ hw HA.out).mono ?_; rintro e w' ⟨rfl, rfl⟩))
    go_ret
    exact ⟨ret_int (by simp [shI]), rfl⟩
def bwI (op a b : Int) : Int := if op = 11 then bits .and .u64 a b else if op = 12 then bits .or .u64 a b else bits .xor .u64 a b
set_option maxHeartbeats 1000000 in
theorem bitwise_any (op a b : Int) (w : World) (ho : op = 11 ∨ op = 12 ∨ op = 13) :
    Calls Tryd.prog 33 #[.int .i64 op, .int .u64 a, .int .u64 b] w fun e w' => e = .returned (.int .u64 (bwI op a b)) ∧ w' = w := by
  rcases ho with rfl | rfl | rfl
  all_goals
    go_enter Tryd.func33, Tryd.ntmps33
    go_wp2_with fail
    go_ret
    exact ⟨ret_int (by simp [bwI]), rfl⟩
theorem isW_sh {op x a n : Int} (ho : op = 8 ∨ op = 9 ∨ op = 10) (ha : isW x a = true) : isW x (shI op x a n) = true := by
  rcases ho with rfl | rfl | rfl
  · simp only [shI]; exact isW_cut (isW_vw ha)
  · obtain ⟨h0, h1⟩ := isW_bd ha
    simp only [shI, isW, isW_vw ha, Bool.true_and]
    have hp : (0 : Int) < 2 ^ min n.toNat 64 := Int.pow_pos (by decide)
    refine decide_eq_true ⟨Int.ediv_nonneg h0 (by omega), ?_⟩
    exact Int.lt_of_le_of_lt (Int.ediv_le_self _ h0) h1
  · simp only [shI]; exact isW_cut (isW_vw ha)
set_option maxHeartbeats 2000000 in
theorem shL_far (fl x a b : Int) (w : World) (hx : vw x = true) (hf : x ≤ b) :
    Calls Tryd.prog 31 #[.int .i64 fl, .int .i64 x, .int .u64 a, .int .u64 b] w fun e w' => e = .returned (.agg #[.int .i64 1, .int .u64 0]) ∧ Below w.heap.size w w' := by
  rcases vw_cases hx with rfl | rfl | rfl | rfl | rfl
  all_goals
    clear hx
    go_enter Tryd.func31, Tryd.ntmps31
    go_wp2_with fail
    exact bodyPost_ret (v := .agg #[.int .i64 1, .int .u64 0]) (by simp [results, Tryd.results31, go_sem]) rfl ⟨rfl, bel_alloc _ _⟩
set_option maxHeartbeats 2000000 in
theorem shR_far (op fl x a b : Int) (w : World) (hx : vw x = true) (hf : x ≤ b) :
    Calls Tryd.prog 32 #[.int .i64 op, .int .i64 fl, .int .i64 x, .int .u64 a, .int .u64 b] w fun e w' => e = .returned (.agg #[.int .i64 1, .int .u64 0]) ∧ Below w.heap.size w w' := by
  rcases vw_cases hx with rfl | rfl | rfl | rfl | rfl
  all_goals
    clear hx
    go_enter Tryd.func32, Tryd.ntmps32
    go_wp2_with fail
    exact bodyPost_ret (v := .agg #[.int .i64 1, .int .u64 0]) (by simp [results, Tryd.results32, go_sem]) rfl ⟨rfl, bel_alloc _ _⟩
set_option maxHeartbeats 2000000 in
theorem shL_p1 (fl x a b : Int) (w : World) (hw : Wid w) (ha : isW x a = true) (b0 : 0 ≤ b) (hf : b < x) (ks : (bits BinOp.and IntKind.i64 fl 1 != 0) = true) (e1 : (shI 10 x (shI 8 x a b) b != a) = true) :
    Calls Tryd.prog 31 #[.int .i64 fl, .int .i64 x, .int .u64 a, .int .u64 b] w fun e w' => e = .returned (.agg #[.int .i64 1, .int .u64 (0)]) ∧ Below w.heap.size w w' := by
  have HX := isW_vw ha
  have HA : Hid (isW x a = true) := ha
  have HS : Hid (isW x (shI 8 x a b) = true) := isW_sh (by decide) ha
  have b1 : b ≤ 18446744073709551615 := by rcases vw_cases HX with rfl | rfl | rfl | rfl | rfl <;> omega
  have HX' : Hid (vw x = true) := HX
  clear ha HX
  rcases vw_cases HX'.out with rfl | rfl | rfl | rfl | rfl
  all_goals
    clear HX'
    go_enter Tryd.func31, Tryd.ntmps31
    go_wp2_with (first | (go_at_call 49; refine (shifted_any _ _ _ _ _ (by first | exact hw | exact hw.below (bel_alloc _ _)) (by decide) (by first | exact HA.out | exact HS.out) b0 b1).mono ?_; rintro e w' ⟨rfl, rfl⟩))
    exact bodyPost_ret (v := .agg #[.int .i64 1, .int .u64 (0)]) (by simp [results, Tryd.results31, go_sem]) rfl ⟨rfl, bel_alloc _ _⟩
set_option maxHeartbeats 2000000 in
theorem shL_p2 (fl x a b : Int) (w : World) (hw : Wid w) (ha : isW x a = true) (b0 : 0 ≤ b) (hf : b < x) (ks : (bits BinOp.and IntKind.i64 fl 1 != 0) = true) (e1 : (shI 10 x (shI 8 x a b) b != a) = false) (ku : (bits BinOp.and IntKind.i64 fl 2 != 0) = true) (e2 : (shI 9 x (shI 8 x a b) b != a) = true) :
    Calls Tryd.prog 31 #[.int .i64 fl, .int .i64 x, .int .u64 a, .int .u64 b] w fun e w' => e = .returned (.agg #[.int .i64 1, .int .u64 (0)]) ∧ Below w.heap.size w w' := by
  have HX := isW_vw ha
  have HA : Hid (isW x a = true) := ha
  have HS : Hid (isW x (shI 8 x a b) = true) := isW_sh (by decide) ha
  have b1 : b ≤ 18446744073709551615 := by rcases vw_cases HX with rfl | rfl | rfl | rfl | rfl <;> omega
  have HX' : Hid (vw x = true) := HX
  clear ha HX
  rcases vw_cases HX'.out with rfl | rfl | rfl | rfl | rfl
  all_goals
    clear HX'
    go_enter Tryd.func31, Tryd.ntmps31
    go_wp2_with (first | (go_at_call 49; refine (shifted_any _ _ _ _ _ (by first | exact hw | exact hw.below (bel_alloc _ _)) (by decide) (by first | exact HA.out | exact HS.out) b0 b1).mono ?_; rintro e w' ⟨rfl, rfl⟩))
    exact bodyPost_ret (v := .agg #[.int .i64 1, .int .u64 (0)]) (by simp [results, Tryd.results31, go_sem]) rfl ⟨rfl, bel_alloc _ _⟩
set_option maxHeartbeats 2000000 in
theorem shL_p3 (fl x a b : Int) (w : World) (hw : Wid w) (ha : isW x a = true) (b0 : 0 ≤ b) (hf : b < x) (ks : (bits BinOp.and IntKind.i64 fl 1 != 0) = false) (ku : (bits BinOp.and IntKind.i64 fl 2 != 0) = true) (e2 : (shI 9 x (shI 8 x a b) b != a) = true) :
    Calls Tryd.prog 31 #[.int .i64 fl, .int .i64 x, .int .u64 a, .int .u64 b] w fun e w' => e = .returned (.agg #[.int .i64 1, .int .u64 (0)]) ∧ Below w.heap.size w w' := by
  have HX := isW_vw ha
  have HA : Hid (isW x a = true) := ha
  have HS : Hid (isW x (shI 8 x a b) = true) := isW_sh (by decide) ha
  have b1 : b ≤ 18446744073709551615 := by rcases vw_cases HX with rfl | rfl | rfl | rfl | rfl <;> omega
  have HX' : Hid (vw x = true) := HX
  clear ha HX
  rcases vw_cases HX'.out with rfl | rfl | rfl | rfl | rfl
  all_goals
    clear HX'
    go_enter Tryd.func31, Tryd.ntmps31
    go_wp2_with (first | (go_at_call 49; refine (shifted_any _ _ _ _ _ (by first | exact hw | exact hw.below (bel_alloc _ _)) (by decide) (by first | exact HA.out | exact HS.out) b0 b1).mono ?_; rintro e w' ⟨rfl, rfl⟩))
    exact bodyPost_ret (v := .agg #[.int .i64 1, .int .u64 (0)]) (by simp [results, Tryd.results31, go_sem]) rfl ⟨rfl, bel_alloc _ _⟩
set_option maxHeartbeats 2000000 in
theorem shL_o1 (fl x a b : Int) (w : World) (hw : Wid w) (ha : isW x a = true) (b0 : 0 ≤ b) (hf : b < x) (ks : (bits BinOp.and IntKind.i64 fl 1 != 0) = true) (e1 : (shI 10 x (shI 8 x a b) b != a) = false) (ku : (bits BinOp.and IntKind.i64 fl 2 != 0) = true) (e2 : (shI 9 x (shI 8 x a b) b != a) = false) :
    Calls Tryd.prog 31 #[.int .i64 fl, .int .i64 x, .int .u64 a, .int .u64 b] w fun e w' => e = .returned (.agg #[.int .i64 0, .int .u64 (shI 8 x a b)]) ∧ Below w.heap.size w w' := by
  have HX := isW_vw ha
  have HA : Hid (isW x a = true) := ha
  have HS : Hid (isW x (shI 8 x a b) = true) := isW_sh (by decide) ha
  have b1 : b ≤ 18446744073709551615 := by rcases vw_cases HX with rfl | rfl | rfl | rfl | rfl <;> omega
  have HX' : Hid (vw x = true) := HX
  clear ha HX
  rcases vw_cases HX'.out with rfl | rfl | rfl | rfl | rfl
  all_goals
    clear HX'
    go_enter Tryd.func31, Tryd.ntmps31
    go_wp2_with (first | (go_at_call 49; refine (shifted_any _ _ _ _ _ (by first | exact hw | exact hw.below (bel_alloc _ _)) (by decide) (by first | exact HA.out | exact HS.out) b0 b1).mono ?_; rintro e w' ⟨rfl, rfl⟩))
    exact bodyPost_ret (v := .agg #[.int .i64 0, .int .u64 (shI 8 _ a b)]) (by simp [results, Tryd.results31, go_sem]) rfl ⟨rfl, bel_alloc _ _⟩
set_option maxHeartbeats 2000000 in
theorem shL_o2 (fl x a b : Int) (w : World) (hw : Wid w) (ha : isW x a = true) (b0 : 0 ≤ b) (hf : b < x) (ks : (bits BinOp.and IntKind.i64 fl 1 != 0) = false) (ku : (bits BinOp.and IntKind.i64 fl 2 != 0) = true) (e2 : (shI 9 x (shI 8 x a b) b != a) = false) :
    Calls Tryd.prog 31 #[.int .i64 fl, .int .i64 x, .int .u64 a, .int .u64 b] w fun e w' => e = .returned (.agg #[.int .i64 0, .int .u64 (shI 8 x a b)]) ∧ Below w.heap.size w w' := by
  have HX := isW_vw ha
  have HA : Hid (isW x a = true) := ha
  have HS : Hid (isW x (shI 8 x a b) = true) := isW_sh (by decide) ha
  have b1 : b ≤ 18446744073709551615 := by rcases vw_cases HX with rfl | rfl | rfl | rfl | rfl <;> omega
  have HX' : Hid (vw x = true) := HX
  clear ha HX
  rcases vw_cases HX'.out with rfl | rfl | rfl | rfl | rfl
  all_goals
    clear HX'
    go_enter Tryd.func31, Tryd.ntmps31
    go_wp2_with (first | (go_at_call 49; refine (shifted_any _ _ _ _ _ (by first | exact hw | exact hw.below (bel_alloc _ _)) (by decide) (by first | exact HA.out | exact HS.out) b0 b1).mono ?_; rintro e w' ⟨rfl, rfl⟩))
    exact bodyPost_ret (v := .agg #[.int .i64 0, .int .u64 (shI 8 _ a b)]) (by simp [results, Tryd.results31, go_sem]) rfl ⟨rfl, bel_alloc _ _⟩
set_option maxHeartbeats 2000000 in
theorem shL_o3 (fl x a b : Int) (w : World) (hw : Wid w) (ha : isW x a = true) (b0 : 0 ≤ b) (hf : b < x) (ks : (bits BinOp.and IntKind.i64 fl 1 != 0) = true) (e1 : (shI 10 x (shI 8 x a b) b != a) = false) (ku : (bits BinOp.and IntKind.i64 fl 2 != 0) = false) :
    Calls Tryd.prog 31 #[.int .i64 fl, .int .i64 x, .int .u64 a, .int .u64 b] w fun e w' => e = .returned (.agg #[.int .i64 0, .int .u64 (shI 8 x a b)]) ∧ Below w.heap.size w w' := by
  have HX := isW_vw ha
  have HA : Hid (isW x a = true) := ha
  have HS : Hid (isW x (shI 8 x a b) = true) := isW_sh (by decide) ha
  have b1 : b ≤ 18446744073709551615 := by rcases vw_cases HX with rfl | rfl | rfl | rfl | rfl <;> omega
  have HX' : Hid (vw x = true) := HX
  clear ha HX
  rcases vw_cases HX'.out with rfl | rfl | rfl | rfl | rfl
  all_goals
    clear HX'
    go_enter Tryd.func31, Tryd.ntmps31
    go_wp2_with (first | (go_at_call 49; refine (shifted_any _ _ _ _ _ (by first | exact hw | exact hw.below (bel_alloc _ _)) (by decide) (by first | exact HA.out | exact HS.out) b0 b1).mono ?_; rintro e w' ⟨rfl, rfl⟩))
    exact bodyPost_ret (v := .agg #[.int .i64 0, .int .u64 (shI 8 _ a b)]) (by simp [results, Tryd.results31, go_sem]) rfl ⟨rfl, bel_alloc _ _⟩
set_option maxHeartbeats 2000000 in
theorem shL_o4 (fl x a b : Int) (w : World) (hw : Wid w) (ha : isW x a = true) (b0 : 0 ≤ b) (hf : b < x) (ks : (bits BinOp.and IntKind.i64 fl 1 != 0) = false) (ku : (bits BinOp.and IntKind.i64 fl 2 != 0) = false) :
    Calls Tryd.prog 31 #[.int .i64 fl, .int .i64 x, .int .u64 a, .int .u64 b] w fun e w' => e = .returned (.agg #[.int .i64 0, .int .u64 (shI 8 x a b)]) ∧ Below w.heap.size w w' := by
  have HX := isW_vw ha
  have HA : Hid (isW x a = true) := ha
  have HS : Hid (isW x (shI 8 x a b) = true) := isW_sh (by decide) ha
  have b1 : b ≤ 18446744073709551615 := by rcases vw_cases HX with rfl | rfl | rfl | rfl | rfl <;> omega
  have HX' : Hid (vw x = true) := HX
  clear ha HX
  rcases vw_cases HX'.out with rfl | rfl | rfl | rfl | rfl
  all_goals
    clear HX'
    go_enter Tryd.func31, Tryd.ntmps31
    go_wp2_with (first | (go_at_call 49; refine (shifted_any _ _ _ _ _ (by first | exact hw | exact hw.below (bel_alloc _ _)) (by decide) (by first | exact HA.out | exact HS.out) b0 b1).mono ?_; rintro e w' ⟨rfl, rfl⟩))
    exact bodyPost_ret (v := .agg #[.int .i64 0, .int .u64 (shI 8 _ a b)]) (by simp [results, Tryd.results31, go_sem]) rfl ⟨rfl, bel_alloc _ _⟩
set_option maxHeartbeats 2000000 in
theorem shR_p (op fl x a b : Int) (w : World) (hw : Wid w) (ho : op = 9 ∨ op = 10) (ha : isW x a = true) (b0 : 0 ≤ b) (hf : b < x) (k : (bits BinOp.and IntKind.i64 fl 4 != 0) = true) (e1 : (shI 8 x (shI op x a b) b != a) = true) :
    Calls Tryd.prog 32 #[.int .i64 op, .int .i64 fl, .int .i64 x, .int .u64 a, .int .u64 b] w fun e w' => e = .returned (.agg #[.int .i64 1, .int .u64 (0)]) ∧ Below w.heap.size w w' := by
  have HX := isW_vw ha
  have HA : Hid (isW x a = true) := ha
  have HS : Hid (isW x (shI op x a b) = true) := isW_sh (by omega) ha
  have HO : Hid (op = 8 ∨ op = 9 ∨ op = 10) := by rcases ho with h | h; exact Or.inr (Or.inl h); exact Or.inr (Or.inr h)
  have b1 : b ≤ 18446744073709551615 := by rcases vw_cases HX with rfl | rfl | rfl | rfl | rfl <;> omega
  have HX' : Hid (vw x = true) := HX
  clear ha HX ho
  rcases vw_cases HX'.out with rfl | rfl | rfl | rfl | rfl
  all_goals
    clear HX'
    go_enter Tryd.func32, Tryd.ntmps32
    go_wp2_with (first | (go_at_call 49; refine (shifted_any _ _ _ _ _ (by first | exact hw | exact hw.below (bel_alloc _ _)) (by first | exact HO.out | decide) (by first | exact HA.out | exact HS.out) b0 b1).mono ?_; rintro e w' ⟨rfl, rfl⟩))
    exact bodyPost_ret (v := .agg #[.int .i64 1, .int .u64 (0)]) (by simp [results, Tryd.results32, go_sem]) rfl ⟨rfl, bel_alloc _ _⟩
set_option maxHeartbeats 2000000 in
theorem shR_o1 (op fl x a b : Int) (w : World) (hw : Wid w) (ho : op = 9 ∨ op = 10) (ha : isW x a = true) (b0 : 0 ≤ b) (hf : b < x) (k : (bits BinOp.and IntKind.i64 fl 4 != 0) = true) (e1 : (shI 8 x (shI op x a b) b != a) = false) :
    Calls Tryd.prog 32 #[.int .i64 op, .int .i64 fl, .int .i64 x, .int .u64 a, .int .u64 b] w fun e w' => e = .returned (.agg #[.int .i64 0, .int .u64 (shI op x a b)]) ∧ Below w.heap.size w w' := by
  have HX := isW_vw ha
  have HA : Hid (isW x a = true) := ha
  have HS : Hid (isW x (shI op x a b) = true) := isW_sh (by omega) ha
  have HO : Hid (op = 8 ∨ op = 9 ∨ op = 10) := by rcases ho with h | h; exact Or.inr (Or.inl h); exact Or.inr (Or.inr h)
  have b1 : b ≤ 18446744073709551615 := by rcases vw_cases HX with rfl | rfl | rfl | rfl | rfl <;> omega
  have HX' : Hid (vw x = true) := HX
  clear ha HX ho
  rcases vw_cases HX'.out with rfl | rfl | rfl | rfl | rfl
  all_goals
    clear HX'
    go_enter Tryd.func32, Tryd.ntmps32
    go_wp2_with (first | (go_at_call 49; refine (shifted_any _ _ _ _ _ (by first | exact hw | exact hw.below (bel_alloc _ _)) (by first | exact HO.out | decide) (by first | exact HA.out | exact HS.out) b0 b1).mono ?_; rintro e w' ⟨rfl, rfl⟩))
    exact bodyPost_ret (v := .agg #[.int .i64 0, .int .u64 (shI op _ a b)]) (by simp [results, Tryd.results32, go_sem]) rfl ⟨rfl, bel_alloc _ _⟩
set_option maxHeartbeats 2000000 in
theorem shR_o2 (op fl x a b : Int) (w : World) (hw : Wid w) (ho : op = 9 ∨ op = 10) (ha : isW x a = true) (b0 : 0 ≤ b) (hf : b < x) (k : (bits BinOp.and IntKind.i64 fl 4 != 0) = false) :
    Calls Tryd.prog 32 #[.int .i64 op, .int .i64 fl, .int .i64 x, .int .u64 a, .int .u64 b] w fun e w' => e = .returned (.agg #[.int .i64 0, .int .u64 (shI op x a b)]) ∧ Below w.heap.size w w' := by
  have HX := isW_vw ha
  have HA : Hid (isW x a = true) := ha
  have HS : Hid (isW x (shI op x a b) = true) := isW_sh (by omega) ha
  have HO : Hid (op = 8 ∨ op = 9 ∨ op = 10) := by rcases ho with h | h; exact Or.inr (Or.inl h); exact Or.inr (Or.inr h)
  have b1 : b ≤ 18446744073709551615 := by rcases vw_cases HX with rfl | rfl | rfl | rfl | rfl <;> omega
  have HX' : Hid (vw x = true) := HX
  clear ha HX ho
  rcases vw_cases HX'.out with rfl | rfl | rfl | rfl | rfl
  all_goals
    clear HX'
    go_enter Tryd.func32, Tryd.ntmps32
    go_wp2_with (first | (go_at_call 49; refine (shifted_any _ _ _ _ _ (by first | exact hw | exact hw.below (bel_alloc _ _)) (by first | exact HO.out | decide) (by first | exact HA.out | exact HS.out) b0 b1).mono ?_; rintro e w' ⟨rfl, rfl⟩))
    exact bodyPost_ret (v := .agg #[.int .i64 0, .int .u64 (shI op _ a b)]) (by simp [results, Tryd.results32, go_sem]) rfl ⟨rfl, bel_alloc _ _⟩
end Go.Proofs.YtmkhkgliipalaaaDoor
