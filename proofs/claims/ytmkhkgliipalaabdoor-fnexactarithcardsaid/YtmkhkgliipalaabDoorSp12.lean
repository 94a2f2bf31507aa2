/- Contracts over one translation: what Arith of the program and of its specification answer where an operation, its flags or its words are refused. -/
import Derived.Test.YtmkhkgliipalaabDoorSp11
import Derived.Test.YtmkhkgliipalaabDoorBt
namespace Go.Proofs.YtmkhkgliipalaabDoor
open Go.ChangeShapes Go.WideShapes Go.ChangeAt Go.RowKit
set_option linter.unusedVariables false
set_option linter.unusedSimpArgs false
/-- A contract of FlagsOf, of the program (f = its number) or of the specification. -/
def FlagsC (f : Nat) (op F : Int) : Prop := ∀ w : World, Calls Tryd.prog f #[.int .i64 op] w fun e w' => e = .returned (.int .i64 F) ∧ w' = w
theorem op_nots {op : Int} (ho : op < 1 ∨ 13 < op) : (op == 1) = false ∧ (op == 2) = false ∧ (op == 3) = false ∧ (op == 4) = false ∧ (op == 5) = false ∧ (op == 6) = false ∧ (op == 7) = false ∧ (op == 8) = false ∧ (op == 9) = false ∧ (op == 10) = false ∧ (op == 11) = false ∧ (op == 12) = false ∧ (op == 13) = false := by
  refine ⟨?_, ?_, ?_, ?_, ?_, ?_, ?_, ?_, ?_, ?_, ?_, ?_, ?_⟩ <;> exact beq_eq_false_iff_ne.2 (by omega)
set_option maxHeartbeats 2000000 in
theorem fam0_c (op : Int) (w : World) (ho : op < 1 ∨ 13 < op) :
    Calls Tryd.prog 14 #[.int .i64 op] w fun e w' => e = .returned (.int .i64 0) ∧ w' = w := by
  obtain ⟨e1, e2, e3, e4, e5, e6, e7, e8, e9, e10, e11, e12, e13⟩ := op_nots ho
  clear ho
  go_enter Tryd.func14, Tryd.ntmps14
  go_wp2
  go_ret
  exact ⟨rfl, rfl⟩
set_option maxHeartbeats 2000000 in
theorem flagsOut_c (op : Int) (ho : op < 1 ∨ 13 < op) : FlagsC 12 op 0 := by
  intro w
  have HO : Hid (op < 1 ∨ 13 < op) := ho
  clear ho
  go_enter Tryd.func12, Tryd.ntmps12
  go_wp2_with (go_at_call 14; refine (fam0_c _ _ HO.out).mono ?_; rintro e w' ⟨rfl, rfl⟩)
  go_ret
  exact ⟨rfl, rfl⟩
set_option maxHeartbeats 2000000 in
theorem badI_f (op fl x a b F : Int) (w : World) (hF : FlagsC 12 op F) (k : (bits BinOp.andNot IntKind.i64 fl F != 0) = true) :
    Calls Tryd.prog 5 #[.int .i64 op, .int .i64 fl, .int .i64 x, .int .u64 a, .int .u64 b] w fun e w' => e = .returned (.agg #[.int .i64 3, .int .u64 0]) ∧ Below w.heap.size w w' := by
  go_enter Tryd.func5, Tryd.ntmps5
  go_wp2_with (go_at_call 12; refine (hF _).mono ?_; rintro e w' ⟨rfl, rfl⟩)
  exact bodyPost_ret (v := .agg #[.int .i64 3, .int .u64 0]) (by simp [results, Tryd.results5, go_sem]) rfl ⟨rfl, bel_alloc _ _⟩
set_option maxHeartbeats 2000000 in
theorem badI_a (op fl x a b F : Int) (w : World) (hw : Wid w) (hF : FlagsC 12 op F) (k : (bits BinOp.andNot IntKind.i64 fl F != 0) = false) (a0 : 0 ≤ a) (a1 : a ≤ 18446744073709551615) (ha : isW x a = false) :
    Calls Tryd.prog 5 #[.int .i64 op, .int .i64 fl, .int .i64 x, .int .u64 a, .int .u64 b] w fun e w' => e = .returned (.agg #[.int .i64 3, .int .u64 0]) ∧ Below w.heap.size w w' := by
  have HA : Hid (isW x a = false) := ha
  have hw1 := hw.below (bel_alloc w (Obj.cells #[.int .i64 0, .int .u64 0] 24))
  clear ha
  go_enter Tryd.func5, Tryd.ntmps5
  go_wp2_with (first | (go_at_call 12; refine (hF _).mono ?_; rintro e w' ⟨rfl, rfl⟩) | (go_at_call 13; refine (isWord_no _ _ _ hw1 a0 a1 HA.out).mono ?_; rintro e w' ⟨rfl, rfl⟩))
  exact bodyPost_ret (v := .agg #[.int .i64 3, .int .u64 0]) (by simp [results, Tryd.results5, go_sem]) rfl ⟨rfl, bel_alloc _ _⟩
set_option maxHeartbeats 2000000 in
theorem badI_b (op fl x a b F : Int) (w : World) (hw : Wid w) (hF : FlagsC 12 op F) (k : (bits BinOp.andNot IntKind.i64 fl F != 0) = false) (b0 : 0 ≤ b) (b1 : b ≤ 18446744073709551615) (ha : isW x a = true) (hb : isW x b = false) :
    Calls Tryd.prog 5 #[.int .i64 op, .int .i64 fl, .int .i64 x, .int .u64 a, .int .u64 b] w fun e w' => e = .returned (.agg #[.int .i64 3, .int .u64 0]) ∧ Below w.heap.size w w' := by
  have HA : Hid (isW x a = true) := ha
  have HB : Hid (isW x b = false) := hb
  have hw1 := hw.below (bel_alloc w (Obj.cells #[.int .i64 0, .int .u64 0] 24))
  clear ha hb
  go_enter Tryd.func5, Tryd.ntmps5
  go_wp2_with (go_at_call 12; refine (hF _).mono ?_; rintro e w' ⟨rfl, rfl⟩)
  refine (isWordI _ _ _ hw1 HA.out).mono ?_
  rintro e w' ⟨rfl, rfl⟩
  go_wp2_with fail
  refine (isWord_no _ _ _ hw1 b0 b1 HB.out).mono ?_
  rintro e w' ⟨rfl, rfl⟩
  go_wp2_with fail
  exact bodyPost_ret (v := .agg #[.int .i64 3, .int .u64 0]) (by simp [results, Tryd.results5, go_sem]) rfl ⟨rfl, bel_alloc _ _⟩
set_option maxHeartbeats 2000000 in
theorem badI_o (op fl x a b : Int) (w : World) (hw : Wid w) (ho : op < 1 ∨ 13 < op) (k : (bits BinOp.andNot IntKind.i64 fl 0 != 0) = false) (ha : isW x a = true) (hb : isW x b = true) :
    Calls Tryd.prog 5 #[.int .i64 op, .int .i64 fl, .int .i64 x, .int .u64 a, .int .u64 b] w fun e w' => e = .returned (.agg #[.int .i64 3, .int .u64 0]) ∧ Below w.heap.size w w' := by
  have HA : Hid (isW x a = true) := ha
  have HB : Hid (isW x b = true) := hb
  have HO : Hid (op < 1 ∨ 13 < op) := ho
  have hw1 := hw.below (bel_alloc w (Obj.cells #[.int .i64 0, .int .u64 0] 24))
  clear ha hb ho
  go_enter Tryd.func5, Tryd.ntmps5
  go_wp2_with (first | (go_at_call 12; refine (flagsOut_c _ HO.out _).mono ?_; rintro e w' ⟨rfl, rfl⟩) | (go_at_call 13; refine (isWordI _ _ _ hw1 (by first | exact HA.out | exact HB.out)).mono ?_; rintro e w' ⟨rfl, rfl⟩) | (go_at_call 14; refine (fam0_c _ _ HO.out).mono ?_; rintro e w' ⟨rfl, rfl⟩))
  exact bodyPost_ret (v := .agg #[.int .i64 3, .int .u64 0]) (by simp [results, Tryd.results5, go_sem]) rfl ⟨rfl, bel_alloc _ _⟩
set_option maxHeartbeats 2000000 in
theorem badS_o (op fl x a b : Int) (w : World) (ho : op < 1 ∨ 13 < op) :
    Calls Tryd.prog 4 #[.int .i64 op, .int .i64 fl, .int .i64 x, .int .u64 a, .int .u64 b] w fun e w' => e = .returned (.agg #[.int .i64 3, .int .u64 0]) ∧ Below w.heap.size w w' := by
  rcases ho with ho | ho
  · go_enter Tryd.func4, Tryd.ntmps4
    go_wp2_with fail
    exact bodyPost_ret (v := .agg #[.int .i64 3, .int .u64 0]) (by simp [results, Tryd.results4, go_sem]) rfl ⟨rfl, bel_alloc _ _⟩
  · have h1 : ¬ op < 1 := by omega
    go_enter Tryd.func4, Tryd.ntmps4
    go_wp2_with fail
    exact bodyPost_ret (v := .agg #[.int .i64 3, .int .u64 0]) (by simp [results, Tryd.results4, go_sem]) rfl ⟨rfl, bel_alloc _ _⟩
set_option maxHeartbeats 2000000 in
theorem badS_f (op fl x a b F : Int) (w : World) (p0 : 1 ≤ op) (p1 : op ≤ 13) (hF : FlagsC 7 op F) (k : (bits BinOp.andNot IntKind.i64 fl F != 0) = true) :
    Calls Tryd.prog 4 #[.int .i64 op, .int .i64 fl, .int .i64 x, .int .u64 a, .int .u64 b] w fun e w' => e = .returned (.agg #[.int .i64 3, .int .u64 0]) ∧ Below w.heap.size w w' := by
  by_cases f0 : fl < 0
  · go_enter Tryd.func4, Tryd.ntmps4
    go_wp2_with fail
    exact bodyPost_ret (v := .agg #[.int .i64 3, .int .u64 0]) (by simp [results, Tryd.results4, go_sem]) rfl ⟨rfl, bel_alloc _ _⟩
  · have f1 : 0 ≤ fl := by omega
    clear f0
    go_enter Tryd.func4, Tryd.ntmps4
    go_wp2_with (go_at_call 7; refine (hF _).mono ?_; rintro e w' ⟨rfl, rfl⟩)
    exact bodyPost_ret (v := .agg #[.int .i64 3, .int .u64 0]) (by simp [results, Tryd.results4, go_sem]) rfl ⟨rfl, bel_alloc _ _⟩
set_option maxHeartbeats 2000000 in
theorem badS_a (op fl x a b F : Int) (w : World) (p0 : 1 ≤ op) (p1 : op ≤ 13) (f0 : 0 ≤ fl) (hF : FlagsC 7 op F) (k : (bits BinOp.andNot IntKind.i64 fl F != 0) = false) (a0 : 0 ≤ a) (a1 : a ≤ 18446744073709551615) (ha : isW x a = false) :
    Calls Tryd.prog 4 #[.int .i64 op, .int .i64 fl, .int .i64 x, .int .u64 a, .int .u64 b] w fun e w' => e = .returned (.agg #[.int .i64 3, .int .u64 0]) ∧ Below w.heap.size w w' := by
  have HA : Hid (isW x a = false) := ha
  clear ha
  go_enter Tryd.func4, Tryd.ntmps4
  go_wp2_with (first | (go_at_call 7; refine (hF _).mono ?_; rintro e w' ⟨rfl, rfl⟩) | (go_at_call 8; refine (isS_no _ _ _ a0 a1 HA.out).mono ?_; rintro e w' ⟨rfl, rfl⟩))
  exact bodyPost_ret (v := .agg #[.int .i64 3, .int .u64 0]) (by simp [results, Tryd.results4, go_sem]) rfl ⟨rfl, bel_alloc _ _⟩
set_option maxHeartbeats 2000000 in
theorem badS_b (op fl x a b F : Int) (w : World) (p0 : 1 ≤ op) (p1 : op ≤ 13) (f0 : 0 ≤ fl) (hF : FlagsC 7 op F) (k : (bits BinOp.andNot IntKind.i64 fl F != 0) = false) (b0 : 0 ≤ b) (b1 : b ≤ 18446744073709551615) (ha : isW x a = true) (hb : isW x b = false) :
    Calls Tryd.prog 4 #[.int .i64 op, .int .i64 fl, .int .i64 x, .int .u64 a, .int .u64 b] w fun e w' => e = .returned (.agg #[.int .i64 3, .int .u64 0]) ∧ Below w.heap.size w w' := by
  have HA : Hid (isW x a = true) := ha
  have HB : Hid (isW x b = false) := hb
  clear ha hb
  go_enter Tryd.func4, Tryd.ntmps4
  go_wp2_with (go_at_call 7; refine (hF _).mono ?_; rintro e w' ⟨rfl, rfl⟩)
  refine (isSI _ _ _ HA.out).mono ?_
  rintro e w' ⟨rfl, rfl⟩
  go_wp2_with fail
  refine (isS_no _ _ _ b0 b1 HB.out).mono ?_
  rintro e w' ⟨rfl, rfl⟩
  go_wp2_with fail
  exact bodyPost_ret (v := .agg #[.int .i64 3, .int .u64 0]) (by simp [results, Tryd.results4, go_sem]) rfl ⟨rfl, bel_alloc _ _⟩
/-- REFUSED ARGUMENTS: the two answer alike. -/
def Same (op fl x a b : Int) : Prop := ∃ c v : Int,
    (∀ w, Calls Tryd.prog 4 #[.int .i64 op, .int .i64 fl, .int .i64 x, .int .u64 a, .int .u64 b] w fun e w' => e = .returned (.agg #[.int .i64 c, .int .u64 v]) ∧ Below w.heap.size w w') ∧
    (∀ w, Wid w → Calls Tryd.prog 5 #[.int .i64 op, .int .i64 fl, .int .i64 x, .int .u64 a, .int .u64 b] w fun e w' => e = .returned (.agg #[.int .i64 c, .int .u64 v]) ∧ Below w.heap.size w w')
theorem same_out (op fl x a b : Int) (ho : op < 1 ∨ 13 < op) (a0 : 0 ≤ a) (a1 : a ≤ 18446744073709551615) (b0 : 0 ≤ b) (b1 : b ≤ 18446744073709551615) : Same op fl x a b := by
  refine ⟨3, 0, fun w => badS_o op fl x a b w ho, fun w hw => ?_⟩
  cases k : (bits BinOp.andNot IntKind.i64 fl 0 != 0) with
  | true => exact badI_f op fl x a b 0 w (flagsOut_c op ho) k
  | false =>
    cases ha : isW x a with
    | false => exact badI_a op fl x a b 0 w hw (flagsOut_c op ho) k a0 a1 ha
    | true =>
      cases hb : isW x b with
      | false => exact badI_b op fl x a b 0 w hw (flagsOut_c op ho) k b0 b1 ha hb
      | true => exact badI_o op fl x a b w hw ho k ha hb
theorem same_in (op fl x a b F : Int) (p0 : 1 ≤ op) (p1 : op ≤ 13) (a0 : 0 ≤ a) (a1 : a ≤ 18446744073709551615) (b0 : 0 ≤ b) (b1 : b ≤ 18446744073709551615)
    (hI : FlagsC 12 op F) (hS : FlagsC 7 op F) (hf : (bits BinOp.andNot IntKind.i64 fl F != 0) = false → 0 ≤ fl)
    (hgood : (bits BinOp.andNot IntKind.i64 fl F != 0) = false → isW x a = true → isW x b = true → Same op fl x a b) : Same op fl x a b := by
  cases k : (bits BinOp.andNot IntKind.i64 fl F != 0) with
  | true => exact ⟨3, 0, fun w => badS_f op fl x a b F w p0 p1 hS k, fun w hw => badI_f op fl x a b F w hI k⟩
  | false =>
    cases ha : isW x a with
    | false => exact ⟨3, 0, fun w => badS_a op fl x a b F w p0 p1 (hf k) hS k a0 a1 ha, fun w hw => badI_a op fl x a b F w hw hI k a0 a1 ha⟩
    | true =>
      cases hb : isW x b with
      | false => exact ⟨3, 0, fun w => badS_b op fl x a b F w p0 p1 (hf k) hS k b0 b1 ha hb, fun w hw => badI_b op fl x a b F w hw hI k b0 b1 ha hb⟩
      | true => exact hgood k ha hb
end Go.Proofs.YtmkhkgliipalaabDoor
