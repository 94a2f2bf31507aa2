/- Contracts over one translation: the specification's quotients and remainders of words with signs. -/
import Derived.Test.YtmkhkgliipalaabDoorSp12
namespace Go.Proofs.YtmkhkgliipalaabDoor
open Go.ChangeShapes Go.WideShapes Go.ChangeAt Go.RowKit
set_option linter.unusedVariables false
set_option linter.unusedSimpArgs false
/-- What a function of the specification answers, without turning anything. -/
def Ans (f : Nat) (args : Array Value) (v : Value) : Prop := ∀ w : World, Calls Tryd.prog f args w fun e w' => e = .returned v ∧ w' = w
/-- All that the specification's division with signs calls, at numbers X, Y of sizes P, Q. -/
structure DivC (x a b X Y P Q q r Qc Rc : Int) : Prop where
  b0 : 0 < b
  b1 : b ≤ 18446744073709551615
  a0 : 0 ≤ a
  a1 : a ≤ 18446744073709551615
  P0 : 0 ≤ P
  P1 : P ≤ 9223372036854775808
  Q0 : 0 < Q
  Q1 : Q ≤ 9223372036854775808
  cSa : Ans 26 #[.int .i64 x, .int .u64 a] (.int .i64 X)
  cSb : Ans 26 #[.int .i64 x, .int .u64 b] (.int .i64 Y)
  cX : Ans 27 #[.int .i64 X] (.int .u64 P)
  cY : Ans 27 #[.int .i64 Y] (.int .u64 Q)
  cQ : Ans 22 #[.int .i64 x, .int .u64 q] (.int .u64 Qc)
  cR : Ans 22 #[.int .i64 x, .int .u64 r] (.int .u64 Rc)
def r0I (P Q : Int) : Int := IntKind.u64.wrap (P - IntKind.u64.wrap (P / Q * Q))

set_option maxRecDepth 100000 in
set_option maxHeartbeats 2000000 in
theorem dg_q00 (fl x a b X Y P Q Qc Rc : Int) (w : World) (C : DivC x a b X Y P Q (P / Q) (IntKind.u64.wrap (P - IntKind.u64.wrap (P / Q * Q))) Qc Rc) (hm : (Y == -1) = false) (eX : decide (X < 0) = false) (eY : decide (Y < 0) = false) (ke : (bits BinOp.and IntKind.i64 fl 4 != 0) = false) :
    Calls Tryd.prog 10 #[.int .i64 5, .int .i64 fl, .int .i64 x, .int .u64 a, .int .u64 b] w fun e w' => e = .returned (.agg #[.int .i64 0, .int .u64 Qc]) ∧ Below w.heap.size w w' := by
  obtain ⟨b0, b1, a0, a1, P0, P1, Q0, Q1, cSa, cSb, cX, cY, cQ, cR⟩ := C
  have n1 : (b == 0) = false := beq_eq_false_iff_ne.2 (by omega)
  go_enter Tryd.func10, Tryd.ntmps10
  go_wp2_with fail
  refine (cSa _).mono ?_
  rintro e w' ⟨rfl, rfl⟩
  go_wp2_with fail
  refine (cSb _).mono ?_
  rintro e w' ⟨rfl, rfl⟩
  go_wp2_with fail
  refine (cX _).mono ?_
  rintro e w' ⟨rfl, rfl⟩
  go_wp2_with fail
  refine (cY _).mono ?_
  rintro e w' ⟨rfl, rfl⟩
  go_wp2_with fail
  refine (cX _).mono ?_
  rintro e w' ⟨rfl, rfl⟩
  go_wp2_with fail
  refine (cY _).mono ?_
  rintro e w' ⟨rfl, rfl⟩
  go_wp2_with fail
  refine (cQ _).mono ?_
  rintro e w' ⟨rfl, rfl⟩
  go_wp2_with fail
  refine (cR _).mono ?_
  rintro e w' ⟨rfl, rfl⟩
  go_wp2_with fail
  exact bodyPost_ret (v := .agg #[.int .i64 0, .int .u64 Qc]) (by simp [results, Tryd.results10, go_sem]) rfl ⟨rfl, bel_alloc _ _⟩
set_option maxRecDepth 100000 in
set_option maxHeartbeats 2000000 in
theorem dg_q01 (fl x a b X Y P Q Qc Rc : Int) (w : World) (C : DivC x a b X Y P Q (P / Q) (IntKind.u64.wrap (-IntKind.u64.wrap (P - IntKind.u64.wrap (P / Q * Q)))) Qc Rc) (hm : (Y == -1) = false) (eX : decide (X < 0) = true) (eY : decide (Y < 0) = true) (ke : (bits BinOp.and IntKind.i64 fl 4 != 0) = false) :
    Calls Tryd.prog 10 #[.int .i64 5, .int .i64 fl, .int .i64 x, .int .u64 a, .int .u64 b] w fun e w' => e = .returned (.agg #[.int .i64 0, .int .u64 Qc]) ∧ Below w.heap.size w w' := by
  obtain ⟨b0, b1, a0, a1, P0, P1, Q0, Q1, cSa, cSb, cX, cY, cQ, cR⟩ := C
  have n1 : (b == 0) = false := beq_eq_false_iff_ne.2 (by omega)
  go_enter Tryd.func10, Tryd.ntmps10
  go_wp2_with fail
  refine (cSa _).mono ?_
  rintro e w' ⟨rfl, rfl⟩
  go_wp2_with fail
  refine (cSb _).mono ?_
  rintro e w' ⟨rfl, rfl⟩
  go_wp2_with fail
  refine (cX _).mono ?_
  rintro e w' ⟨rfl, rfl⟩
  go_wp2_with fail
  refine (cY _).mono ?_
  rintro e w' ⟨rfl, rfl⟩
  go_wp2_with fail
  refine (cX _).mono ?_
  rintro e w' ⟨rfl, rfl⟩
  go_wp2_with fail
  refine (cY _).mono ?_
  rintro e w' ⟨rfl, rfl⟩
  go_wp2_with fail
  refine (cQ _).mono ?_
  rintro e w' ⟨rfl, rfl⟩
  go_wp2_with fail
  refine (cR _).mono ?_
  rintro e w' ⟨rfl, rfl⟩
  go_wp2_with fail
  exact bodyPost_ret (v := .agg #[.int .i64 0, .int .u64 Qc]) (by simp [results, Tryd.results10, go_sem]) rfl ⟨rfl, bel_alloc _ _⟩
set_option maxRecDepth 100000 in
set_option maxHeartbeats 2000000 in
theorem dg_q10 (fl x a b X Y P Q Qc Rc : Int) (w : World) (C : DivC x a b X Y P Q (IntKind.u64.wrap (-(P / Q))) (IntKind.u64.wrap (P - IntKind.u64.wrap (P / Q * Q))) Qc Rc) (hm : (Y == -1) = false) (eX : decide (X < 0) = false) (eY : decide (Y < 0) = true) (ke : (bits BinOp.and IntKind.i64 fl 4 != 0) = false) :
    Calls Tryd.prog 10 #[.int .i64 5, .int .i64 fl, .int .i64 x, .int .u64 a, .int .u64 b] w fun e w' => e = .returned (.agg #[.int .i64 0, .int .u64 Qc]) ∧ Below w.heap.size w w' := by
  obtain ⟨b0, b1, a0, a1, P0, P1, Q0, Q1, cSa, cSb, cX, cY, cQ, cR⟩ := C
  have n1 : (b == 0) = false := beq_eq_false_iff_ne.2 (by omega)
  go_enter Tryd.func10, Tryd.ntmps10
  go_wp2_with fail
  refine (cSa _).mono ?_
  rintro e w' ⟨rfl, rfl⟩
  go_wp2_with fail
  refine (cSb _).mono ?_
  rintro e w' ⟨rfl, rfl⟩
  go_wp2_with fail
  refine (cX _).mono ?_
  rintro e w' ⟨rfl, rfl⟩
  go_wp2_with fail
  refine (cY _).mono ?_
  rintro e w' ⟨rfl, rfl⟩
  go_wp2_with fail
  refine (cX _).mono ?_
  rintro e w' ⟨rfl, rfl⟩
  go_wp2_with fail
  refine (cY _).mono ?_
  rintro e w' ⟨rfl, rfl⟩
  go_wp2_with fail
  refine (cQ _).mono ?_
  rintro e w' ⟨rfl, rfl⟩
  go_wp2_with fail
  refine (cR _).mono ?_
  rintro e w' ⟨rfl, rfl⟩
  go_wp2_with fail
  exact bodyPost_ret (v := .agg #[.int .i64 0, .int .u64 Qc]) (by simp [results, Tryd.results10, go_sem]) rfl ⟨rfl, bel_alloc _ _⟩
set_option maxRecDepth 100000 in
set_option maxHeartbeats 2000000 in
theorem dg_q11 (fl x a b X Y P Q Qc Rc : Int) (w : World) (C : DivC x a b X Y P Q (IntKind.u64.wrap (-(P / Q))) (IntKind.u64.wrap (-IntKind.u64.wrap (P - IntKind.u64.wrap (P / Q * Q)))) Qc Rc) (hm : (Y == -1) = false) (eX : decide (X < 0) = true) (eY : decide (Y < 0) = false) (ke : (bits BinOp.and IntKind.i64 fl 4 != 0) = false) :
    Calls Tryd.prog 10 #[.int .i64 5, .int .i64 fl, .int .i64 x, .int .u64 a, .int .u64 b] w fun e w' => e = .returned (.agg #[.int .i64 0, .int .u64 Qc]) ∧ Below w.heap.size w w' := by
  obtain ⟨b0, b1, a0, a1, P0, P1, Q0, Q1, cSa, cSb, cX, cY, cQ, cR⟩ := C
  have n1 : (b == 0) = false := beq_eq_false_iff_ne.2 (by omega)
  go_enter Tryd.func10, Tryd.ntmps10
  go_wp2_with fail
  refine (cSa _).mono ?_
  rintro e w' ⟨rfl, rfl⟩
  go_wp2_with fail
  refine (cSb _).mono ?_
  rintro e w' ⟨rfl, rfl⟩
  go_wp2_with fail
  refine (cX _).mono ?_
  rintro e w' ⟨rfl, rfl⟩
  go_wp2_with fail
  refine (cY _).mono ?_
  rintro e w' ⟨rfl, rfl⟩
  go_wp2_with fail
  refine (cX _).mono ?_
  rintro e w' ⟨rfl, rfl⟩
  go_wp2_with fail
  refine (cY _).mono ?_
  rintro e w' ⟨rfl, rfl⟩
  go_wp2_with fail
  refine (cQ _).mono ?_
  rintro e w' ⟨rfl, rfl⟩
  go_wp2_with fail
  refine (cR _).mono ?_
  rintro e w' ⟨rfl, rfl⟩
  go_wp2_with fail
  exact bodyPost_ret (v := .agg #[.int .i64 0, .int .u64 Qc]) (by simp [results, Tryd.results10, go_sem]) rfl ⟨rfl, bel_alloc _ _⟩
set_option maxRecDepth 100000 in
set_option maxHeartbeats 2000000 in
theorem dm_q10 (fl x a b X P Q Qc Rc : Int) (w : World) (hx : vw x = true) (C : DivC x a b X (-1) P Q (IntKind.u64.wrap (-(P / Q))) (IntKind.u64.wrap (P - IntKind.u64.wrap (P / Q * Q))) Qc Rc) (ht : (a == 2 ^ (x.toNat - 1)) = false) (eX : decide (X < 0) = false) (ke : (bits BinOp.and IntKind.i64 fl 4 != 0) = false) :
    Calls Tryd.prog 10 #[.int .i64 5, .int .i64 fl, .int .i64 x, .int .u64 a, .int .u64 b] w fun e w' => e = .returned (.agg #[.int .i64 0, .int .u64 Qc]) ∧ Below w.heap.size w w' := by
  obtain ⟨b0, b1, a0, a1, P0, P1, Q0, Q1, cSa, cSb, cX, cY, cQ, cR⟩ := C
  have n1 : (b == 0) = false := beq_eq_false_iff_ne.2 (by omega)
  have HT : Hid ((a == 2 ^ (x.toNat - 1)) = false) := ht
  clear ht
  rcases vw_cases hx with rfl | rfl | rfl | rfl | rfl
  all_goals
    clear hx
    have HT' := HT.out
    first | rw [top1] at HT' | rw [top8] at HT' | rw [top16] at HT' | rw [top32] at HT' | rw [top64] at HT'
    go_enter Tryd.func10, Tryd.ntmps10
    go_wp2_with fail
    refine (cSa _).mono ?_
    rintro e w' ⟨rfl, rfl⟩
    go_wp2_with fail
    refine (cSb _).mono ?_
    rintro e w' ⟨rfl, rfl⟩
    go_wp2_with fail
    refine (cX _).mono ?_
    rintro e w' ⟨rfl, rfl⟩
    go_wp2_with fail
    refine (cY _).mono ?_
    rintro e w' ⟨rfl, rfl⟩
    go_wp2_with fail
    refine (cX _).mono ?_
    rintro e w' ⟨rfl, rfl⟩
    go_wp2_with fail
    refine (cY _).mono ?_
    rintro e w' ⟨rfl, rfl⟩
    go_wp2_with fail
    refine (cQ _).mono ?_
    rintro e w' ⟨rfl, rfl⟩
    go_wp2_with fail
    refine (cR _).mono ?_
    rintro e w' ⟨rfl, rfl⟩
    go_wp2_with fail
    exact bodyPost_ret (v := .agg #[.int .i64 0, .int .u64 Qc]) (by simp [results, Tryd.results10, go_sem]) rfl ⟨rfl, bel_alloc _ _⟩
set_option maxRecDepth 100000 in
set_option maxHeartbeats 2000000 in
theorem dm_q01 (fl x a b X P Q Qc Rc : Int) (w : World) (hx : vw x = true) (C : DivC x a b X (-1) P Q (P / Q) (IntKind.u64.wrap (-IntKind.u64.wrap (P - IntKind.u64.wrap (P / Q * Q)))) Qc Rc) (ht : (a == 2 ^ (x.toNat - 1)) = false) (eX : decide (X < 0) = true) (ke : (bits BinOp.and IntKind.i64 fl 4 != 0) = false) :
    Calls Tryd.prog 10 #[.int .i64 5, .int .i64 fl, .int .i64 x, .int .u64 a, .int .u64 b] w fun e w' => e = .returned (.agg #[.int .i64 0, .int .u64 Qc]) ∧ Below w.heap.size w w' := by
  obtain ⟨b0, b1, a0, a1, P0, P1, Q0, Q1, cSa, cSb, cX, cY, cQ, cR⟩ := C
  have n1 : (b == 0) = false := beq_eq_false_iff_ne.2 (by omega)
  have HT : Hid ((a == 2 ^ (x.toNat - 1)) = false) := ht
  clear ht
  rcases vw_cases hx with rfl | rfl | rfl | rfl | rfl
  all_goals
    clear hx
    have HT' := HT.out
    first | rw [top1] at HT' | rw [top8] at HT' | rw [top16] at HT' | rw [top32] at HT' | rw [top64] at HT'
    go_enter Tryd.func10, Tryd.ntmps10
    go_wp2_with fail
    refine (cSa _).mono ?_
    rintro e w' ⟨rfl, rfl⟩
    go_wp2_with fail
    refine (cSb _).mono ?_
    rintro e w' ⟨rfl, rfl⟩
    go_wp2_with fail
    refine (cX _).mono ?_
    rintro e w' ⟨rfl, rfl⟩
    go_wp2_with fail
    refine (cY _).mono ?_
    rintro e w' ⟨rfl, rfl⟩
    go_wp2_with fail
    refine (cX _).mono ?_
    rintro e w' ⟨rfl, rfl⟩
    go_wp2_with fail
    refine (cY _).mono ?_
    rintro e w' ⟨rfl, rfl⟩
    go_wp2_with fail
    refine (cQ _).mono ?_
    rintro e w' ⟨rfl, rfl⟩
    go_wp2_with fail
    refine (cR _).mono ?_
    rintro e w' ⟨rfl, rfl⟩
    go_wp2_with fail
    exact bodyPost_ret (v := .agg #[.int .i64 0, .int .u64 Qc]) (by simp [results, Tryd.results10, go_sem]) rfl ⟨rfl, bel_alloc _ _⟩
set_option maxRecDepth 100000 in
set_option maxHeartbeats 2000000 in
theorem dg_e00 (fl x a b X Y P Q Qc Rc : Int) (w : World) (C : DivC x a b X Y P Q (P / Q) (IntKind.u64.wrap (P - IntKind.u64.wrap (P / Q * Q))) Qc Rc) (hm : (Y == -1) = false) (eX : decide (X < 0) = false) (eY : decide (Y < 0) = false) (ke : (bits BinOp.and IntKind.i64 fl 4 != 0) = true) (kr : (Rc != 0) = false) :
    Calls Tryd.prog 10 #[.int .i64 5, .int .i64 fl, .int .i64 x, .int .u64 a, .int .u64 b] w fun e w' => e = .returned (.agg #[.int .i64 0, .int .u64 Qc]) ∧ Below w.heap.size w w' := by
  obtain ⟨b0, b1, a0, a1, P0, P1, Q0, Q1, cSa, cSb, cX, cY, cQ, cR⟩ := C
  have n1 : (b == 0) = false := beq_eq_false_iff_ne.2 (by omega)
  go_enter Tryd.func10, Tryd.ntmps10
  go_wp2_with fail
  refine (cSa _).mono ?_
  rintro e w' ⟨rfl, rfl⟩
  go_wp2_with fail
  refine (cSb _).mono ?_
  rintro e w' ⟨rfl, rfl⟩
  go_wp2_with fail
  refine (cX _).mono ?_
  rintro e w' ⟨rfl, rfl⟩
  go_wp2_with fail
  refine (cY _).mono ?_
  rintro e w' ⟨rfl, rfl⟩
  go_wp2_with fail
  refine (cX _).mono ?_
  rintro e w' ⟨rfl, rfl⟩
  go_wp2_with fail
  refine (cY _).mono ?_
  rintro e w' ⟨rfl, rfl⟩
  go_wp2_with fail
  refine (cQ _).mono ?_
  rintro e w' ⟨rfl, rfl⟩
  go_wp2_with fail
  refine (cR _).mono ?_
  rintro e w' ⟨rfl, rfl⟩
  go_wp2_with fail
  exact bodyPost_ret (v := .agg #[.int .i64 0, .int .u64 Qc]) (by simp [results, Tryd.results10, go_sem]) rfl ⟨rfl, bel_alloc _ _⟩
set_option maxRecDepth 100000 in
set_option maxHeartbeats 2000000 in
theorem dg_e01 (fl x a b X Y P Q Qc Rc : Int) (w : World) (C : DivC x a b X Y P Q (P / Q) (IntKind.u64.wrap (-IntKind.u64.wrap (P - IntKind.u64.wrap (P / Q * Q)))) Qc Rc) (hm : (Y == -1) = false) (eX : decide (X < 0) = true) (eY : decide (Y < 0) = true) (ke : (bits BinOp.and IntKind.i64 fl 4 != 0) = true) (kr : (Rc != 0) = false) :
    Calls Tryd.prog 10 #[.int .i64 5, .int .i64 fl, .int .i64 x, .int .u64 a, .int .u64 b] w fun e w' => e = .returned (.agg #[.int .i64 0, .int .u64 Qc]) ∧ Below w.heap.size w w' := by
  obtain ⟨b0, b1, a0, a1, P0, P1, Q0, Q1, cSa, cSb, cX, cY, cQ, cR⟩ := C
  have n1 : (b == 0) = false := beq_eq_false_iff_ne.2 (by omega)
  go_enter Tryd.func10, Tryd.ntmps10
  go_wp2_with fail
  refine (cSa _).mono ?_
  rintro e w' ⟨rfl, rfl⟩
  go_wp2_with fail
  refine (cSb _).mono ?_
  rintro e w' ⟨rfl, rfl⟩
  go_wp2_with fail
  refine (cX _).mono ?_
  rintro e w' ⟨rfl, rfl⟩
  go_wp2_with fail
  refine (cY _).mono ?_
  rintro e w' ⟨rfl, rfl⟩
  go_wp2_with fail
  refine (cX _).mono ?_
  rintro e w' ⟨rfl, rfl⟩
  go_wp2_with fail
  refine (cY _).mono ?_
  rintro e w' ⟨rfl, rfl⟩
  go_wp2_with fail
  refine (cQ _).mono ?_
  rintro e w' ⟨rfl, rfl⟩
  go_wp2_with fail
  refine (cR _).mono ?_
  rintro e w' ⟨rfl, rfl⟩
  go_wp2_with fail
  exact bodyPost_ret (v := .agg #[.int .i64 0, .int .u64 Qc]) (by simp [results, Tryd.results10, go_sem]) rfl ⟨rfl, bel_alloc _ _⟩
set_option maxRecDepth 100000 in
set_option maxHeartbeats 2000000 in
theorem dg_e10 (fl x a b X Y P Q Qc Rc : Int) (w : World) (C : DivC x a b X Y P Q (IntKind.u64.wrap (-(P / Q))) (IntKind.u64.wrap (P - IntKind.u64.wrap (P / Q * Q))) Qc Rc) (hm : (Y == -1) = false) (eX : decide (X < 0) = false) (eY : decide (Y < 0) = true) (ke : (bits BinOp.and IntKind.i64 fl 4 != 0) = true) (kr : (Rc != 0) = false) :
    Calls Tryd.prog 10 #[.int .i64 5, .int .i64 fl, .int .i64 x, .int .u64 a, .int .u64 b] w fun e w' => e = .returned (.agg #[.int .i64 0, .int .u64 Qc]) ∧ Below w.heap.size w w' := by
  obtain ⟨b0, b1, a0, a1, P0, P1, Q0, Q1, cSa, cSb, cX, cY, cQ, cR⟩ := C
  have n1 : (b == 0) = false := beq_eq_false_iff_ne.2 (by omega)
  go_enter Tryd.func10, Tryd.ntmps10
  go_wp2_with fail
  refine (cSa _).mono ?_
  rintro e w' ⟨rfl, rfl⟩
  go_wp2_with fail
  refine (cSb _).mono ?_
  rintro e w' ⟨rfl, rfl⟩
  go_wp2_with fail
  refine (cX _).mono ?_
  rintro e w' ⟨rfl, rfl⟩
  go_wp2_with fail
  refine (cY _).mono ?_
  rintro e w' ⟨rfl, rfl⟩
  go_wp2_with fail
  refine (cX _).mono ?_
  rintro e w' ⟨rfl, rfl⟩
  go_wp2_with fail
  refine (cY _).mono ?_
  rintro e w' ⟨rfl, rfl⟩
  go_wp2_with fail
  refine (cQ _).mono ?_
  rintro e w' ⟨rfl, rfl⟩
  go_wp2_with fail
  refine (cR _).mono ?_
  rintro e w' ⟨rfl, rfl⟩
  go_wp2_with fail
  exact bodyPost_ret (v := .agg #[.int .i64 0, .int .u64 Qc]) (by simp [results, Tryd.results10, go_sem]) rfl ⟨rfl, bel_alloc _ _⟩
set_option maxRecDepth 100000 in
set_option maxHeartbeats 2000000 in
theorem dg_e11 (fl x a b X Y P Q Qc Rc : Int) (w : World) (C : DivC x a b X Y P Q (IntKind.u64.wrap (-(P / Q))) (IntKind.u64.wrap (-IntKind.u64.wrap (P - IntKind.u64.wrap (P / Q * Q)))) Qc Rc) (hm : (Y == -1) = false) (eX : decide (X < 0) = true) (eY : decide (Y < 0) = false) (ke : (bits BinOp.and IntKind.i64 fl 4 != 0) = true) (kr : (Rc != 0) = false) :
    Calls Tryd.prog 10 #[.int .i64 5, .int .i64 fl, .int .i64 x, .int .u64 a, .int .u64 b] w fun e w' => e = .returned (.agg #[.int .i64 0, .int .u64 Qc]) ∧ Below w.heap.size w w' := by
  obtain ⟨b0, b1, a0, a1, P0, P1, Q0, Q1, cSa, cSb, cX, cY, cQ, cR⟩ := C
  have n1 : (b == 0) = false := beq_eq_false_iff_ne.2 (by omega)
  go_enter Tryd.func10, Tryd.ntmps10
  go_wp2_with fail
  refine (cSa _).mono ?_
  rintro e w' ⟨rfl, rfl⟩
  go_wp2_with fail
  refine (cSb _).mono ?_
  rintro e w' ⟨rfl, rfl⟩
  go_wp2_with fail
  refine (cX _).mono ?_
  rintro e w' ⟨rfl, rfl⟩
  go_wp2_with fail
  refine (cY _).mono ?_
  rintro e w' ⟨rfl, rfl⟩
  go_wp2_with fail
  refine (cX _).mono ?_
  rintro e w' ⟨rfl, rfl⟩
  go_wp2_with fail
  refine (cY _).mono ?_
  rintro e w' ⟨rfl, rfl⟩
  go_wp2_with fail
  refine (cQ _).mono ?_
  rintro e w' ⟨rfl, rfl⟩
  go_wp2_with fail
  refine (cR _).mono ?_
  rintro e w' ⟨rfl, rfl⟩
  go_wp2_with fail
  exact bodyPost_ret (v := .agg #[.int .i64 0, .int .u64 Qc]) (by simp [results, Tryd.results10, go_sem]) rfl ⟨rfl, bel_alloc _ _⟩
set_option maxRecDepth 100000 in
set_option maxHeartbeats 2000000 in
theorem dm_e10 (fl x a b X P Q Qc Rc : Int) (w : World) (hx : vw x = true) (C : DivC x a b X (-1) P Q (IntKind.u64.wrap (-(P / Q))) (IntKind.u64.wrap (P - IntKind.u64.wrap (P / Q * Q))) Qc Rc) (ht : (a == 2 ^ (x.toNat - 1)) = false) (eX : decide (X < 0) = false) (ke : (bits BinOp.and IntKind.i64 fl 4 != 0) = true) (kr : (Rc != 0) = false) :
    Calls Tryd.prog 10 #[.int .i64 5, .int .i64 fl, .int .i64 x, .int .u64 a, .int .u64 b] w fun e w' => e = .returned (.agg #[.int .i64 0, .int .u64 Qc]) ∧ Below w.heap.size w w' := by
  obtain ⟨b0, b1, a0, a1, P0, P1, Q0, Q1, cSa, cSb, cX, cY, cQ, cR⟩ := C
  have n1 : (b == 0) = false := beq_eq_false_iff_ne.2 (by omega)
  have HT : Hid ((a == 2 ^ (x.toNat - 1)) = false) := ht
  clear ht
  rcases vw_cases hx with rfl | rfl | rfl | rfl | rfl
  all_goals
    clear hx
    have HT' := HT.out
    first | rw [top1] at HT' | rw [top8] at HT' | rw [top16] at HT' | rw [top32] at HT' | rw [top64] at HT'
    go_enter Tryd.func10, Tryd.ntmps10
    go_wp2_with fail
    refine (cSa _).mono ?_
    rintro e w' ⟨rfl, rfl⟩
    go_wp2_with fail
    refine (cSb _).mono ?_
    rintro e w' ⟨rfl, rfl⟩
    go_wp2_with fail
    refine (cX _).mono ?_
    rintro e w' ⟨rfl, rfl⟩
    go_wp2_with fail
    refine (cY _).mono ?_
    rintro e w' ⟨rfl, rfl⟩
    go_wp2_with fail
    refine (cX _).mono ?_
    rintro e w' ⟨rfl, rfl⟩
    go_wp2_with fail
    refine (cY _).mono ?_
    rintro e w' ⟨rfl, rfl⟩
    go_wp2_with fail
    refine (cQ _).mono ?_
    rintro e w' ⟨rfl, rfl⟩
    go_wp2_with fail
    refine (cR _).mono ?_
    rintro e w' ⟨rfl, rfl⟩
    go_wp2_with fail
    exact bodyPost_ret (v := .agg #[.int .i64 0, .int .u64 Qc]) (by simp [results, Tryd.results10, go_sem]) rfl ⟨rfl, bel_alloc _ _⟩
set_option maxRecDepth 100000 in
set_option maxHeartbeats 2000000 in
theorem dm_e01 (fl x a b X P Q Qc Rc : Int) (w : World) (hx : vw x = true) (C : DivC x a b X (-1) P Q (P / Q) (IntKind.u64.wrap (-IntKind.u64.wrap (P - IntKind.u64.wrap (P / Q * Q)))) Qc Rc) (ht : (a == 2 ^ (x.toNat - 1)) = false) (eX : decide (X < 0) = true) (ke : (bits BinOp.and IntKind.i64 fl 4 != 0) = true) (kr : (Rc != 0) = false) :
    Calls Tryd.prog 10 #[.int .i64 5, .int .i64 fl, .int .i64 x, .int .u64 a, .int .u64 b] w fun e w' => e = .returned (.agg #[.int .i64 0, .int .u64 Qc]) ∧ Below w.heap.size w w' := by
  obtain ⟨b0, b1, a0, a1, P0, P1, Q0, Q1, cSa, cSb, cX, cY, cQ, cR⟩ := C
  have n1 : (b == 0) = false := beq_eq_false_iff_ne.2 (by omega)
  have HT : Hid ((a == 2 ^ (x.toNat - 1)) = false) := ht
  clear ht
  rcases vw_cases hx with rfl | rfl | rfl | rfl | rfl
  all_goals
    clear hx
    have HT' := HT.out
    first | rw [top1] at HT' | rw [top8] at HT' | rw [top16] at HT' | rw [top32] at HT' | rw [top64] at HT'
    go_enter Tryd.func10, Tryd.ntmps10
    go_wp2_with fail
    refine (cSa _).mono ?_
    rintro e w' ⟨rfl, rfl⟩
    go_wp2_with fail
    refine (cSb _).mono ?_
    rintro e w' ⟨rfl, rfl⟩
    go_wp2_with fail
    refine (cX _).mono ?_
    rintro e w' ⟨rfl, rfl⟩
    go_wp2_with fail
    refine (cY _).mono ?_
    rintro e w' ⟨rfl, rfl⟩
    go_wp2_with fail
    refine (cX _).mono ?_
    rintro e w' ⟨rfl, rfl⟩
    go_wp2_with fail
    refine (cY _).mono ?_
    rintro e w' ⟨rfl, rfl⟩
    go_wp2_with fail
    refine (cQ _).mono ?_
    rintro e w' ⟨rfl, rfl⟩
    go_wp2_with fail
    refine (cR _).mono ?_
    rintro e w' ⟨rfl, rfl⟩
    go_wp2_with fail
    exact bodyPost_ret (v := .agg #[.int .i64 0, .int .u64 Qc]) (by simp [results, Tryd.results10, go_sem]) rfl ⟨rfl, bel_alloc _ _⟩
set_option maxRecDepth 100000 in
set_option maxHeartbeats 2000000 in
theorem dg_p00 (fl x a b X Y P Q Qc Rc : Int) (w : World) (C : DivC x a b X Y P Q (P / Q) (IntKind.u64.wrap (P - IntKind.u64.wrap (P / Q * Q))) Qc Rc) (hm : (Y == -1) = false) (eX : decide (X < 0) = false) (eY : decide (Y < 0) = false) (ke : (bits BinOp.and IntKind.i64 fl 4 != 0) = true) (kr : (Rc != 0) = true) :
    Calls Tryd.prog 10 #[.int .i64 5, .int .i64 fl, .int .i64 x, .int .u64 a, .int .u64 b] w fun e w' => e = .returned (.agg #[.int .i64 1, .int .u64 0]) ∧ Below w.heap.size w w' := by
  obtain ⟨b0, b1, a0, a1, P0, P1, Q0, Q1, cSa, cSb, cX, cY, cQ, cR⟩ := C
  have n1 : (b == 0) = false := beq_eq_false_iff_ne.2 (by omega)
  go_enter Tryd.func10, Tryd.ntmps10
  go_wp2_with fail
  refine (cSa _).mono ?_
  rintro e w' ⟨rfl, rfl⟩
  go_wp2_with fail
  refine (cSb _).mono ?_
  rintro e w' ⟨rfl, rfl⟩
  go_wp2_with fail
  refine (cX _).mono ?_
  rintro e w' ⟨rfl, rfl⟩
  go_wp2_with fail
  refine (cY _).mono ?_
  rintro e w' ⟨rfl, rfl⟩
  go_wp2_with fail
  refine (cX _).mono ?_
  rintro e w' ⟨rfl, rfl⟩
  go_wp2_with fail
  refine (cY _).mono ?_
  rintro e w' ⟨rfl, rfl⟩
  go_wp2_with fail
  refine (cQ _).mono ?_
  rintro e w' ⟨rfl, rfl⟩
  go_wp2_with fail
  refine (cR _).mono ?_
  rintro e w' ⟨rfl, rfl⟩
  go_wp2_with fail
  exact bodyPost_ret (v := .agg #[.int .i64 1, .int .u64 0]) (by simp [results, Tryd.results10, go_sem]) rfl ⟨rfl, bel_alloc _ _⟩
set_option maxRecDepth 100000 in
set_option maxHeartbeats 2000000 in
theorem dg_p01 (fl x a b X Y P Q Qc Rc : Int) (w : World) (C : DivC x a b X Y P Q (P / Q) (IntKind.u64.wrap (-IntKind.u64.wrap (P - IntKind.u64.wrap (P / Q * Q)))) Qc Rc) (hm : (Y == -1) = false) (eX : decide (X < 0) = true) (eY : decide (Y < 0) = true) (ke : (bits BinOp.and IntKind.i64 fl 4 != 0) = true) (kr : (Rc != 0) = true) :
    Calls Tryd.prog 10 #[.int .i64 5, .int .i64 fl, .int .i64 x, .int .u64 a, .int .u64 b] w fun e w' => e = .returned (.agg #[.int .i64 1, .int .u64 0]) ∧ Below w.heap.size w w' := by
  obtain ⟨b0, b1, a0, a1, P0, P1, Q0, Q1, cSa, cSb, cX, cY, cQ, cR⟩ := C
  have n1 : (b == 0) = false := beq_eq_false_iff_ne.2 (by omega)
  go_enter Tryd.func10, Tryd.ntmps10
  go_wp2_with fail
  refine (cSa _).mono ?_
  rintro e w' ⟨rfl, rfl⟩
  go_wp2_with fail
  refine (cSb _).mono ?_
  rintro e w' ⟨rfl, rfl⟩
  go_wp2_with fail
  refine (cX _).mono ?_
  rintro e w' ⟨rfl, rfl⟩
  go_wp2_with fail
  refine (cY _).mono ?_
  rintro e w' ⟨rfl, rfl⟩
  go_wp2_with fail
  refine (cX _).mono ?_
  rintro e w' ⟨rfl, rfl⟩
  go_wp2_with fail
  refine (cY _).mono ?_
  rintro e w' ⟨rfl, rfl⟩
  go_wp2_with fail
  refine (cQ _).mono ?_
  rintro e w' ⟨rfl, rfl⟩
  go_wp2_with fail
  refine (cR _).mono ?_
  rintro e w' ⟨rfl, rfl⟩
  go_wp2_with fail
  exact bodyPost_ret (v := .agg #[.int .i64 1, .int .u64 0]) (by simp [results, Tryd.results10, go_sem]) rfl ⟨rfl, bel_alloc _ _⟩
set_option maxRecDepth 100000 in
set_option maxHeartbeats 2000000 in
theorem dg_p10 (fl x a b X Y P Q Qc Rc : Int) (w : World) (C : DivC x a b X Y P Q (IntKind.u64.wrap (-(P / Q))) (IntKind.u64.wrap (P - IntKind.u64.wrap (P / Q * Q))) Qc Rc) (hm : (Y == -1) = false) (eX : decide (X < 0) = false) (eY : decide (Y < 0) = true) (ke : (bits BinOp.and IntKind.i64 fl 4 != 0) = true) (kr : (Rc != 0) = true) :
    Calls Tryd.prog 10 #[.int .i64 5, .int .i64 fl, .int .i64 x, .int .u64 a, .int .u64 b] w fun e w' => e = .returned (.agg #[.int .i64 1, .int .u64 0]) ∧ Below w.heap.size w w' := by
  obtain ⟨b0, b1, a0, a1, P0, P1, Q0, Q1, cSa, cSb, cX, cY, cQ, cR⟩ := C
  have n1 : (b == 0) = false := beq_eq_false_iff_ne.2 (by omega)
  go_enter Tryd.func10, Tryd.ntmps10
  go_wp2_with fail
  refine (cSa _).mono ?_
  rintro e w' ⟨rfl, rfl⟩
  go_wp2_with fail
  refine (cSb _).mono ?_
  rintro e w' ⟨rfl, rfl⟩
  go_wp2_with fail
  refine (cX _).mono ?_
  rintro e w' ⟨rfl, rfl⟩
  go_wp2_with fail
  refine (cY _).mono ?_
  rintro e w' ⟨rfl, rfl⟩
  go_wp2_with fail
  refine (cX _).mono ?_
  rintro e w' ⟨rfl, rfl⟩
  go_wp2_with fail
  refine (cY _).mono ?_
  rintro e w' ⟨rfl, rfl⟩
  go_wp2_with fail
  refine (cQ _).mono ?_
  rintro e w' ⟨rfl, rfl⟩
  go_wp2_with fail
  refine (cR _).mono ?_
  rintro e w' ⟨rfl, rfl⟩
  go_wp2_with fail
  exact bodyPost_ret (v := .agg #[.int .i64 1, .int .u64 0]) (by simp [results, Tryd.results10, go_sem]) rfl ⟨rfl, bel_alloc _ _⟩
set_option maxRecDepth 100000 in
set_option maxHeartbeats 2000000 in
theorem dg_p11 (fl x a b X Y P Q Qc Rc : Int) (w : World) (C : DivC x a b X Y P Q (IntKind.u64.wrap (-(P / Q))) (IntKind.u64.wrap (-IntKind.u64.wrap (P - IntKind.u64.wrap (P / Q * Q)))) Qc Rc) (hm : (Y == -1) = false) (eX : decide (X < 0) = true) (eY : decide (Y < 0) = false) (ke : (bits BinOp.and IntKind.i64 fl 4 != 0) = true) (kr : (Rc != 0) = true) :
    Calls Tryd.prog 10 #[.int .i64 5, .int .i64 fl, .int .i64 x, .int .u64 a, .int .u64 b] w fun e w' => e = .returned (.agg #[.int .i64 1, .int .u64 0]) ∧ Below w.heap.size w w' := by
  obtain ⟨b0, b1, a0, a1, P0, P1, Q0, Q1, cSa, cSb, cX, cY, cQ, cR⟩ := C
  have n1 : (b == 0) = false := beq_eq_false_iff_ne.2 (by omega)
  go_enter Tryd.func10, Tryd.ntmps10
  go_wp2_with fail
  refine (cSa _).mono ?_
  rintro e w' ⟨rfl, rfl⟩
  go_wp2_with fail
  refine (cSb _).mono ?_
  rintro e w' ⟨rfl, rfl⟩
  go_wp2_with fail
  refine (cX _).mono ?_
  rintro e w' ⟨rfl, rfl⟩
  go_wp2_with fail
  refine (cY _).mono ?_
  rintro e w' ⟨rfl, rfl⟩
  go_wp2_with fail
  refine (cX _).mono ?_
  rintro e w' ⟨rfl, rfl⟩
  go_wp2_with fail
  refine (cY _).mono ?_
  rintro e w' ⟨rfl, rfl⟩
  go_wp2_with fail
  refine (cQ _).mono ?_
  rintro e w' ⟨rfl, rfl⟩
  go_wp2_with fail
  refine (cR _).mono ?_
  rintro e w' ⟨rfl, rfl⟩
  go_wp2_with fail
  exact bodyPost_ret (v := .agg #[.int .i64 1, .int .u64 0]) (by simp [results, Tryd.results10, go_sem]) rfl ⟨rfl, bel_alloc _ _⟩
set_option maxRecDepth 100000 in
set_option maxHeartbeats 2000000 in
theorem dm_p10 (fl x a b X P Q Qc Rc : Int) (w : World) (hx : vw x = true) (C : DivC x a b X (-1) P Q (IntKind.u64.wrap (-(P / Q))) (IntKind.u64.wrap (P - IntKind.u64.wrap (P / Q * Q))) Qc Rc) (ht : (a == 2 ^ (x.toNat - 1)) = false) (eX : decide (X < 0) = false) (ke : (bits BinOp.and IntKind.i64 fl 4 != 0) = true) (kr : (Rc != 0) = true) :
    Calls Tryd.prog 10 #[.int .i64 5, .int .i64 fl, .int .i64 x, .int .u64 a, .int .u64 b] w fun e w' => e = .returned (.agg #[.int .i64 1, .int .u64 0]) ∧ Below w.heap.size w w' := by
  obtain ⟨b0, b1, a0, a1, P0, P1, Q0, Q1, cSa, cSb, cX, cY, cQ, cR⟩ := C
  have n1 : (b == 0) = false := beq_eq_false_iff_ne.2 (by omega)
  have HT : Hid ((a == 2 ^ (x.toNat - 1)) = false) := ht
  clear ht
  rcases vw_cases hx with rfl | rfl | rfl | rfl | rfl
  all_goals
    clear hx
    have HT' := HT.out
    first | rw [top1] at HT' | rw [top8] at HT' | rw [top16] at HT' | rw [top32] at HT' | rw [top64] at HT'
    go_enter Tryd.func10, Tryd.ntmps10
    go_wp2_with fail
    refine (cSa _).mono ?_
    rintro e w' ⟨rfl, rfl⟩
    go_wp2_with fail
    refine (cSb _).mono ?_
    rintro e w' ⟨rfl, rfl⟩
    go_wp2_with fail
    refine (cX _).mono ?_
    rintro e w' ⟨rfl, rfl⟩
    go_wp2_with fail
    refine (cY _).mono ?_
    rintro e w' ⟨rfl, rfl⟩
    go_wp2_with fail
    refine (cX _).mono ?_
    rintro e w' ⟨rfl, rfl⟩
    go_wp2_with fail
    refine (cY _).mono ?_
    rintro e w' ⟨rfl, rfl⟩
    go_wp2_with fail
    refine (cQ _).mono ?_
    rintro e w' ⟨rfl, rfl⟩
    go_wp2_with fail
    refine (cR _).mono ?_
    rintro e w' ⟨rfl, rfl⟩
    go_wp2_with fail
    exact bodyPost_ret (v := .agg #[.int .i64 1, .int .u64 0]) (by simp [results, Tryd.results10, go_sem]) rfl ⟨rfl, bel_alloc _ _⟩
set_option maxRecDepth 100000 in
set_option maxHeartbeats 2000000 in
theorem dm_p01 (fl x a b X P Q Qc Rc : Int) (w : World) (hx : vw x = true) (C : DivC x a b X (-1) P Q (P / Q) (IntKind.u64.wrap (-IntKind.u64.wrap (P - IntKind.u64.wrap (P / Q * Q)))) Qc Rc) (ht : (a == 2 ^ (x.toNat - 1)) = false) (eX : decide (X < 0) = true) (ke : (bits BinOp.and IntKind.i64 fl 4 != 0) = true) (kr : (Rc != 0) = true) :
    Calls Tryd.prog 10 #[.int .i64 5, .int .i64 fl, .int .i64 x, .int .u64 a, .int .u64 b] w fun e w' => e = .returned (.agg #[.int .i64 1, .int .u64 0]) ∧ Below w.heap.size w w' := by
  obtain ⟨b0, b1, a0, a1, P0, P1, Q0, Q1, cSa, cSb, cX, cY, cQ, cR⟩ := C
  have n1 : (b == 0) = false := beq_eq_false_iff_ne.2 (by omega)
  have HT : Hid ((a == 2 ^ (x.toNat - 1)) = false) := ht
  clear ht
  rcases vw_cases hx with rfl | rfl | rfl | rfl | rfl
  all_goals
    clear hx
    have HT' := HT.out
    first | rw [top1] at HT' | rw [top8] at HT' | rw [top16] at HT' | rw [top32] at HT' | rw [top64] at HT'
    go_enter Tryd.func10, Tryd.ntmps10
    go_wp2_with fail
    refine (cSa _).mono ?_
    rintro e w' ⟨rfl, rfl⟩
    go_wp2_with fail
    refine (cSb _).mono ?_
    rintro e w' ⟨rfl, rfl⟩
    go_wp2_with fail
    refine (cX _).mono ?_
    rintro e w' ⟨rfl, rfl⟩
    go_wp2_with fail
    refine (cY _).mono ?_
    rintro e w' ⟨rfl, rfl⟩
    go_wp2_with fail
    refine (cX _).mono ?_
    rintro e w' ⟨rfl, rfl⟩
    go_wp2_with fail
    refine (cY _).mono ?_
    rintro e w' ⟨rfl, rfl⟩
    go_wp2_with fail
    refine (cQ _).mono ?_
    rintro e w' ⟨rfl, rfl⟩
    go_wp2_with fail
    refine (cR _).mono ?_
    rintro e w' ⟨rfl, rfl⟩
    go_wp2_with fail
    exact bodyPost_ret (v := .agg #[.int .i64 1, .int .u64 0]) (by simp [results, Tryd.results10, go_sem]) rfl ⟨rfl, bel_alloc _ _⟩
set_option maxRecDepth 100000 in
set_option maxHeartbeats 2000000 in
theorem dg_r00 (fl x a b X Y P Q Qc Rc : Int) (w : World) (C : DivC x a b X Y P Q (P / Q) (IntKind.u64.wrap (P - IntKind.u64.wrap (P / Q * Q))) Qc Rc) (hm : (Y == -1) = false) (eX : decide (X < 0) = false) (eY : decide (Y < 0) = false) (ke : (bits BinOp.and IntKind.i64 fl 4 != 0) = false) :
    Calls Tryd.prog 10 #[.int .i64 7, .int .i64 fl, .int .i64 x, .int .u64 a, .int .u64 b] w fun e w' => e = .returned (.agg #[.int .i64 0, .int .u64 Rc]) ∧ Below w.heap.size w w' := by
  obtain ⟨b0, b1, a0, a1, P0, P1, Q0, Q1, cSa, cSb, cX, cY, cQ, cR⟩ := C
  have n1 : (b == 0) = false := beq_eq_false_iff_ne.2 (by omega)
  go_enter Tryd.func10, Tryd.ntmps10
  go_wp2_with fail
  refine (cSa _).mono ?_
  rintro e w' ⟨rfl, rfl⟩
  go_wp2_with fail
  refine (cSb _).mono ?_
  rintro e w' ⟨rfl, rfl⟩
  go_wp2_with fail
  refine (cX _).mono ?_
  rintro e w' ⟨rfl, rfl⟩
  go_wp2_with fail
  refine (cY _).mono ?_
  rintro e w' ⟨rfl, rfl⟩
  go_wp2_with fail
  refine (cX _).mono ?_
  rintro e w' ⟨rfl, rfl⟩
  go_wp2_with fail
  refine (cY _).mono ?_
  rintro e w' ⟨rfl, rfl⟩
  go_wp2_with fail
  refine (cQ _).mono ?_
  rintro e w' ⟨rfl, rfl⟩
  go_wp2_with fail
  refine (cR _).mono ?_
  rintro e w' ⟨rfl, rfl⟩
  go_wp2_with fail
  exact bodyPost_ret (v := .agg #[.int .i64 0, .int .u64 Rc]) (by simp [results, Tryd.results10, go_sem]) rfl ⟨rfl, bel_alloc _ _⟩
set_option maxRecDepth 100000 in
set_option maxHeartbeats 2000000 in
theorem dg_r01 (fl x a b X Y P Q Qc Rc : Int) (w : World) (C : DivC x a b X Y P Q (P / Q) (IntKind.u64.wrap (-IntKind.u64.wrap (P - IntKind.u64.wrap (P / Q * Q)))) Qc Rc) (hm : (Y == -1) = false) (eX : decide (X < 0) = true) (eY : decide (Y < 0) = true) (ke : (bits BinOp.and IntKind.i64 fl 4 != 0) = false) :
    Calls Tryd.prog 10 #[.int .i64 7, .int .i64 fl, .int .i64 x, .int .u64 a, .int .u64 b] w fun e w' => e = .returned (.agg #[.int .i64 0, .int .u64 Rc]) ∧ Below w.heap.size w w' := by
  obtain ⟨b0, b1, a0, a1, P0, P1, Q0, Q1, cSa, cSb, cX, cY, cQ, cR⟩ := C
  have n1 : (b == 0) = false := beq_eq_false_iff_ne.2 (by omega)
  go_enter Tryd.func10, Tryd.ntmps10
  go_wp2_with fail
  refine (cSa _).mono ?_
  rintro e w' ⟨rfl, rfl⟩
  go_wp2_with fail
  refine (cSb _).mono ?_
  rintro e w' ⟨rfl, rfl⟩
  go_wp2_with fail
  refine (cX _).mono ?_
  rintro e w' ⟨rfl, rfl⟩
  go_wp2_with fail
  refine (cY _).mono ?_
  rintro e w' ⟨rfl, rfl⟩
  go_wp2_with fail
  refine (cX _).mono ?_
  rintro e w' ⟨rfl, rfl⟩
  go_wp2_with fail
  refine (cY _).mono ?_
  rintro e w' ⟨rfl, rfl⟩
  go_wp2_with fail
  refine (cQ _).mono ?_
  rintro e w' ⟨rfl, rfl⟩
  go_wp2_with fail
  refine (cR _).mono ?_
  rintro e w' ⟨rfl, rfl⟩
  go_wp2_with fail
  exact bodyPost_ret (v := .agg #[.int .i64 0, .int .u64 Rc]) (by simp [results, Tryd.results10, go_sem]) rfl ⟨rfl, bel_alloc _ _⟩
set_option maxRecDepth 100000 in
set_option maxHeartbeats 2000000 in
theorem dg_r10 (fl x a b X Y P Q Qc Rc : Int) (w : World) (C : DivC x a b X Y P Q (IntKind.u64.wrap (-(P / Q))) (IntKind.u64.wrap (P - IntKind.u64.wrap (P / Q * Q))) Qc Rc) (hm : (Y == -1) = false) (eX : decide (X < 0) = false) (eY : decide (Y < 0) = true) (ke : (bits BinOp.and IntKind.i64 fl 4 != 0) = false) :
    Calls Tryd.prog 10 #[.int .i64 7, .int .i64 fl, .int .i64 x, .int .u64 a, .int .u64 b] w fun e w' => e = .returned (.agg #[.int .i64 0, .int .u64 Rc]) ∧ Below w.heap.size w w' := by
  obtain ⟨b0, b1, a0, a1, P0, P1, Q0, Q1, cSa, cSb, cX, cY, cQ, cR⟩ := C
  have n1 : (b == 0) = false := beq_eq_false_iff_ne.2 (by omega)
  go_enter Tryd.func10, Tryd.ntmps10
  go_wp2_with fail
  refine (cSa _).mono ?_
  rintro e w' ⟨rfl, rfl⟩
  go_wp2_with fail
  refine (cSb _).mono ?_
  rintro e w' ⟨rfl, rfl⟩
  go_wp2_with fail
  refine (cX _).mono ?_
  rintro e w' ⟨rfl, rfl⟩
  go_wp2_with fail
  refine (cY _).mono ?_
  rintro e w' ⟨rfl, rfl⟩
  go_wp2_with fail
  refine (cX _).mono ?_
  rintro e w' ⟨rfl, rfl⟩
  go_wp2_with fail
  refine (cY _).mono ?_
  rintro e w' ⟨rfl, rfl⟩
  go_wp2_with fail
  refine (cQ _).mono ?_
  rintro e w' ⟨rfl, rfl⟩
  go_wp2_with fail
  refine (cR _).mono ?_
  rintro e w' ⟨rfl, rfl⟩
  go_wp2_with fail
  exact bodyPost_ret (v := .agg #[.int .i64 0, .int .u64 Rc]) (by simp [results, Tryd.results10, go_sem]) rfl ⟨rfl, bel_alloc _ _⟩
set_option maxRecDepth 100000 in
set_option maxHeartbeats 2000000 in
theorem dg_r11 (fl x a b X Y P Q Qc Rc : Int) (w : World) (C : DivC x a b X Y P Q (IntKind.u64.wrap (-(P / Q))) (IntKind.u64.wrap (-IntKind.u64.wrap (P - IntKind.u64.wrap (P / Q * Q)))) Qc Rc) (hm : (Y == -1) = false) (eX : decide (X < 0) = true) (eY : decide (Y < 0) = false) (ke : (bits BinOp.and IntKind.i64 fl 4 != 0) = false) :
    Calls Tryd.prog 10 #[.int .i64 7, .int .i64 fl, .int .i64 x, .int .u64 a, .int .u64 b] w fun e w' => e = .returned (.agg #[.int .i64 0, .int .u64 Rc]) ∧ Below w.heap.size w w' := by
  obtain ⟨b0, b1, a0, a1, P0, P1, Q0, Q1, cSa, cSb, cX, cY, cQ, cR⟩ := C
  have n1 : (b == 0) = false := beq_eq_false_iff_ne.2 (by omega)
  go_enter Tryd.func10, Tryd.ntmps10
  go_wp2_with fail
  refine (cSa _).mono ?_
  rintro e w' ⟨rfl, rfl⟩
  go_wp2_with fail
  refine (cSb _).mono ?_
  rintro e w' ⟨rfl, rfl⟩
  go_wp2_with fail
  refine (cX _).mono ?_
  rintro e w' ⟨rfl, rfl⟩
  go_wp2_with fail
  refine (cY _).mono ?_
  rintro e w' ⟨rfl, rfl⟩
  go_wp2_with fail
  refine (cX _).mono ?_
  rintro e w' ⟨rfl, rfl⟩
  go_wp2_with fail
  refine (cY _).mono ?_
  rintro e w' ⟨rfl, rfl⟩
  go_wp2_with fail
  refine (cQ _).mono ?_
  rintro e w' ⟨rfl, rfl⟩
  go_wp2_with fail
  refine (cR _).mono ?_
  rintro e w' ⟨rfl, rfl⟩
  go_wp2_with fail
  exact bodyPost_ret (v := .agg #[.int .i64 0, .int .u64 Rc]) (by simp [results, Tryd.results10, go_sem]) rfl ⟨rfl, bel_alloc _ _⟩
set_option maxRecDepth 100000 in
set_option maxHeartbeats 2000000 in
theorem dm_r10 (fl x a b X P Q Qc Rc : Int) (w : World) (hx : vw x = true) (C : DivC x a b X (-1) P Q (IntKind.u64.wrap (-(P / Q))) (IntKind.u64.wrap (P - IntKind.u64.wrap (P / Q * Q))) Qc Rc) (ht : (a == 2 ^ (x.toNat - 1)) = false) (eX : decide (X < 0) = false) (ke : (bits BinOp.and IntKind.i64 fl 4 != 0) = false) :
    Calls Tryd.prog 10 #[.int .i64 7, .int .i64 fl, .int .i64 x, .int .u64 a, .int .u64 b] w fun e w' => e = .returned (.agg #[.int .i64 0, .int .u64 Rc]) ∧ Below w.heap.size w w' := by
  obtain ⟨b0, b1, a0, a1, P0, P1, Q0, Q1, cSa, cSb, cX, cY, cQ, cR⟩ := C
  have n1 : (b == 0) = false := beq_eq_false_iff_ne.2 (by omega)
  have HT : Hid ((a == 2 ^ (x.toNat - 1)) = false) := ht
  clear ht
  rcases vw_cases hx with rfl | rfl | rfl | rfl | rfl
  all_goals
    clear hx
    have HT' := HT.out
    first | rw [top1] at HT' | rw [top8] at HT' | rw [top16] at HT' | rw [top32] at HT' | rw [top64] at HT'
    go_enter Tryd.func10, Tryd.ntmps10
    go_wp2_with fail
    refine (cSa _).mono ?_
    rintro e w' ⟨rfl, rfl⟩
    go_wp2_with fail
    refine (cSb _).mono ?_
    rintro e w' ⟨rfl, rfl⟩
    go_wp2_with fail
    refine (cX _).mono ?_
    rintro e w' ⟨rfl, rfl⟩
    go_wp2_with fail
    refine (cY _).mono ?_
    rintro e w' ⟨rfl, rfl⟩
    go_wp2_with fail
    refine (cX _).mono ?_
    rintro e w' ⟨rfl, rfl⟩
    go_wp2_with fail
    refine (cY _).mono ?_
    rintro e w' ⟨rfl, rfl⟩
    go_wp2_with fail
    refine (cQ _).mono ?_
    rintro e w' ⟨rfl, rfl⟩
    go_wp2_with fail
    refine (cR _).mono ?_
    rintro e w' ⟨rfl, rfl⟩
    go_wp2_with fail
    exact bodyPost_ret (v := .agg #[.int .i64 0, .int .u64 Rc]) (by simp [results, Tryd.results10, go_sem]) rfl ⟨rfl, bel_alloc _ _⟩
set_option maxRecDepth 100000 in
set_option maxHeartbeats 2000000 in
theorem dm_r01 (fl x a b X P Q Qc Rc : Int) (w : World) (hx : vw x = true) (C : DivC x a b X (-1) P Q (P / Q) (IntKind.u64.wrap (-IntKind.u64.wrap (P - IntKind.u64.wrap (P / Q * Q)))) Qc Rc) (ht : (a == 2 ^ (x.toNat - 1)) = false) (eX : decide (X < 0) = true) (ke : (bits BinOp.and IntKind.i64 fl 4 != 0) = false) :
    Calls Tryd.prog 10 #[.int .i64 7, .int .i64 fl, .int .i64 x, .int .u64 a, .int .u64 b] w fun e w' => e = .returned (.agg #[.int .i64 0, .int .u64 Rc]) ∧ Below w.heap.size w w' := by
  obtain ⟨b0, b1, a0, a1, P0, P1, Q0, Q1, cSa, cSb, cX, cY, cQ, cR⟩ := C
  have n1 : (b == 0) = false := beq_eq_false_iff_ne.2 (by omega)
  have HT : Hid ((a == 2 ^ (x.toNat - 1)) = false) := ht
  clear ht
  rcases vw_cases hx with rfl | rfl | rfl | rfl | rfl
  all_goals
    clear hx
    have HT' := HT.out
    first | rw [top1] at HT' | rw [top8] at HT' | rw [top16] at HT' | rw [top32] at HT' | rw [top64] at HT'
    go_enter Tryd.func10, Tryd.ntmps10
    go_wp2_with fail
    refine (cSa _).mono ?_
    rintro e w' ⟨rfl, rfl⟩
    go_wp2_with fail
    refine (cSb _).mono ?_
    rintro e w' ⟨rfl, rfl⟩
    go_wp2_with fail
    refine (cX _).mono ?_
    rintro e w' ⟨rfl, rfl⟩
    go_wp2_with fail
    refine (cY _).mono ?_
    rintro e w' ⟨rfl, rfl⟩
    go_wp2_with fail
    refine (cX _).mono ?_
    rintro e w' ⟨rfl, rfl⟩
    go_wp2_with fail
    refine (cY _).mono ?_
    rintro e w' ⟨rfl, rfl⟩
    go_wp2_with fail
    refine (cQ _).mono ?_
    rintro e w' ⟨rfl, rfl⟩
    go_wp2_with fail
    refine (cR _).mono ?_
    rintro e w' ⟨rfl, rfl⟩
    go_wp2_with fail
    exact bodyPost_ret (v := .agg #[.int .i64 0, .int .u64 Rc]) (by simp [results, Tryd.results10, go_sem]) rfl ⟨rfl, bel_alloc _ _⟩
set_option maxRecDepth 100000 in
set_option maxHeartbeats 2000000 in
theorem d_least (op fl x a b X : Int) (w : World) (ho : op = 5 ∨ op = 7) (hx : vw x = true) (b0 : 0 < b) (b1 : b ≤ 18446744073709551615) (a0 : 0 ≤ a) (a1 : a ≤ 18446744073709551615)
    (cSa : Ans 26 #[.int .i64 x, .int .u64 a] (.int .i64 X)) (cSb : Ans 26 #[.int .i64 x, .int .u64 b] (.int .i64 (-1))) (ht : (a == 2 ^ (x.toNat - 1)) = true) :
    Calls Tryd.prog 10 #[.int .i64 op, .int .i64 fl, .int .i64 x, .int .u64 a, .int .u64 b] w fun e w' => e = .returned (.agg #[.int .i64 2, .int .u64 0]) ∧ Below w.heap.size w w' := by
  have n1 : (b == 0) = false := beq_eq_false_iff_ne.2 (by omega)
  have HT : Hid ((a == 2 ^ (x.toNat - 1)) = true) := ht
  clear ht
  rcases ho with rfl | rfl
  all_goals
    rcases vw_cases hx with rfl | rfl | rfl | rfl | rfl
    all_goals
      clear hx
      have HT' := HT.out
      first | rw [top1] at HT' | rw [top8] at HT' | rw [top16] at HT' | rw [top32] at HT' | rw [top64] at HT'
      go_enter Tryd.func10, Tryd.ntmps10
      go_wp2_with fail
      refine (cSa _).mono ?_
      rintro e w' ⟨rfl, rfl⟩
      go_wp2_with fail
      refine (cSb _).mono ?_
      rintro e w' ⟨rfl, rfl⟩
      go_wp2_with fail
      exact bodyPost_ret (v := .agg #[.int .i64 2, .int .u64 0]) (by simp [results, Tryd.results10, go_sem]) rfl ⟨rfl, bel_alloc _ _⟩
end Go.Proofs.YtmkhkgliipalaabDoor
