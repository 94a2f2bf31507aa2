/- Over one translation: Arith of the program answers what its specification answers, at every argument; the law that compares them answers true. -/
import Derived.Test.YtmkhkgliipalaabDoorSp14
namespace Go.Proofs.YtmkhkgliipalaabDoor
open Go.ChangeShapes Go.WideShapes Go.ChangeAt Go.RowKit
set_option linter.unusedVariables false
set_option linter.unusedSimpArgs false
set_option maxRecDepth 100000 in
set_option maxHeartbeats 2000000 in
theorem arithS_bits (op fl x a b : Int) (w : World) (ho : op = 11 ∨ op = 12 ∨ op = 13) (f0 : 0 ≤ fl) (k0 : (bits BinOp.andNot IntKind.i64 fl 0 != 0) = false) (ha : isW x a = true) (hb : isW x b = true) :
    Calls Tryd.prog 4 #[.int .i64 op, .int .i64 fl, .int .i64 x, .int .u64 a, .int .u64 b] w fun e w' => e = .returned (.agg #[.int .i64 0, .int .u64 (bwI op a b)]) ∧ Below w.heap.size w w' := by
  have HA : Hid (isW x a = true) := ha
  have HB : Hid (isW x b = true) := hb
  have HO : Hid (op = 11 ∨ op = 12 ∨ op = 13) := ho
  clear ha hb ho
  rcases HO.out with rfl | rfl | rfl
  all_goals
    clear HO
    go_enter Tryd.func4, Tryd.ntmps4
    go_wp2_with (first | (go_at_call 7; refine (flags0_s _ _ (by decide)).mono ?_; rintro e w' ⟨rfl, rfl⟩) | (go_at_call 8; refine (isSI _ _ _ (by first | exact HA.out | exact HB.out)).mono ?_; rintro e w' ⟨rfl, rfl⟩))
    exact bodyPost_ret (v := .agg #[.int .i64 0, .int .u64 (bwI _ a b)]) (by simp [results, Tryd.results4, go_sem, bwI]) rfl ⟨rfl, bel_alloc _ _⟩
theorem same_ring (op fl x a b : Int) (ho : op = 1 ∨ op = 2 ∨ op = 3) (f0 : 0 ≤ fl) (k : (bits BinOp.andNot IntKind.i64 fl 3 != 0) = false) (ha : isW x a = true) (hb : isW x b = true) : Same op fl x a b := by
  obtain ⟨c, v, hS, hI⟩ := ring_same op fl x a b ho ha hb
  exact ⟨c, v, fun w => arithS_ring op fl x a b c v w ho f0 k ha hb hS, fun w hw => arith_f1 op fl x a b c v w hw ho k ha hb hI⟩
theorem same_div4 (fl x a b : Int) (f0 : 0 ≤ fl) (k : (bits BinOp.andNot IntKind.i64 fl 4 != 0) = false) (ha : isW x a = true) (hb : isW x b = true) : Same 4 fl x a b := by
  obtain ⟨c, v, hS, hI⟩ := divU_same 4 fl x a b (.inl rfl) ha hb
  exact ⟨c, v, fun w => arithS_dive 4 fl x a b c v w (.inl rfl) f0 k ha hb hS, fun w hw => arith_f2a 4 fl x a b c v w hw rfl k ha hb (fun w _ => hI w)⟩
theorem same_div6 (fl x a b : Int) (f0 : 0 ≤ fl) (k : (bits BinOp.andNot IntKind.i64 fl 0 != 0) = false) (ke : (bits BinOp.and IntKind.i64 fl 4 != 0) = false) (ha : isW x a = true) (hb : isW x b = true) : Same 6 fl x a b := by
  obtain ⟨c, v, hS, hI⟩ := divU_same 6 fl x a b (.inr ⟨rfl, ke⟩) ha hb
  exact ⟨c, v, fun w => arithS_divr 6 fl x a b c v w (.inl rfl) f0 k ha hb hS, fun w hw => arith_f2b 6 fl x a b c v w hw rfl k ha hb (fun w _ => hI w)⟩
theorem same_div5 (fl x a b : Int) (f0 : 0 ≤ fl) (k : (bits BinOp.andNot IntKind.i64 fl 4 != 0) = false) (ha : isW x a = true) (hb : isW x b = true) : Same 5 fl x a b := by
  obtain ⟨c, v, hS, hI⟩ := divSg_same 5 fl x a b (.inl rfl) ha hb
  exact ⟨c, v, fun w => arithS_dive 5 fl x a b c v w (.inr rfl) f0 k ha hb hS, fun w hw => arith_f3a 5 fl x a b c v w hw rfl k ha hb hI⟩
theorem same_div7 (fl x a b : Int) (f0 : 0 ≤ fl) (k : (bits BinOp.andNot IntKind.i64 fl 0 != 0) = false) (ke : (bits BinOp.and IntKind.i64 fl 4 != 0) = false) (ha : isW x a = true) (hb : isW x b = true) : Same 7 fl x a b := by
  obtain ⟨c, v, hS, hI⟩ := divSg_same 7 fl x a b (.inr ⟨rfl, ke⟩) ha hb
  exact ⟨c, v, fun w => arithS_divr 7 fl x a b c v w (.inr rfl) f0 k ha hb hS, fun w hw => arith_f3b 7 fl x a b c v w hw rfl k ha hb hI⟩
theorem same_shl (fl x a b : Int) (f0 : 0 ≤ fl) (k : (bits BinOp.andNot IntKind.i64 fl 3 != 0) = false) (ke : (bits BinOp.and IntKind.i64 fl 4 != 0) = false) (ha : isW x a = true) (hb : isW x b = true) : Same 8 fl x a b := by
  obtain ⟨c, v, hS, hI⟩ := shL_same fl x a b ha hb ke
  exact ⟨c, v, fun w => arithS_shl 8 fl x a b c v w rfl f0 k ha hb hS, fun w hw => arith_f4 8 fl x a b c v w hw rfl k ha hb hI⟩
theorem same_shr (op fl x a b : Int) (ho : op = 9 ∨ op = 10) (f0 : 0 ≤ fl) (k : (bits BinOp.andNot IntKind.i64 fl 4 != 0) = false) (ks : (bits BinOp.and IntKind.i64 fl 1 != 0) = false) (ku : (bits BinOp.and IntKind.i64 fl 2 != 0) = false) (ha : isW x a = true) (hb : isW x b = true) : Same op fl x a b := by
  obtain ⟨c, v, hS, hI⟩ := shR_same op fl x a b ho ha hb ks ku
  exact ⟨c, v, fun w => arithS_shr op fl x a b c v w ho f0 k ha hb hS, fun w hw => arith_f5 op fl x a b c v w hw ho k ha hb hI⟩
theorem same_bits (op fl x a b : Int) (ho : op = 11 ∨ op = 12 ∨ op = 13) (f0 : 0 ≤ fl) (k : (bits BinOp.andNot IntKind.i64 fl 0 != 0) = false) (ha : isW x a = true) (hb : isW x b = true) : Same op fl x a b :=
  ⟨0, bwI op a b, fun w => arithS_bits op fl x a b w ho f0 k ha hb, fun w hw => arith_f6 op fl x a b w hw ho k ha hb⟩
/-- ARITH: the program and its specification answer alike, at every argument. -/
theorem arith_same (op fl x a b : Int) (g0 : -9223372036854775808 ≤ fl) (g1 : fl ≤ 9223372036854775807) (a0 : 0 ≤ a) (a1 : a ≤ 18446744073709551615) (b0 : 0 ≤ b) (b1 : b ≤ 18446744073709551615) : Same op fl x a b := by
  by_cases ho : op < 1 ∨ 13 < op
  · exact same_out op fl x a b ho a0 a1 b0 b1
  · have p0 : 1 ≤ op := by omega
    have p1 : op ≤ 13 := by omega
    have hop : op = 1 ∨ op = 2 ∨ op = 3 ∨ op = 4 ∨ op = 5 ∨ op = 6 ∨ op = 7 ∨ op = 8 ∨ op = 9 ∨ op = 10 ∨ op = 11 ∨ op = 12 ∨ op = 13 := by omega
    clear ho
    have F3 : (bits BinOp.andNot IntKind.i64 fl 3 != 0) = false → 0 ≤ fl := fun k => by have := flags_3 fl g0 g1 k; omega
    have F4 : (bits BinOp.andNot IntKind.i64 fl 4 != 0) = false → 0 ≤ fl := fun k => by have := flags_4 fl g0 g1 k; omega
    have F0 : (bits BinOp.andNot IntKind.i64 fl 0 != 0) = false → 0 ≤ fl := fun k => by have := flags_0 fl g0 g1 k; omega
    have E0 : (bits BinOp.andNot IntKind.i64 fl 0 != 0) = false → (bits BinOp.and IntKind.i64 fl 4 != 0) = false := fun k => by rw [flags_0 fl g0 g1 k]; decide
    have E3 : (bits BinOp.andNot IntKind.i64 fl 3 != 0) = false → (bits BinOp.and IntKind.i64 fl 4 != 0) = false := fun k => by rcases flags_3 fl g0 g1 k with rfl | rfl | rfl | rfl <;> decide
    have S4 : (bits BinOp.andNot IntKind.i64 fl 4 != 0) = false → (bits BinOp.and IntKind.i64 fl 1 != 0) = false := fun k => by rcases flags_4 fl g0 g1 k with rfl | rfl <;> decide
    have U4 : (bits BinOp.andNot IntKind.i64 fl 4 != 0) = false → (bits BinOp.and IntKind.i64 fl 2 != 0) = false := fun k => by rcases flags_4 fl g0 g1 k with rfl | rfl <;> decide
    rcases hop with rfl | rfl | rfl | rfl | rfl | rfl | rfl | rfl | rfl | rfl | rfl | rfl | rfl
    · exact same_in 1 fl x a b 3 p0 p1 a0 a1 b0 b1 (fun w => flags3_c 1 w (by decide)) (fun w => flags3_s 1 w (by decide)) F3 (fun k ha hb => same_ring 1 fl x a b (by decide) (F3 k) k ha hb)
    · exact same_in 2 fl x a b 3 p0 p1 a0 a1 b0 b1 (fun w => flags3_c 2 w (by decide)) (fun w => flags3_s 2 w (by decide)) F3 (fun k ha hb => same_ring 2 fl x a b (by decide) (F3 k) k ha hb)
    · exact same_in 3 fl x a b 3 p0 p1 a0 a1 b0 b1 (fun w => flags3_c 3 w (by decide)) (fun w => flags3_s 3 w (by decide)) F3 (fun k ha hb => same_ring 3 fl x a b (by decide) (F3 k) k ha hb)
    · exact same_in 4 fl x a b 4 p0 p1 a0 a1 b0 b1 (fun w => flags4_c 4 w (by decide)) (fun w => flags4_s 4 w (by decide)) F4 (fun k ha hb => same_div4 fl x a b (F4 k) k ha hb)
    · exact same_in 5 fl x a b 4 p0 p1 a0 a1 b0 b1 (fun w => flags4_c 5 w (by decide)) (fun w => flags4_s 5 w (by decide)) F4 (fun k ha hb => same_div5 fl x a b (F4 k) k ha hb)
    · exact same_in 6 fl x a b 0 p0 p1 a0 a1 b0 b1 (fun w => flags0_c 6 w (by decide)) (fun w => flags0_s 6 w (by decide)) F0 (fun k ha hb => same_div6 fl x a b (F0 k) k (E0 k) ha hb)
    · exact same_in 7 fl x a b 0 p0 p1 a0 a1 b0 b1 (fun w => flags0_c 7 w (by decide)) (fun w => flags0_s 7 w (by decide)) F0 (fun k ha hb => same_div7 fl x a b (F0 k) k (E0 k) ha hb)
    · exact same_in 8 fl x a b 3 p0 p1 a0 a1 b0 b1 (fun w => flags3_c 8 w (by decide)) (fun w => flags3_s 8 w (by decide)) F3 (fun k ha hb => same_shl fl x a b (F3 k) k (E3 k) ha hb)
    · exact same_in 9 fl x a b 4 p0 p1 a0 a1 b0 b1 (fun w => flags4_c 9 w (by decide)) (fun w => flags4_s 9 w (by decide)) F4 (fun k ha hb => same_shr 9 fl x a b (by decide) (F4 k) k (S4 k) (U4 k) ha hb)
    · exact same_in 10 fl x a b 4 p0 p1 a0 a1 b0 b1 (fun w => flags4_c 10 w (by decide)) (fun w => flags4_s 10 w (by decide)) F4 (fun k ha hb => same_shr 10 fl x a b (by decide) (F4 k) k (S4 k) (U4 k) ha hb)
    · exact same_in 11 fl x a b 0 p0 p1 a0 a1 b0 b1 (fun w => flags0_c 11 w (by decide)) (fun w => flags0_s 11 w (by decide)) F0 (fun k ha hb => same_bits 11 fl x a b (by decide) (F0 k) k ha hb)
    · exact same_in 12 fl x a b 0 p0 p1 a0 a1 b0 b1 (fun w => flags0_c 12 w (by decide)) (fun w => flags0_s 12 w (by decide)) F0 (fun k ha hb => same_bits 12 fl x a b (by decide) (F0 k) k ha hb)
    · exact same_in 13 fl x a b 0 p0 p1 a0 a1 b0 b1 (fun w => flags0_c 13 w (by decide)) (fun w => flags0_s 13 w (by decide)) F0 (fun k ha hb => same_bits 13 fl x a b (by decide) (F0 k) k ha hb)
set_option maxHeartbeats 2000000 in
theorem eq_word (a b c d : Int) (w : World) (hac : (a == c) = true) (hbd : (b == d) = true) :
    Calls Tryd.prog 6 #[.agg #[.int .i64 a, .int .u64 b], .agg #[.int .i64 c, .int .u64 d]] w fun e w' => e = .returned (.bool true) ∧ Below w.heap.size w w' := by
  go_enter Tryd.func6, Tryd.ntmps6
  go_wp2
  go_ret
  exact ⟨rfl, bel_trans (bel_alloc _ _) (bel_alloc _ _)⟩
/-- A struct of two words laid behind wa reads as it was laid in each later world. -/
theorem word_cells {wa wb : World} {c r : Int} {n : TypeId} (h : Below (wa.alloc (Obj.cells #[.int .i64 c, .int .u64 r] n)).heap.size (wa.alloc (Obj.cells #[.int .i64 c, .int .u64 r] n)) wb) :
    wa.heap.size < wb.heap.size ∧ wb.cell? ⟨wa.heap.size, 0, none⟩ = some (.int .i64 c) ∧ wb.cell? ⟨wa.heap.size, 1, none⟩ = some (.int .u64 r) := by
  have hs := h.size
  simp at hs
  refine ⟨by omega, ?_, ?_⟩
  · rw [h.cell (p := ⟨wa.heap.size, 0, none⟩) (by simp)]; simp
  · rw [h.cell (p := ⟨wa.heap.size, 1, none⟩) (by simp)]; simp
set_option maxRecDepth 100000 in
set_option maxHeartbeats 2000000 in
/-- THE LAW OF Arith. -/
theorem arith_law (a0 a1 a2 a3 a4 : Int) (w0 : (Lit.int .i64 a0).wf = true) (w1 : (Lit.int .i64 a1).wf = true) (w2 : (Lit.int .i64 a2).wf = true) (w3 : (Lit.int .u64 a3).wf = true) (w4 : (Lit.int .u64 a4).wf = true) (w : World) (hw : Wid w) :
    Calls Tryd.prog 3 #[.int .i64 a0, .int .i64 a1, .int .i64 a2, .int .u64 a3, .int .u64 a4] w fun e w' => e = .returned (.bool true) ∧ Below w.heap.size w w' := by
  have bF := bounds_i64 w1
  have bA := bounds_u64 w3
  have bB := bounds_u64 w4
  obtain ⟨c, v, hS, hI⟩ := arith_same a0 a1 a2 a3 a4 bF.1 bF.2 bA.1 bA.2 bB.1 bB.2
  have HS : Hid (∀ w, Calls Tryd.prog 4 #[.int .i64 a0, .int .i64 a1, .int .i64 a2, .int .u64 a3, .int .u64 a4] w fun e w' => e = .returned (.agg #[.int .i64 c, .int .u64 v]) ∧ Below w.heap.size w w') := hS
  have HI : Hid (∀ w, Wid w → Calls Tryd.prog 5 #[.int .i64 a0, .int .i64 a1, .int .i64 a2, .int .u64 a3, .int .u64 a4] w fun e w' => e = .returned (.agg #[.int .i64 c, .int .u64 v]) ∧ Below w.heap.size w w') := hI
  clear hS hI w0 w1 w2 w3 w4 bF bA bB
  go_enter Tryd.func3, Tryd.ntmps3
  go_wp2_with fail
  refine (HS.out _).mono ?_
  rintro e wa ⟨rfl, hb1⟩
  go_wp2_with fail
  refine (HI.out _ (hw.below (bel_trans hb1 (bel_alloc _ _)))).mono ?_
  rintro e wb ⟨rfl, hb2⟩
  obtain ⟨z2, k20, k21⟩ := word_cells hb2
  go_wp2_with fail
  refine (eq_word _ _ _ _ _ (by simp) (by simp)).mono ?_
  rintro e wc ⟨rfl, hb3⟩
  go_wp2_with fail
  go_ret
  exact ⟨rfl, bel_trans (bel_trans (bel_trans (bel_trans hb1 (bel_alloc _ _)) hb2) (bel_alloc _ _)) hb3⟩
end Go.Proofs.YtmkhkgliipalaabDoor
