/- Contracts over one translation: the program's quotients and remainders, shifts and bitwise operations answer what the plain functions of words say. -/
import Derived.Test.YtmkhkgliipalaaaDoorAr3
namespace Go.Proofs.YtmkhkgliipalaaaDoor
open Go.ChangeShapes Go.WideShapes Go.ChangeAt Go.RowKit
set_option linter.unusedVariables false
set_option linter.unusedSimpArgs false
set_option maxHeartbeats 1000000 in
theorem qr_rem (op fl q r : Int) (w : World) (ho : op = 6 ∨ op = 7) :
    Calls Tryd.prog 48 #[.int .i64 op, .int .i64 fl, .int .u64 q, .int .u64 r] w fun e w' => e = .returned (.agg #[.int .i64 0, .int .u64 r]) ∧ Below w.heap.size w w' := by
  rcases ho with rfl | rfl
  all_goals
    go_enter Tryd.func48, Tryd.ntmps48
    go_wp2
    exact bodyPost_ret (v := .agg #[.int .i64 0, .int .u64 r]) (by simp [results, Tryd.results48, go_sem]) rfl ⟨rfl, bel_alloc _ _⟩
set_option maxHeartbeats 1000000 in
theorem qr_poison (op fl q r : Int) (w : World) (ho : op = 4 ∨ op = 5) (k : (bits BinOp.and IntKind.i64 fl 4 != 0) = true) (kr : (r != 0) = true) :
    Calls Tryd.prog 48 #[.int .i64 op, .int .i64 fl, .int .u64 q, .int .u64 r] w fun e w' => e = .returned (.agg #[.int .i64 1, .int .u64 0]) ∧ Below w.heap.size w w' := by
  rcases ho with rfl | rfl
  all_goals
    go_enter Tryd.func48, Tryd.ntmps48
    go_wp2
    exact bodyPost_ret (v := .agg #[.int .i64 1, .int .u64 0]) (by simp [results, Tryd.results48, go_sem]) rfl ⟨rfl, bel_alloc _ _⟩
set_option maxHeartbeats 1000000 in
theorem qr_quo (op fl q r : Int) (w : World) (ho : op = 4 ∨ op = 5) (k : (bits BinOp.and IntKind.i64 fl 4 != 0) = false ∨ (r != 0) = false) :
    Calls Tryd.prog 48 #[.int .i64 op, .int .i64 fl, .int .u64 q, .int .u64 r] w fun e w' => e = .returned (.agg #[.int .i64 0, .int .u64 q]) ∧ Below w.heap.size w w' := by
  cases kf : (bits BinOp.and IntKind.i64 fl 4 != 0) with
  | false =>
    clear k
    rcases ho with rfl | rfl
    all_goals
      go_enter Tryd.func48, Tryd.ntmps48
      go_wp2
      exact bodyPost_ret (v := .agg #[.int .i64 0, .int .u64 q]) (by simp [results, Tryd.results48, go_sem]) rfl ⟨rfl, bel_alloc _ _⟩
  | true =>
    have kr : (r != 0) = false := by rcases k with k | k; · rw [kf] at k; cases k
                                     · exact k
    clear k
    rcases ho with rfl | rfl
    all_goals
      go_enter Tryd.func48, Tryd.ntmps48
      go_wp2
      exact bodyPost_ret (v := .agg #[.int .i64 0, .int .u64 q]) (by simp [results, Tryd.results48, go_sem]) rfl ⟨rfl, bel_alloc _ _⟩
set_option maxHeartbeats 1000000 in
theorem divW_zero (op fl a : Int) (w : World) :
    Calls Tryd.prog 29 #[.int .i64 op, .int .i64 fl, .int .u64 a, .int .u64 0] w fun e w' => e = .returned (.agg #[.int .i64 2, .int .u64 0]) ∧ Below w.heap.size w w' := by
  go_enter Tryd.func29, Tryd.ntmps29
  go_wp2_with fail
  exact bodyPost_ret (v := .agg #[.int .i64 2, .int .u64 0]) (by simp [results, Tryd.results29, go_sem]) rfl ⟨rfl, bel_alloc _ _⟩
/-- A result's own block, laid as two zeros, is still so behind a call that makes new memory alone. -/
theorem own_cells {w w1 : World} {n : TypeId} (h : Below ((w.alloc (Obj.cells #[.int .i64 0, .int .u64 0] n)).drew).heap.size (w.alloc (Obj.cells #[.int .i64 0, .int .u64 0] n)).drew w1) :
    w.heap.size < w1.heap.size ∧ w1.cell? ⟨w.heap.size, 0, none⟩ = some (.int .i64 0) ∧ w1.cell? ⟨w.heap.size, 1, none⟩ = some (.int .u64 0) ∧ w1.frozen? ⟨w.heap.size, 0, none⟩ = false ∧ w1.frozen? ⟨w.heap.size, 1, none⟩ = false := by
  have hs := h.size
  simp [go_sem] at hs
  refine ⟨by omega, ?_, ?_, ?_, ?_⟩
  · rw [h.cell (p := ⟨w.heap.size, 0, none⟩) (by simp [go_sem])]; simp [go_sem]
  · rw [h.cell (p := ⟨w.heap.size, 1, none⟩) (by simp [go_sem])]; simp [go_sem]
  · rw [h.frozen (p := ⟨w.heap.size, 0, none⟩) (by simp [go_sem])]; simp [go_sem]
  · rw [h.frozen (p := ⟨w.heap.size, 1, none⟩) (by simp [go_sem])]; simp [go_sem]
theorem own_below {w w1 : World} {o : Obj} (h : Below ((w.alloc o).drew).heap.size (w.alloc o).drew w1) : Below w.heap.size w w1 := bel_trans ((Below.refl _ _).alloc (Nat.le_refl _) _).drew h
/-- What a contract of quotientOrRemainder gives at these arguments. -/
def QR (op fl q r c v : Int) : Prop := ∀ w : World, Calls Tryd.prog 48 #[.int .i64 op, .int .i64 fl, .int .u64 q, .int .u64 r] w fun e w' => e = .returned (.agg #[.int .i64 c, .int .u64 v]) ∧ Below w.heap.size w w'
set_option maxRecDepth 100000 in
set_option maxHeartbeats 1000000 in
theorem divW_raw (op fl a b c v : Int) (w : World) (a0 : 0 ≤ a) (a1 : a ≤ 18446744073709551615) (b0 : 0 < b) (b1 : b ≤ 18446744073709551615) (h : QR op fl (IntKind.u64.wrap (a.tdiv b)) (a.tmod b) c v) :
    Calls Tryd.prog 29 #[.int .i64 op, .int .i64 fl, .int .u64 a, .int .u64 b] w fun e w' => e = .returned (.agg #[.int .i64 c, .int .u64 v]) ∧ Below w.heap.size w w' := by
  have n1 : (b == 0) = false := beq_eq_false_iff_ne.2 (by omega)
  have n2 : ¬ b = 0 := by omega
  go_enter Tryd.func29, Tryd.ntmps29
  go_wp2_with fail
  go_region_with (go_at_call 48; refine (h _).mono ?_; rintro e w1 ⟨rfl, hb1⟩; have z1 := own_cells hb1; obtain ⟨z1, c0, c1, d0, d1⟩ := z1)
  all_goals
    go_wp2_with fail
    exact bodyPost_ret (v := .agg #[.int .i64 c, .int .u64 v]) (by simp [results, Tryd.results29, go_sem, c0, c1, z1]) rfl ⟨rfl, ((own_below hb1).setCell (by simp) _).setCell (by simp) _⟩
set_option maxRecDepth 100000 in
set_option maxHeartbeats 2000000 in
theorem divS_gen (op fl x a b c v : Int) (w : World) (hw : Wid w) (ha : isW x a = true) (hb : isW x b = true) (m0 : (sgnI x b == 0) = false) (m1 : (sgnI x b == -1) = false) (h : QR op fl (cutI x (IntKind.u64.wrap (IntKind.i64.wrap ((sgnI x a).tdiv (sgnI x b))))) (cutI x (IntKind.u64.wrap ((sgnI x a).tmod (sgnI x b)))) c v) :
    Calls Tryd.prog 30 #[.int .i64 op, .int .i64 fl, .int .i64 x, .int .u64 a, .int .u64 b] w fun e w' => e = .returned (.agg #[.int .i64 c, .int .u64 v]) ∧ Below w.heap.size w w' := by
  have HX : Hid (vw x = true) := isW_vw ha
  have HA : Hid (isW x a = true) := ha
  have HB : Hid (isW x b = true) := hb
  have n2 : ¬ sgnI x b = 0 := by simpa using m0
  have hw1 := hw.below (bel_alloc w (Obj.cells #[.int .i64 0, .int .u64 0] 28))
  have hw2 := hw.below ((Below.refl w.heap.size w).alloc (Nat.le_refl _) (Obj.cells #[.int .i64 0, .int .u64 0] 28)).drew
  clear ha hb
  go_enter Tryd.func30, Tryd.ntmps30
  go_wp2_with (first | (go_at_call 14; refine (signedI _ _ _ hw1 (by first | exact HA.out | exact HB.out)).mono ?_; rintro e w' ⟨rfl, rfl⟩))
  go_region_with (first | (go_at_call 16; refine (cut_impl _ _ _ hw2 HX.out (wrapU_bd _).1 (wrapU_bd _).2).mono ?_; rintro e w' ⟨rfl, rfl⟩) | (go_at_call 48; refine (h _).mono ?_; rintro e w1 ⟨rfl, hb1⟩; have z1 := own_cells hb1; obtain ⟨z1, c0, c1, d0, d1⟩ := z1))
  all_goals
    go_wp2_with fail
    exact bodyPost_ret (v := .agg #[.int .i64 c, .int .u64 v]) (by simp [results, Tryd.results30, go_sem, c0, c1, z1]) rfl ⟨rfl, ((own_below hb1).setCell (by simp) _).setCell (by simp) _⟩
set_option maxRecDepth 100000 in
set_option maxHeartbeats 2000000 in
theorem divS_zero (op fl x a b : Int) (w : World) (hw : Wid w) (ha : isW x a = true) (hb : isW x b = true) (m0 : (sgnI x b == 0) = true) :
    Calls Tryd.prog 30 #[.int .i64 op, .int .i64 fl, .int .i64 x, .int .u64 a, .int .u64 b] w fun e w' => e = .returned (.agg #[.int .i64 2, .int .u64 0]) ∧ Below w.heap.size w w' := by
  have HA : Hid (isW x a = true) := ha
  have HB : Hid (isW x b = true) := hb
  have hw1 := hw.below (bel_alloc w (Obj.cells #[.int .i64 0, .int .u64 0] 28))
  clear ha hb
  go_enter Tryd.func30, Tryd.ntmps30
  go_wp2_with (first | (go_at_call 14; refine (signedI _ _ _ hw1 (by first | exact HA.out | exact HB.out)).mono ?_; rintro e w' ⟨rfl, rfl⟩))
  exact bodyPost_ret (v := .agg #[.int .i64 2, .int .u64 0]) (by simp [results, Tryd.results30, go_sem]) rfl ⟨rfl, bel_alloc _ _⟩
end Go.Proofs.YtmkhkgliipalaaaDoor
