/- Contracts over one translation: Arith of the specification hands each family of operations on. -/
import Derived.Test.YtmkhkgliipalaabDoorSp10
namespace Go.Proofs.YtmkhkgliipalaabDoor
open Go.ChangeShapes Go.WideShapes Go.ChangeAt Go.RowKit
set_option linter.unusedVariables false
set_option linter.unusedSimpArgs false
theorem isSI (x v : Int) (w : World) (h : isW x v = true) :
    Calls Tryd.prog 8 #[.int .i64 x, .int .u64 v] w fun e w' => e = .returned (.bool true) ∧ w' = w :=
  isS_yes x v w (u64_bd h).1 (u64_bd h).2 h
set_option maxRecDepth 100000 in
set_option maxHeartbeats 2000000 in
theorem arithS_ring (op fl x a b c v : Int) (w : World) (ho : op = 1 ∨ op = 2 ∨ op = 3) (f0 : 0 ≤ fl) (k0 : (bits BinOp.andNot IntKind.i64 fl 3 != 0) = false) (ha : isW x a = true) (hb : isW x b = true)
    (h : ∀ w, Calls Tryd.prog 9 #[.int .i64 op, .int .i64 fl, .int .i64 x, .int .u64 a, .int .u64 b] w fun e w' => e = .returned (.agg #[.int .i64 c, .int .u64 v]) ∧ Below w.heap.size w w') :
    Calls Tryd.prog 4 #[.int .i64 op, .int .i64 fl, .int .i64 x, .int .u64 a, .int .u64 b] w fun e w' => e = .returned (.agg #[.int .i64 c, .int .u64 v]) ∧ Below w.heap.size w w' := by
  have HA : Hid (isW x a = true) := ha
  have HB : Hid (isW x b = true) := hb
  have HO : Hid (op = 1 ∨ op = 2 ∨ op = 3) := ho
  have H : Hid (∀ w, Calls Tryd.prog 9 #[.int .i64 op, .int .i64 fl, .int .i64 x, .int .u64 a, .int .u64 b] w fun e w' => e = .returned (.agg #[.int .i64 c, .int .u64 v]) ∧ Below w.heap.size w w') := h
  clear h ha hb ho
  rcases HO.out with rfl | rfl | rfl
  all_goals
    clear HO
    go_enter Tryd.func4, Tryd.ntmps4
    go_wp2_with (first | (go_at_call 7; refine (flags3_s _ _ (by decide)).mono ?_; rintro e w' ⟨rfl, rfl⟩) | (go_at_call 8; refine (isSI _ _ _ (by first | exact HA.out | exact HB.out)).mono ?_; rintro e w' ⟨rfl, rfl⟩))
    refine (H.out _).mono ?_
    rintro e w1 ⟨rfl, hb1⟩
    obtain ⟨z1, c0, c1, d0, d1⟩ := own_cells0 hb1
    go_wp2_with fail
    exact bodyPost_ret (v := .agg #[.int .i64 c, .int .u64 v]) (by simp [results, Tryd.results4, go_sem, c0, c1, z1]) rfl ⟨rfl, ((bel_trans (bel_alloc _ _) hb1).setCell (by simp) _).setCell (by simp) _⟩
set_option maxRecDepth 100000 in
set_option maxHeartbeats 2000000 in
theorem arithS_dive (op fl x a b c v : Int) (w : World) (ho : op = 4 ∨ op = 5) (f0 : 0 ≤ fl) (k0 : (bits BinOp.andNot IntKind.i64 fl 4 != 0) = false) (ha : isW x a = true) (hb : isW x b = true)
    (h : ∀ w, Calls Tryd.prog 10 #[.int .i64 op, .int .i64 fl, .int .i64 x, .int .u64 a, .int .u64 b] w fun e w' => e = .returned (.agg #[.int .i64 c, .int .u64 v]) ∧ Below w.heap.size w w') :
    Calls Tryd.prog 4 #[.int .i64 op, .int .i64 fl, .int .i64 x, .int .u64 a, .int .u64 b] w fun e w' => e = .returned (.agg #[.int .i64 c, .int .u64 v]) ∧ Below w.heap.size w w' := by
  have HA : Hid (isW x a = true) := ha
  have HB : Hid (isW x b = true) := hb
  have HO : Hid (op = 4 ∨ op = 5) := ho
  have H : Hid (∀ w, Calls Tryd.prog 10 #[.int .i64 op, .int .i64 fl, .int .i64 x, .int .u64 a, .int .u64 b] w fun e w' => e = .returned (.agg #[.int .i64 c, .int .u64 v]) ∧ Below w.heap.size w w') := h
  clear h ha hb ho
  rcases HO.out with rfl | rfl
  all_goals
    clear HO
    go_enter Tryd.func4, Tryd.ntmps4
    go_wp2_with (first | (go_at_call 7; refine (flags4_s _ _ (by decide)).mono ?_; rintro e w' ⟨rfl, rfl⟩) | (go_at_call 8; refine (isSI _ _ _ (by first | exact HA.out | exact HB.out)).mono ?_; rintro e w' ⟨rfl, rfl⟩))
    refine (H.out _).mono ?_
    rintro e w1 ⟨rfl, hb1⟩
    obtain ⟨z1, c0, c1, d0, d1⟩ := own_cells0 hb1
    go_wp2_with fail
    exact bodyPost_ret (v := .agg #[.int .i64 c, .int .u64 v]) (by simp [results, Tryd.results4, go_sem, c0, c1, z1]) rfl ⟨rfl, ((bel_trans (bel_alloc _ _) hb1).setCell (by simp) _).setCell (by simp) _⟩
set_option maxRecDepth 100000 in
set_option maxHeartbeats 2000000 in
theorem arithS_divr (op fl x a b c v : Int) (w : World) (ho : op = 6 ∨ op = 7) (f0 : 0 ≤ fl) (k0 : (bits BinOp.andNot IntKind.i64 fl 0 != 0) = false) (ha : isW x a = true) (hb : isW x b = true)
    (h : ∀ w, Calls Tryd.prog 10 #[.int .i64 op, .int .i64 fl, .int .i64 x, .int .u64 a, .int .u64 b] w fun e w' => e = .returned (.agg #[.int .i64 c, .int .u64 v]) ∧ Below w.heap.size w w') :
    Calls Tryd.prog 4 #[.int .i64 op, .int .i64 fl, .int .i64 x, .int .u64 a, .int .u64 b] w fun e w' => e = .returned (.agg #[.int .i64 c, .int .u64 v]) ∧ Below w.heap.size w w' := by
  have HA : Hid (isW x a = true) := ha
  have HB : Hid (isW x b = true) := hb
  have HO : Hid (op = 6 ∨ op = 7) := ho
  have H : Hid (∀ w, Calls Tryd.prog 10 #[.int .i64 op, .int .i64 fl, .int .i64 x, .int .u64 a, .int .u64 b] w fun e w' => e = .returned (.agg #[.int .i64 c, .int .u64 v]) ∧ Below w.heap.size w w') := h
  clear h ha hb ho
  rcases HO.out with rfl | rfl
  all_goals
    clear HO
    go_enter Tryd.func4, Tryd.ntmps4
    go_wp2_with (first | (go_at_call 7; refine (flags0_s _ _ (by decide)).mono ?_; rintro e w' ⟨rfl, rfl⟩) | (go_at_call 8; refine (isSI _ _ _ (by first | exact HA.out | exact HB.out)).mono ?_; rintro e w' ⟨rfl, rfl⟩))
    refine (H.out _).mono ?_
    rintro e w1 ⟨rfl, hb1⟩
    obtain ⟨z1, c0, c1, d0, d1⟩ := own_cells0 hb1
    go_wp2_with fail
    exact bodyPost_ret (v := .agg #[.int .i64 c, .int .u64 v]) (by simp [results, Tryd.results4, go_sem, c0, c1, z1]) rfl ⟨rfl, ((bel_trans (bel_alloc _ _) hb1).setCell (by simp) _).setCell (by simp) _⟩
set_option maxRecDepth 100000 in
set_option maxHeartbeats 2000000 in
theorem arithS_shl (op fl x a b c v : Int) (w : World) (ho : op = 8) (f0 : 0 ≤ fl) (k0 : (bits BinOp.andNot IntKind.i64 fl 3 != 0) = false) (ha : isW x a = true) (hb : isW x b = true)
    (h : ∀ w, Calls Tryd.prog 11 #[.int .i64 op, .int .i64 fl, .int .i64 x, .int .u64 a, .int .u64 b] w fun e w' => e = .returned (.agg #[.int .i64 c, .int .u64 v]) ∧ Below w.heap.size w w') :
    Calls Tryd.prog 4 #[.int .i64 op, .int .i64 fl, .int .i64 x, .int .u64 a, .int .u64 b] w fun e w' => e = .returned (.agg #[.int .i64 c, .int .u64 v]) ∧ Below w.heap.size w w' := by
  have HA : Hid (isW x a = true) := ha
  have HB : Hid (isW x b = true) := hb
  have HO : Hid (op = 8) := ho
  have H : Hid (∀ w, Calls Tryd.prog 11 #[.int .i64 op, .int .i64 fl, .int .i64 x, .int .u64 a, .int .u64 b] w fun e w' => e = .returned (.agg #[.int .i64 c, .int .u64 v]) ∧ Below w.heap.size w w') := h
  clear h ha hb ho
  rcases HO.out with rfl
  all_goals
    clear HO
    go_enter Tryd.func4, Tryd.ntmps4
    go_wp2_with (first | (go_at_call 7; refine (flags3_s _ _ (by decide)).mono ?_; rintro e w' ⟨rfl, rfl⟩) | (go_at_call 8; refine (isSI _ _ _ (by first | exact HA.out | exact HB.out)).mono ?_; rintro e w' ⟨rfl, rfl⟩))
    refine (H.out _).mono ?_
    rintro e w1 ⟨rfl, hb1⟩
    obtain ⟨z1, c0, c1, d0, d1⟩ := own_cells0 hb1
    go_wp2_with fail
    exact bodyPost_ret (v := .agg #[.int .i64 c, .int .u64 v]) (by simp [results, Tryd.results4, go_sem, c0, c1, z1]) rfl ⟨rfl, ((bel_trans (bel_alloc _ _) hb1).setCell (by simp) _).setCell (by simp) _⟩
set_option maxRecDepth 100000 in
set_option maxHeartbeats 2000000 in
theorem arithS_shr (op fl x a b c v : Int) (w : World) (ho : op = 9 ∨ op = 10) (f0 : 0 ≤ fl) (k0 : (bits BinOp.andNot IntKind.i64 fl 4 != 0) = false) (ha : isW x a = true) (hb : isW x b = true)
    (h : ∀ w, Calls Tryd.prog 11 #[.int .i64 op, .int .i64 fl, .int .i64 x, .int .u64 a, .int .u64 b] w fun e w' => e = .returned (.agg #[.int .i64 c, .int .u64 v]) ∧ Below w.heap.size w w') :
    Calls Tryd.prog 4 #[.int .i64 op, .int .i64 fl, .int .i64 x, .int .u64 a, .int .u64 b] w fun e w' => e = .returned (.agg #[.int .i64 c, .int .u64 v]) ∧ Below w.heap.size w w' := by
  have HA : Hid (isW x a = true) := ha
  have HB : Hid (isW x b = true) := hb
  have HO : Hid (op = 9 ∨ op = 10) := ho
  have H : Hid (∀ w, Calls Tryd.prog 11 #[.int .i64 op, .int .i64 fl, .int .i64 x, .int .u64 a, .int .u64 b] w fun e w' => e = .returned (.agg #[.int .i64 c, .int .u64 v]) ∧ Below w.heap.size w w') := h
  clear h ha hb ho
  rcases HO.out with rfl | rfl
  all_goals
    clear HO
    go_enter Tryd.func4, Tryd.ntmps4
    go_wp2_with (first | (go_at_call 7; refine (flags4_s _ _ (by decide)).mono ?_; rintro e w' ⟨rfl, rfl⟩) | (go_at_call 8; refine (isSI _ _ _ (by first | exact HA.out | exact HB.out)).mono ?_; rintro e w' ⟨rfl, rfl⟩))
    refine (H.out _).mono ?_
    rintro e w1 ⟨rfl, hb1⟩
    obtain ⟨z1, c0, c1, d0, d1⟩ := own_cells0 hb1
    go_wp2_with fail
    exact bodyPost_ret (v := .agg #[.int .i64 c, .int .u64 v]) (by simp [results, Tryd.results4, go_sem, c0, c1, z1]) rfl ⟨rfl, ((bel_trans (bel_alloc _ _) hb1).setCell (by simp) _).setCell (by simp) _⟩
end Go.Proofs.YtmkhkgliipalaabDoor
