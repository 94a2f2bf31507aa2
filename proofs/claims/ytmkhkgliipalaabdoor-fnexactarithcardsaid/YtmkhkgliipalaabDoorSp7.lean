/- Contracts over one translation: the specification's sums, differences and products answer what the program's answer. -/
import Derived.Test.YtmkhkgliipalaabDoorSp6
namespace Go.Proofs.YtmkhkgliipalaabDoor
open Go.ChangeShapes Go.WideShapes Go.ChangeAt Go.RowKit
set_option linter.unusedVariables false
set_option linter.unusedSimpArgs false
theorem ret_res {a b d : Int} (h : b = d) : Ending.returned (.agg #[.int .i64 a, .int .u64 b]) = .returned (.agg #[.int .i64 a, .int .u64 d]) := by rw [h]
theorem field_lo (p q : Int) (W : World) : (Instr.field 36 (.agg #[.int .u64 p, .int .u64 q]) 1).run Tryd.prog W = .ok (.int .u64 q) W := by kernel_rfl
theorem overS_any (op x a b : Int) (r : Bool) (w : World) (ho : op = 1 ∨ op = 2 ∨ op = 3) (ha : isW x a = true) (hb : isW x b = true) (h : fitS x (arT op (sgnI x a) (sgnI x b)) = !r) :
    Calls Tryd.prog 23 #[.int .i64 op, .int .i64 x, .int .u64 a, .int .u64 b] w fun e w' => e = .returned (.bool r) ∧ Below w.heap.size w w' := by
  have h' : r = !fitS x (arT op (sgnI x a) (sgnI x b)) := by rw [h]; simp
  rw [h']
  rcases ho with rfl | rfl | rfl
  · exact overS_add x a b w ha hb
  · exact overS_sub x a b w ha hb
  · exact overS_mul x a b w ha hb
theorem overW_any (op x a b : Int) (r : Bool) (w : World) (ho : op = 1 ∨ op = 2 ∨ op = 3) (ha : isW x a = true) (hb : isW x b = true) (h : fitU x (arT op a b) = !r) :
    Calls Tryd.prog 24 #[.int .i64 op, .int .i64 x, .int .u64 a, .int .u64 b] w fun e w' => e = .returned (.bool r) ∧ Below w.heap.size w w' := by
  have h' : r = !fitU x (arT op a b) := by rw [h]; simp
  rw [h']
  rcases ho with rfl | rfl | rfl
  · exact overW_add x a b w ha hb
  · exact overW_sub x a b w ha hb
  · exact overW_mul x a b w ha hb

set_option maxRecDepth 100000 in
set_option maxHeartbeats 2000000 in
theorem ringS_1_1 (fl x a b : Int) (w : World) (ha : isW x a = true) (hb : isW x b = true) (ks : (bits BinOp.and IntKind.i64 fl 1 != 0) = false) (ku : (bits BinOp.and IntKind.i64 fl 2 != 0) = false) :
    Calls Tryd.prog 9 #[.int .i64 1, .int .i64 fl, .int .i64 x, .int .u64 a, .int .u64 b] w fun e w' => e = .returned (.agg #[.int .i64 0, .int .u64 (cutI x (wLo (arT 1 a b)))]) ∧ Below w.heap.size w w' := by
  have HX : Hid (vw x = true) := isW_vw ha
  have HA : Hid (isW x a = true) := ha
  have HB : Hid (isW x b = true) := hb
  have ua := u64_bd ha
  have ub := u64_bd hb
  clear ha hb
  go_enter Tryd.func9, Tryd.ntmps9
  go_wp2_with fail
  refine (cut_spec _ _ _ HX.out (wrapU_bd _).1 (wrapU_bd _).2).mono ?_
  rintro e w' ⟨rfl, rfl⟩
  go_wp2_with fail
  exact bodyPost_ret (v := .agg #[.int .i64 0, .int .u64 (cutI x (IntKind.u64.wrap (a + b)))]) (by simp [results, Tryd.results9, go_sem]) rfl ⟨ret_res (by simp [arT, wLo, IntKind.wrap_u64]), bel_alloc _ _⟩
set_option maxRecDepth 100000 in
set_option maxHeartbeats 2000000 in
theorem ringS_1_2 (fl x a b : Int) (w : World) (ha : isW x a = true) (hb : isW x b = true) (ks : (bits BinOp.and IntKind.i64 fl 1 != 0) = false) (ku : (bits BinOp.and IntKind.i64 fl 2 != 0) = false) :
    Calls Tryd.prog 9 #[.int .i64 2, .int .i64 fl, .int .i64 x, .int .u64 a, .int .u64 b] w fun e w' => e = .returned (.agg #[.int .i64 0, .int .u64 (cutI x (wLo (arT 2 a b)))]) ∧ Below w.heap.size w w' := by
  have HX : Hid (vw x = true) := isW_vw ha
  have HA : Hid (isW x a = true) := ha
  have HB : Hid (isW x b = true) := hb
  have ua := u64_bd ha
  have ub := u64_bd hb
  clear ha hb
  go_enter Tryd.func9, Tryd.ntmps9
  go_wp2_with fail
  refine (cut_spec _ _ _ HX.out (wrapU_bd _).1 (wrapU_bd _).2).mono ?_
  rintro e w' ⟨rfl, rfl⟩
  go_wp2_with fail
  exact bodyPost_ret (v := .agg #[.int .i64 0, .int .u64 (cutI x (IntKind.u64.wrap (a - b)))]) (by simp [results, Tryd.results9, go_sem]) rfl ⟨ret_res (by simp [arT, wLo, IntKind.wrap_u64]), bel_alloc _ _⟩
set_option maxRecDepth 100000 in
set_option maxHeartbeats 2000000 in
theorem ringS_1_3 (fl x a b : Int) (w : World) (ha : isW x a = true) (hb : isW x b = true) (ks : (bits BinOp.and IntKind.i64 fl 1 != 0) = false) (ku : (bits BinOp.and IntKind.i64 fl 2 != 0) = false) :
    Calls Tryd.prog 9 #[.int .i64 3, .int .i64 fl, .int .i64 x, .int .u64 a, .int .u64 b] w fun e w' => e = .returned (.agg #[.int .i64 0, .int .u64 (cutI x (wLo (arT 3 a b)))]) ∧ Below w.heap.size w w' := by
  have HX : Hid (vw x = true) := isW_vw ha
  have HA : Hid (isW x a = true) := ha
  have HB : Hid (isW x b = true) := hb
  have ua := u64_bd ha
  have ub := u64_bd hb
  have FL := field_lo
  clear ha hb
  go_enter Tryd.func9, Tryd.ntmps9
  go_wp2_with fail
  refine (product_spec _ _ _ ua.1 ua.2 ub.1 ub.2).mono ?_
  rintro e w1 ⟨rfl, hb1⟩
  have hb1' := hb1
  obtain ⟨z, c0, c1, d0, d1⟩ := own_cells0 hb1'
  go_wp2_with fail
  refine (cut_spec _ _ _ HX.out (wLo_bd _).1 (wLo_bd _).2).mono ?_
  rintro e w' ⟨rfl, rfl⟩
  go_wp2_with fail
  exact bodyPost_ret (v := .agg #[.int .i64 0, .int .u64 (cutI x (wLo (a * b)))]) (by simp [results, Tryd.results9, go_sem, c0, c1, z]) rfl ⟨ret_res (by simp [arT, wLo, IntKind.wrap_u64]), ((bel_trans (bel_alloc _ _) hb1').setCell (by simp) _).setCell (by simp) _⟩
set_option maxRecDepth 100000 in
set_option maxHeartbeats 2000000 in
theorem ringS_2_1 (fl x a b : Int) (w : World) (ha : isW x a = true) (hb : isW x b = true) (ks : (bits BinOp.and IntKind.i64 fl 1 != 0) = false) (ku : (bits BinOp.and IntKind.i64 fl 2 != 0) = true) (hu : fitU x (arT 1 a b) = false) :
    Calls Tryd.prog 9 #[.int .i64 1, .int .i64 fl, .int .i64 x, .int .u64 a, .int .u64 b] w fun e w' => e = .returned (.agg #[.int .i64 1, .int .u64 (0)]) ∧ Below w.heap.size w w' := by
  have HX : Hid (vw x = true) := isW_vw ha
  have HA : Hid (isW x a = true) := ha
  have HB : Hid (isW x b = true) := hb
  have ua := u64_bd ha
  have ub := u64_bd hb
  have HU : Hid (fitU x (arT 1 a b) = false) := hu
  clear hu
  clear ha hb
  go_enter Tryd.func9, Tryd.ntmps9
  go_wp2_with fail
  refine (overW_any _ _ _ _ true _ (by decide) HA.out HB.out HU.out).mono ?_
  rintro e w1 ⟨rfl, hb1⟩
  have hb1' := hb1
  obtain ⟨z, c0, c1, d0, d1⟩ := own_cells0 hb1'
  go_wp2_with fail
  exact bodyPost_ret (v := .agg #[.int .i64 1, .int .u64 (0)]) (by simp [results, Tryd.results9, go_sem, c0, c1, z]) rfl ⟨ret_res rfl, ((bel_trans (bel_alloc _ _) hb1').setCell (by simp) _).setCell (by simp) _⟩
set_option maxRecDepth 100000 in
set_option maxHeartbeats 2000000 in
theorem ringS_2_2 (fl x a b : Int) (w : World) (ha : isW x a = true) (hb : isW x b = true) (ks : (bits BinOp.and IntKind.i64 fl 1 != 0) = false) (ku : (bits BinOp.and IntKind.i64 fl 2 != 0) = true) (hu : fitU x (arT 2 a b) = false) :
    Calls Tryd.prog 9 #[.int .i64 2, .int .i64 fl, .int .i64 x, .int .u64 a, .int .u64 b] w fun e w' => e = .returned (.agg #[.int .i64 1, .int .u64 (0)]) ∧ Below w.heap.size w w' := by
  have HX : Hid (vw x = true) := isW_vw ha
  have HA : Hid (isW x a = true) := ha
  have HB : Hid (isW x b = true) := hb
  have ua := u64_bd ha
  have ub := u64_bd hb
  have HU : Hid (fitU x (arT 2 a b) = false) := hu
  clear hu
  clear ha hb
  go_enter Tryd.func9, Tryd.ntmps9
  go_wp2_with fail
  refine (overW_any _ _ _ _ true _ (by decide) HA.out HB.out HU.out).mono ?_
  rintro e w1 ⟨rfl, hb1⟩
  have hb1' := hb1
  obtain ⟨z, c0, c1, d0, d1⟩ := own_cells0 hb1'
  go_wp2_with fail
  exact bodyPost_ret (v := .agg #[.int .i64 1, .int .u64 (0)]) (by simp [results, Tryd.results9, go_sem, c0, c1, z]) rfl ⟨ret_res rfl, ((bel_trans (bel_alloc _ _) hb1').setCell (by simp) _).setCell (by simp) _⟩
set_option maxRecDepth 100000 in
set_option maxHeartbeats 2000000 in
theorem ringS_2_3 (fl x a b : Int) (w : World) (ha : isW x a = true) (hb : isW x b = true) (ks : (bits BinOp.and IntKind.i64 fl 1 != 0) = false) (ku : (bits BinOp.and IntKind.i64 fl 2 != 0) = true) (hu : fitU x (arT 3 a b) = false) :
    Calls Tryd.prog 9 #[.int .i64 3, .int .i64 fl, .int .i64 x, .int .u64 a, .int .u64 b] w fun e w' => e = .returned (.agg #[.int .i64 1, .int .u64 (0)]) ∧ Below w.heap.size w w' := by
  have HX : Hid (vw x = true) := isW_vw ha
  have HA : Hid (isW x a = true) := ha
  have HB : Hid (isW x b = true) := hb
  have ua := u64_bd ha
  have ub := u64_bd hb
  have HU : Hid (fitU x (arT 3 a b) = false) := hu
  clear hu
  have FL := field_lo
  clear ha hb
  go_enter Tryd.func9, Tryd.ntmps9
  go_wp2_with fail
  refine (overW_any _ _ _ _ true _ (by decide) HA.out HB.out HU.out).mono ?_
  rintro e w1 ⟨rfl, hb1⟩
  have hb1' := hb1
  obtain ⟨z, c0, c1, d0, d1⟩ := own_cells0 hb1'
  go_wp2_with fail
  exact bodyPost_ret (v := .agg #[.int .i64 1, .int .u64 (0)]) (by simp [results, Tryd.results9, go_sem, c0, c1, z]) rfl ⟨ret_res rfl, ((bel_trans (bel_alloc _ _) hb1').setCell (by simp) _).setCell (by simp) _⟩
set_option maxRecDepth 100000 in
set_option maxHeartbeats 2000000 in
theorem ringS_3_1 (fl x a b : Int) (w : World) (ha : isW x a = true) (hb : isW x b = true) (ks : (bits BinOp.and IntKind.i64 fl 1 != 0) = false) (ku : (bits BinOp.and IntKind.i64 fl 2 != 0) = true) (hu : fitU x (arT 1 a b) = true) :
    Calls Tryd.prog 9 #[.int .i64 1, .int .i64 fl, .int .i64 x, .int .u64 a, .int .u64 b] w fun e w' => e = .returned (.agg #[.int .i64 0, .int .u64 (cutI x (wLo (arT 1 a b)))]) ∧ Below w.heap.size w w' := by
  have HX : Hid (vw x = true) := isW_vw ha
  have HA : Hid (isW x a = true) := ha
  have HB : Hid (isW x b = true) := hb
  have ua := u64_bd ha
  have ub := u64_bd hb
  have HU : Hid (fitU x (arT 1 a b) = true) := hu
  clear hu
  clear ha hb
  go_enter Tryd.func9, Tryd.ntmps9
  go_wp2_with fail
  refine (overW_any _ _ _ _ false _ (by decide) HA.out HB.out HU.out).mono ?_
  rintro e w1 ⟨rfl, hb1⟩
  have hb1' := hb1
  obtain ⟨z, c0, c1, d0, d1⟩ := own_cells0 hb1'
  go_wp2_with fail
  refine (cut_spec _ _ _ HX.out (wrapU_bd _).1 (wrapU_bd _).2).mono ?_
  rintro e w' ⟨rfl, rfl⟩
  go_wp2_with fail
  exact bodyPost_ret (v := .agg #[.int .i64 0, .int .u64 (cutI x (IntKind.u64.wrap (a + b)))]) (by simp [results, Tryd.results9, go_sem, c0, c1, z]) rfl ⟨ret_res (by simp [arT, wLo, IntKind.wrap_u64]), ((bel_trans (bel_alloc _ _) hb1').setCell (by simp) _).setCell (by simp) _⟩
set_option maxRecDepth 100000 in
set_option maxHeartbeats 2000000 in
theorem ringS_3_2 (fl x a b : Int) (w : World) (ha : isW x a = true) (hb : isW x b = true) (ks : (bits BinOp.and IntKind.i64 fl 1 != 0) = false) (ku : (bits BinOp.and IntKind.i64 fl 2 != 0) = true) (hu : fitU x (arT 2 a b) = true) :
    Calls Tryd.prog 9 #[.int .i64 2, .int .i64 fl, .int .i64 x, .int .u64 a, .int .u64 b] w fun e w' => e = .returned (.agg #[.int .i64 0, .int .u64 (cutI x (wLo (arT 2 a b)))]) ∧ Below w.heap.size w w' := by
  have HX : Hid (vw x = true) := isW_vw ha
  have HA : Hid (isW x a = true) := ha
  have HB : Hid (isW x b = true) := hb
  have ua := u64_bd ha
  have ub := u64_bd hb
  have HU : Hid (fitU x (arT 2 a b) = true) := hu
  clear hu
  clear ha hb
  go_enter Tryd.func9, Tryd.ntmps9
  go_wp2_with fail
  refine (overW_any _ _ _ _ false _ (by decide) HA.out HB.out HU.out).mono ?_
  rintro e w1 ⟨rfl, hb1⟩
  have hb1' := hb1
  obtain ⟨z, c0, c1, d0, d1⟩ := own_cells0 hb1'
  go_wp2_with fail
  refine (cut_spec _ _ _ HX.out (wrapU_bd _).1 (wrapU_bd _).2).mono ?_
  rintro e w' ⟨rfl, rfl⟩
  go_wp2_with fail
  exact bodyPost_ret (v := .agg #[.int .i64 0, .int .u64 (cutI x (IntKind.u64.wrap (a - b)))]) (by simp [results, Tryd.results9, go_sem, c0, c1, z]) rfl ⟨ret_res (by simp [arT, wLo, IntKind.wrap_u64]), ((bel_trans (bel_alloc _ _) hb1').setCell (by simp) _).setCell (by simp) _⟩
set_option maxRecDepth 100000 in
set_option maxHeartbeats 2000000 in
theorem ringS_3_3 (fl x a b : Int) (w : World) (ha : isW x a = true) (hb : isW x b = true) (ks : (bits BinOp.and IntKind.i64 fl 1 != 0) = false) (ku : (bits BinOp.and IntKind.i64 fl 2 != 0) = true) (hu : fitU x (arT 3 a b) = true) :
    Calls Tryd.prog 9 #[.int .i64 3, .int .i64 fl, .int .i64 x, .int .u64 a, .int .u64 b] w fun e w' => e = .returned (.agg #[.int .i64 0, .int .u64 (cutI x (wLo (arT 3 a b)))]) ∧ Below w.heap.size w w' := by
  have HX : Hid (vw x = true) := isW_vw ha
  have HA : Hid (isW x a = true) := ha
  have HB : Hid (isW x b = true) := hb
  have ua := u64_bd ha
  have ub := u64_bd hb
  have HU : Hid (fitU x (arT 3 a b) = true) := hu
  clear hu
  have FL := field_lo
  clear ha hb
  go_enter Tryd.func9, Tryd.ntmps9
  go_wp2_with fail
  refine (overW_any _ _ _ _ false _ (by decide) HA.out HB.out HU.out).mono ?_
  rintro e w1 ⟨rfl, hb1⟩
  have hb1' := hb1
  go_wp2_with fail
  refine (product_spec _ _ _ ua.1 ua.2 ub.1 ub.2).mono ?_
  rintro e w2 ⟨rfl, hb2⟩
  have hb102 := bel_trans hb1' hb2
  clear hb1'
  have hb2' := hb102
  obtain ⟨z, c0, c1, d0, d1⟩ := own_cells0 hb2'
  go_wp2_with fail
  refine (cut_spec _ _ _ HX.out (wLo_bd _).1 (wLo_bd _).2).mono ?_
  rintro e w' ⟨rfl, rfl⟩
  go_wp2_with fail
  exact bodyPost_ret (v := .agg #[.int .i64 0, .int .u64 (cutI x (wLo (a * b)))]) (by simp [results, Tryd.results9, go_sem, c0, c1, z]) rfl ⟨ret_res (by simp [arT, wLo, IntKind.wrap_u64]), ((bel_trans (bel_alloc _ _) hb2').setCell (by simp) _).setCell (by simp) _⟩
set_option maxRecDepth 100000 in
set_option maxHeartbeats 2000000 in
theorem ringS_4_1 (fl x a b : Int) (w : World) (ha : isW x a = true) (hb : isW x b = true) (ks : (bits BinOp.and IntKind.i64 fl 1 != 0) = true) (hs : fitS x (arT 1 (sgnI x a) (sgnI x b)) = false) :
    Calls Tryd.prog 9 #[.int .i64 1, .int .i64 fl, .int .i64 x, .int .u64 a, .int .u64 b] w fun e w' => e = .returned (.agg #[.int .i64 1, .int .u64 (0)]) ∧ Below w.heap.size w w' := by
  have HX : Hid (vw x = true) := isW_vw ha
  have HA : Hid (isW x a = true) := ha
  have HB : Hid (isW x b = true) := hb
  have ua := u64_bd ha
  have ub := u64_bd hb
  have HS : Hid (fitS x (arT 1 (sgnI x a) (sgnI x b)) = false) := hs
  clear hs
  clear ha hb
  go_enter Tryd.func9, Tryd.ntmps9
  go_wp2_with fail
  refine (overS_any _ _ _ _ true _ (by decide) HA.out HB.out HS.out).mono ?_
  rintro e w1 ⟨rfl, hb1⟩
  have hb1' := hb1
  obtain ⟨z, c0, c1, d0, d1⟩ := own_cells0 hb1'
  go_wp2_with fail
  exact bodyPost_ret (v := .agg #[.int .i64 1, .int .u64 (0)]) (by simp [results, Tryd.results9, go_sem, c0, c1, z]) rfl ⟨ret_res rfl, ((bel_trans (bel_alloc _ _) hb1').setCell (by simp) _).setCell (by simp) _⟩
set_option maxRecDepth 100000 in
set_option maxHeartbeats 2000000 in
theorem ringS_4_2 (fl x a b : Int) (w : World) (ha : isW x a = true) (hb : isW x b = true) (ks : (bits BinOp.and IntKind.i64 fl 1 != 0) = true) (hs : fitS x (arT 2 (sgnI x a) (sgnI x b)) = false) :
    Calls Tryd.prog 9 #[.int .i64 2, .int .i64 fl, .int .i64 x, .int .u64 a, .int .u64 b] w fun e w' => e = .returned (.agg #[.int .i64 1, .int .u64 (0)]) ∧ Below w.heap.size w w' := by
  have HX : Hid (vw x = true) := isW_vw ha
  have HA : Hid (isW x a = true) := ha
  have HB : Hid (isW x b = true) := hb
  have ua := u64_bd ha
  have ub := u64_bd hb
  have HS : Hid (fitS x (arT 2 (sgnI x a) (sgnI x b)) = false) := hs
  clear hs
  clear ha hb
  go_enter Tryd.func9, Tryd.ntmps9
  go_wp2_with fail
  refine (overS_any _ _ _ _ true _ (by decide) HA.out HB.out HS.out).mono ?_
  rintro e w1 ⟨rfl, hb1⟩
  have hb1' := hb1
  obtain ⟨z, c0, c1, d0, d1⟩ := own_cells0 hb1'
  go_wp2_with fail
  exact bodyPost_ret (v := .agg #[.int .i64 1, .int .u64 (0)]) (by simp [results, Tryd.results9, go_sem, c0, c1, z]) rfl ⟨ret_res rfl, ((bel_trans (bel_alloc _ _) hb1').setCell (by simp) _).setCell (by simp) _⟩
set_option maxRecDepth 100000 in
set_option maxHeartbeats 2000000 in
theorem ringS_4_3 (fl x a b : Int) (w : World) (ha : isW x a = true) (hb : isW x b = true) (ks : (bits BinOp.and IntKind.i64 fl 1 != 0) = true) (hs : fitS x (arT 3 (sgnI x a) (sgnI x b)) = false) :
    Calls Tryd.prog 9 #[.int .i64 3, .int .i64 fl, .int .i64 x, .int .u64 a, .int .u64 b] w fun e w' => e = .returned (.agg #[.int .i64 1, .int .u64 (0)]) ∧ Below w.heap.size w w' := by
  have HX : Hid (vw x = true) := isW_vw ha
  have HA : Hid (isW x a = true) := ha
  have HB : Hid (isW x b = true) := hb
  have ua := u64_bd ha
  have ub := u64_bd hb
  have HS : Hid (fitS x (arT 3 (sgnI x a) (sgnI x b)) = false) := hs
  clear hs
  have FL := field_lo
  clear ha hb
  go_enter Tryd.func9, Tryd.ntmps9
  go_wp2_with fail
  refine (overS_any _ _ _ _ true _ (by decide) HA.out HB.out HS.out).mono ?_
  rintro e w1 ⟨rfl, hb1⟩
  have hb1' := hb1
  obtain ⟨z, c0, c1, d0, d1⟩ := own_cells0 hb1'
  go_wp2_with fail
  exact bodyPost_ret (v := .agg #[.int .i64 1, .int .u64 (0)]) (by simp [results, Tryd.results9, go_sem, c0, c1, z]) rfl ⟨ret_res rfl, ((bel_trans (bel_alloc _ _) hb1').setCell (by simp) _).setCell (by simp) _⟩
set_option maxRecDepth 100000 in
set_option maxHeartbeats 2000000 in
theorem ringS_5_1 (fl x a b : Int) (w : World) (ha : isW x a = true) (hb : isW x b = true) (ks : (bits BinOp.and IntKind.i64 fl 1 != 0) = true) (hs : fitS x (arT 1 (sgnI x a) (sgnI x b)) = true) (ku : (bits BinOp.and IntKind.i64 fl 2 != 0) = false) :
    Calls Tryd.prog 9 #[.int .i64 1, .int .i64 fl, .int .i64 x, .int .u64 a, .int .u64 b] w fun e w' => e = .returned (.agg #[.int .i64 0, .int .u64 (cutI x (wLo (arT 1 a b)))]) ∧ Below w.heap.size w w' := by
  have HX : Hid (vw x = true) := isW_vw ha
  have HA : Hid (isW x a = true) := ha
  have HB : Hid (isW x b = true) := hb
  have ua := u64_bd ha
  have ub := u64_bd hb
  have HS : Hid (fitS x (arT 1 (sgnI x a) (sgnI x b)) = true) := hs
  clear hs
  clear ha hb
  go_enter Tryd.func9, Tryd.ntmps9
  go_wp2_with fail
  refine (overS_any _ _ _ _ false _ (by decide) HA.out HB.out HS.out).mono ?_
  rintro e w1 ⟨rfl, hb1⟩
  have hb1' := hb1
  obtain ⟨z, c0, c1, d0, d1⟩ := own_cells0 hb1'
  go_wp2_with fail
  refine (cut_spec _ _ _ HX.out (wrapU_bd _).1 (wrapU_bd _).2).mono ?_
  rintro e w' ⟨rfl, rfl⟩
  go_wp2_with fail
  exact bodyPost_ret (v := .agg #[.int .i64 0, .int .u64 (cutI x (IntKind.u64.wrap (a + b)))]) (by simp [results, Tryd.results9, go_sem, c0, c1, z]) rfl ⟨ret_res (by simp [arT, wLo, IntKind.wrap_u64]), ((bel_trans (bel_alloc _ _) hb1').setCell (by simp) _).setCell (by simp) _⟩
set_option maxRecDepth 100000 in
set_option maxHeartbeats 2000000 in
theorem ringS_5_2 (fl x a b : Int) (w : World) (ha : isW x a = true) (hb : isW x b = true) (ks : (bits BinOp.and IntKind.i64 fl 1 != 0) = true) (hs : fitS x (arT 2 (sgnI x a) (sgnI x b)) = true) (ku : (bits BinOp.and IntKind.i64 fl 2 != 0) = false) :
    Calls Tryd.prog 9 #[.int .i64 2, .int .i64 fl, .int .i64 x, .int .u64 a, .int .u64 b] w fun e w' => e = .returned (.agg #[.int .i64 0, .int .u64 (cutI x (wLo (arT 2 a b)))]) ∧ Below w.heap.size w w' := by
  have HX : Hid (vw x = true) := isW_vw ha
  have HA : Hid (isW x a = true) := ha
  have HB : Hid (isW x b = true) := hb
  have ua := u64_bd ha
  have ub := u64_bd hb
  have HS : Hid (fitS x (arT 2 (sgnI x a) (sgnI x b)) = true) := hs
  clear hs
  clear ha hb
  go_enter Tryd.func9, Tryd.ntmps9
  go_wp2_with fail
  refine (overS_any _ _ _ _ false _ (by decide) HA.out HB.out HS.out).mono ?_
  rintro e w1 ⟨rfl, hb1⟩
  have hb1' := hb1
  obtain ⟨z, c0, c1, d0, d1⟩ := own_cells0 hb1'
  go_wp2_with fail
  refine (cut_spec _ _ _ HX.out (wrapU_bd _).1 (wrapU_bd _).2).mono ?_
  rintro e w' ⟨rfl, rfl⟩
  go_wp2_with fail
  exact bodyPost_ret (v := .agg #[.int .i64 0, .int .u64 (cutI x (IntKind.u64.wrap (a - b)))]) (by simp [results, Tryd.results9, go_sem, c0, c1, z]) rfl ⟨ret_res (by simp [arT, wLo, IntKind.wrap_u64]), ((bel_trans (bel_alloc _ _) hb1').setCell (by simp) _).setCell (by simp) _⟩
set_option maxRecDepth 100000 in
set_option maxHeartbeats 2000000 in
theorem ringS_5_3 (fl x a b : Int) (w : World) (ha : isW x a = true) (hb : isW x b = true) (ks : (bits BinOp.and IntKind.i64 fl 1 != 0) = true) (hs : fitS x (arT 3 (sgnI x a) (sgnI x b)) = true) (ku : (bits BinOp.and IntKind.i64 fl 2 != 0) = false) :
    Calls Tryd.prog 9 #[.int .i64 3, .int .i64 fl, .int .i64 x, .int .u64 a, .int .u64 b] w fun e w' => e = .returned (.agg #[.int .i64 0, .int .u64 (cutI x (wLo (arT 3 a b)))]) ∧ Below w.heap.size w w' := by
  have HX : Hid (vw x = true) := isW_vw ha
  have HA : Hid (isW x a = true) := ha
  have HB : Hid (isW x b = true) := hb
  have ua := u64_bd ha
  have ub := u64_bd hb
  have HS : Hid (fitS x (arT 3 (sgnI x a) (sgnI x b)) = true) := hs
  clear hs
  have FL := field_lo
  clear ha hb
  go_enter Tryd.func9, Tryd.ntmps9
  go_wp2_with fail
  refine (overS_any _ _ _ _ false _ (by decide) HA.out HB.out HS.out).mono ?_
  rintro e w1 ⟨rfl, hb1⟩
  have hb1' := hb1
  go_wp2_with fail
  refine (product_spec _ _ _ ua.1 ua.2 ub.1 ub.2).mono ?_
  rintro e w2 ⟨rfl, hb2⟩
  have hb102 := bel_trans hb1' hb2
  clear hb1'
  have hb2' := hb102
  obtain ⟨z, c0, c1, d0, d1⟩ := own_cells0 hb2'
  go_wp2_with fail
  refine (cut_spec _ _ _ HX.out (wLo_bd _).1 (wLo_bd _).2).mono ?_
  rintro e w' ⟨rfl, rfl⟩
  go_wp2_with fail
  exact bodyPost_ret (v := .agg #[.int .i64 0, .int .u64 (cutI x (wLo (a * b)))]) (by simp [results, Tryd.results9, go_sem, c0, c1, z]) rfl ⟨ret_res (by simp [arT, wLo, IntKind.wrap_u64]), ((bel_trans (bel_alloc _ _) hb2').setCell (by simp) _).setCell (by simp) _⟩
set_option maxRecDepth 100000 in
set_option maxHeartbeats 2000000 in
theorem ringS_6_1 (fl x a b : Int) (w : World) (ha : isW x a = true) (hb : isW x b = true) (ks : (bits BinOp.and IntKind.i64 fl 1 != 0) = true) (hs : fitS x (arT 1 (sgnI x a) (sgnI x b)) = true) (ku : (bits BinOp.and IntKind.i64 fl 2 != 0) = true) (hu : fitU x (arT 1 a b) = false) :
    Calls Tryd.prog 9 #[.int .i64 1, .int .i64 fl, .int .i64 x, .int .u64 a, .int .u64 b] w fun e w' => e = .returned (.agg #[.int .i64 1, .int .u64 (0)]) ∧ Below w.heap.size w w' := by
  have HX : Hid (vw x = true) := isW_vw ha
  have HA : Hid (isW x a = true) := ha
  have HB : Hid (isW x b = true) := hb
  have ua := u64_bd ha
  have ub := u64_bd hb
  have HS : Hid (fitS x (arT 1 (sgnI x a) (sgnI x b)) = true) := hs
  clear hs
  have HU : Hid (fitU x (arT 1 a b) = false) := hu
  clear hu
  clear ha hb
  go_enter Tryd.func9, Tryd.ntmps9
  go_wp2_with fail
  refine (overS_any _ _ _ _ false _ (by decide) HA.out HB.out HS.out).mono ?_
  rintro e w1 ⟨rfl, hb1⟩
  have hb1' := hb1
  go_wp2_with fail
  refine (overW_any _ _ _ _ true _ (by decide) HA.out HB.out HU.out).mono ?_
  rintro e w2 ⟨rfl, hb2⟩
  have hb102 := bel_trans hb1' hb2
  clear hb1'
  have hb2' := hb102
  obtain ⟨z, c0, c1, d0, d1⟩ := own_cells0 hb2'
  go_wp2_with fail
  exact bodyPost_ret (v := .agg #[.int .i64 1, .int .u64 (0)]) (by simp [results, Tryd.results9, go_sem, c0, c1, z]) rfl ⟨ret_res rfl, ((bel_trans (bel_alloc _ _) hb2').setCell (by simp) _).setCell (by simp) _⟩
set_option maxRecDepth 100000 in
set_option maxHeartbeats 2000000 in
theorem ringS_6_2 (fl x a b : Int) (w : World) (ha : isW x a = true) (hb : isW x b = true) (ks : (bits BinOp.and IntKind.i64 fl 1 != 0) = true) (hs : fitS x (arT 2 (sgnI x a) (sgnI x b)) = true) (ku : (bits BinOp.and IntKind.i64 fl 2 != 0) = true) (hu : fitU x (arT 2 a b) = false) :
    Calls Tryd.prog 9 #[.int .i64 2, .int .i64 fl, .int .i64 x, .int .u64 a, .int .u64 b] w fun e w' => e = .returned (.agg #[.int .i64 1, .int .u64 (0)]) ∧ Below w.heap.size w w' := by
  have HX : Hid (vw x = true) := isW_vw ha
  have HA : Hid (isW x a = true) := ha
  have HB : Hid (isW x b = true) := hb
  have ua := u64_bd ha
  have ub := u64_bd hb
  have HS : Hid (fitS x (arT 2 (sgnI x a) (sgnI x b)) = true) := hs
  clear hs
  have HU : Hid (fitU x (arT 2 a b) = false) := hu
  clear hu
  clear ha hb
  go_enter Tryd.func9, Tryd.ntmps9
  go_wp2_with fail
  refine (overS_any _ _ _ _ false _ (by decide) HA.out HB.out HS.out).mono ?_
  rintro e w1 ⟨rfl, hb1⟩
  have hb1' := hb1
  go_wp2_with fail
  refine (overW_any _ _ _ _ true _ (by decide) HA.out HB.out HU.out).mono ?_
  rintro e w2 ⟨rfl, hb2⟩
  have hb102 := bel_trans hb1' hb2
  clear hb1'
  have hb2' := hb102
  obtain ⟨z, c0, c1, d0, d1⟩ := own_cells0 hb2'
  go_wp2_with fail
  exact bodyPost_ret (v := .agg #[.int .i64 1, .int .u64 (0)]) (by simp [results, Tryd.results9, go_sem, c0, c1, z]) rfl ⟨ret_res rfl, ((bel_trans (bel_alloc _ _) hb2').setCell (by simp) _).setCell (by simp) _⟩
set_option maxRecDepth 100000 in
set_option maxHeartbeats 2000000 in
theorem ringS_6_3 (fl x a b : Int) (w : World) (ha : isW x a = true) (hb : isW x b = true) (ks : (bits BinOp.and IntKind.i64 fl 1 != 0) = true) (hs : fitS x (arT 3 (sgnI x a) (sgnI x b)) = true) (ku : (bits BinOp.and IntKind.i64 fl 2 != 0) = true) (hu : fitU x (arT 3 a b) = false) :
    Calls Tryd.prog 9 #[.int .i64 3, .int .i64 fl, .int .i64 x, .int .u64 a, .int .u64 b] w fun e w' => e = .returned (.agg #[.int .i64 1, .int .u64 (0)]) ∧ Below w.heap.size w w' := by
  have HX : Hid (vw x = true) := isW_vw ha
  have HA : Hid (isW x a = true) := ha
  have HB : Hid (isW x b = true) := hb
  have ua := u64_bd ha
  have ub := u64_bd hb
  have HS : Hid (fitS x (arT 3 (sgnI x a) (sgnI x b)) = true) := hs
  clear hs
  have HU : Hid (fitU x (arT 3 a b) = false) := hu
  clear hu
  have FL := field_lo
  clear ha hb
  go_enter Tryd.func9, Tryd.ntmps9
  go_wp2_with fail
  refine (overS_any _ _ _ _ false _ (by decide) HA.out HB.out HS.out).mono ?_
  rintro e w1 ⟨rfl, hb1⟩
  have hb1' := hb1
  go_wp2_with fail
  refine (overW_any _ _ _ _ true _ (by decide) HA.out HB.out HU.out).mono ?_
  rintro e w2 ⟨rfl, hb2⟩
  have hb102 := bel_trans hb1' hb2
  clear hb1'
  have hb2' := hb102
  obtain ⟨z, c0, c1, d0, d1⟩ := own_cells0 hb2'
  go_wp2_with fail
  exact bodyPost_ret (v := .agg #[.int .i64 1, .int .u64 (0)]) (by simp [results, Tryd.results9, go_sem, c0, c1, z]) rfl ⟨ret_res rfl, ((bel_trans (bel_alloc _ _) hb2').setCell (by simp) _).setCell (by simp) _⟩
set_option maxRecDepth 100000 in
set_option maxHeartbeats 2000000 in
theorem ringS_7_1 (fl x a b : Int) (w : World) (ha : isW x a = true) (hb : isW x b = true) (ks : (bits BinOp.and IntKind.i64 fl 1 != 0) = true) (hs : fitS x (arT 1 (sgnI x a) (sgnI x b)) = true) (ku : (bits BinOp.and IntKind.i64 fl 2 != 0) = true) (hu : fitU x (arT 1 a b) = true) :
    Calls Tryd.prog 9 #[.int .i64 1, .int .i64 fl, .int .i64 x, .int .u64 a, .int .u64 b] w fun e w' => e = .returned (.agg #[.int .i64 0, .int .u64 (cutI x (wLo (arT 1 a b)))]) ∧ Below w.heap.size w w' := by
  have HX : Hid (vw x = true) := isW_vw ha
  have HA : Hid (isW x a = true) := ha
  have HB : Hid (isW x b = true) := hb
  have ua := u64_bd ha
  have ub := u64_bd hb
  have HS : Hid (fitS x (arT 1 (sgnI x a) (sgnI x b)) = true) := hs
  clear hs
  have HU : Hid (fitU x (arT 1 a b) = true) := hu
  clear hu
  clear ha hb
  go_enter Tryd.func9, Tryd.ntmps9
  go_wp2_with fail
  refine (overS_any _ _ _ _ false _ (by decide) HA.out HB.out HS.out).mono ?_
  rintro e w1 ⟨rfl, hb1⟩
  have hb1' := hb1
  go_wp2_with fail
  refine (overW_any _ _ _ _ false _ (by decide) HA.out HB.out HU.out).mono ?_
  rintro e w2 ⟨rfl, hb2⟩
  have hb102 := bel_trans hb1' hb2
  clear hb1'
  have hb2' := hb102
  obtain ⟨z, c0, c1, d0, d1⟩ := own_cells0 hb2'
  go_wp2_with fail
  refine (cut_spec _ _ _ HX.out (wrapU_bd _).1 (wrapU_bd _).2).mono ?_
  rintro e w' ⟨rfl, rfl⟩
  go_wp2_with fail
  exact bodyPost_ret (v := .agg #[.int .i64 0, .int .u64 (cutI x (IntKind.u64.wrap (a + b)))]) (by simp [results, Tryd.results9, go_sem, c0, c1, z]) rfl ⟨ret_res (by simp [arT, wLo, IntKind.wrap_u64]), ((bel_trans (bel_alloc _ _) hb2').setCell (by simp) _).setCell (by simp) _⟩
set_option maxRecDepth 100000 in
set_option maxHeartbeats 2000000 in
theorem ringS_7_2 (fl x a b : Int) (w : World) (ha : isW x a = true) (hb : isW x b = true) (ks : (bits BinOp.and IntKind.i64 fl 1 != 0) = true) (hs : fitS x (arT 2 (sgnI x a) (sgnI x b)) = true) (ku : (bits BinOp.and IntKind.i64 fl 2 != 0) = true) (hu : fitU x (arT 2 a b) = true) :
    Calls Tryd.prog 9 #[.int .i64 2, .int .i64 fl, .int .i64 x, .int .u64 a, .int .u64 b] w fun e w' => e = .returned (.agg #[.int .i64 0, .int .u64 (cutI x (wLo (arT 2 a b)))]) ∧ Below w.heap.size w w' := by
  have HX : Hid (vw x = true) := isW_vw ha
  have HA : Hid (isW x a = true) := ha
  have HB : Hid (isW x b = true) := hb
  have ua := u64_bd ha
  have ub := u64_bd hb
  have HS : Hid (fitS x (arT 2 (sgnI x a) (sgnI x b)) = true) := hs
  clear hs
  have HU : Hid (fitU x (arT 2 a b) = true) := hu
  clear hu
  clear ha hb
  go_enter Tryd.func9, Tryd.ntmps9
  go_wp2_with fail
  refine (overS_any _ _ _ _ false _ (by decide) HA.out HB.out HS.out).mono ?_
  rintro e w1 ⟨rfl, hb1⟩
  have hb1' := hb1
  go_wp2_with fail
  refine (overW_any _ _ _ _ false _ (by decide) HA.out HB.out HU.out).mono ?_
  rintro e w2 ⟨rfl, hb2⟩
  have hb102 := bel_trans hb1' hb2
  clear hb1'
  have hb2' := hb102
  obtain ⟨z, c0, c1, d0, d1⟩ := own_cells0 hb2'
  go_wp2_with fail
  refine (cut_spec _ _ _ HX.out (wrapU_bd _).1 (wrapU_bd _).2).mono ?_
  rintro e w' ⟨rfl, rfl⟩
  go_wp2_with fail
  exact bodyPost_ret (v := .agg #[.int .i64 0, .int .u64 (cutI x (IntKind.u64.wrap (a - b)))]) (by simp [results, Tryd.results9, go_sem, c0, c1, z]) rfl ⟨ret_res (by simp [arT, wLo, IntKind.wrap_u64]), ((bel_trans (bel_alloc _ _) hb2').setCell (by simp) _).setCell (by simp) _⟩
set_option maxRecDepth 100000 in
set_option maxHeartbeats 2000000 in
theorem ringS_7_3 (fl x a b : Int) (w : World) (ha : isW x a = true) (hb : isW x b = true) (ks : (bits BinOp.and IntKind.i64 fl 1 != 0) = true) (hs : fitS x (arT 3 (sgnI x a) (sgnI x b)) = true) (ku : (bits BinOp.and IntKind.i64 fl 2 != 0) = true) (hu : fitU x (arT 3 a b) = true) :
    Calls Tryd.prog 9 #[.int .i64 3, .int .i64 fl, .int .i64 x, .int .u64 a, .int .u64 b] w fun e w' => e = .returned (.agg #[.int .i64 0, .int .u64 (cutI x (wLo (arT 3 a b)))]) ∧ Below w.heap.size w w' := by
  have HX : Hid (vw x = true) := isW_vw ha
  have HA : Hid (isW x a = true) := ha
  have HB : Hid (isW x b = true) := hb
  have ua := u64_bd ha
  have ub := u64_bd hb
  have HS : Hid (fitS x (arT 3 (sgnI x a) (sgnI x b)) = true) := hs
  clear hs
  have HU : Hid (fitU x (arT 3 a b) = true) := hu
  clear hu
  have FL := field_lo
  clear ha hb
  go_enter Tryd.func9, Tryd.ntmps9
  go_wp2_with fail
  refine (overS_any _ _ _ _ false _ (by decide) HA.out HB.out HS.out).mono ?_
  rintro e w1 ⟨rfl, hb1⟩
  have hb1' := hb1
  go_wp2_with fail
  refine (overW_any _ _ _ _ false _ (by decide) HA.out HB.out HU.out).mono ?_
  rintro e w2 ⟨rfl, hb2⟩
  have hb102 := bel_trans hb1' hb2
  clear hb1'
  have hb2' := hb102
  go_wp2_with fail
  refine (product_spec _ _ _ ua.1 ua.2 ub.1 ub.2).mono ?_
  rintro e w3 ⟨rfl, hb3⟩
  have hb103 := bel_trans hb2' hb3
  clear hb2'
  have hb3' := hb103
  obtain ⟨z, c0, c1, d0, d1⟩ := own_cells0 hb3'
  go_wp2_with fail
  refine (cut_spec _ _ _ HX.out (wLo_bd _).1 (wLo_bd _).2).mono ?_
  rintro e w' ⟨rfl, rfl⟩
  go_wp2_with fail
  exact bodyPost_ret (v := .agg #[.int .i64 0, .int .u64 (cutI x (wLo (a * b)))]) (by simp [results, Tryd.results9, go_sem, c0, c1, z]) rfl ⟨ret_res (by simp [arT, wLo, IntKind.wrap_u64]), ((bel_trans (bel_alloc _ _) hb3').setCell (by simp) _).setCell (by simp) _⟩
/-- THE RING: what the specification answers the program answers. -/
theorem ring_same (op fl x a b : Int) (ho : op = 1 ∨ op = 2 ∨ op = 3) (ha : isW x a = true) (hb : isW x b = true) : ∃ c v : Int,
    (∀ w, Calls Tryd.prog 9 #[.int .i64 op, .int .i64 fl, .int .i64 x, .int .u64 a, .int .u64 b] w fun e w' => e = .returned (.agg #[.int .i64 c, .int .u64 v]) ∧ Below w.heap.size w w') ∧
    (∀ w, Wid w → Calls Tryd.prog 15 #[.int .i64 op, .int .i64 fl, .int .i64 x, .int .u64 a, .int .u64 b] w fun e w' => e = .returned (.agg #[.int .i64 c, .int .u64 v]) ∧ Below w.heap.size w w') := by
  cases ks : (bits BinOp.and IntKind.i64 fl 1 != 0) <;> cases ku : (bits BinOp.and IntKind.i64 fl 2 != 0)
  · refine ⟨0, cutI x (wLo (arT op a b)), fun w => ?_, fun w hw => comb_5 fl op x a b w hw ho ha hb ku ks⟩
    rcases ho with rfl | rfl | rfl
    · exact ringS_1_1 fl x a b w ha hb ks ku
    · exact ringS_1_2 fl x a b w ha hb ks ku
    · exact ringS_1_3 fl x a b w ha hb ks ku
  · cases hu : fitU x (arT op a b)
    · refine ⟨1, 0, fun w => ?_, fun w hw => comb_1 fl op x a b w hw ho ha hb ku hu⟩
      rcases ho with rfl | rfl | rfl
      · exact ringS_2_1 fl x a b w ha hb ks ku hu
      · exact ringS_2_2 fl x a b w ha hb ks ku hu
      · exact ringS_2_3 fl x a b w ha hb ks ku hu
    · refine ⟨0, cutI x (wLo (arT op a b)), fun w => ?_, fun w hw => comb_2 fl op x a b w hw ho ha hb ku ks hu⟩
      rcases ho with rfl | rfl | rfl
      · exact ringS_3_1 fl x a b w ha hb ks ku hu
      · exact ringS_3_2 fl x a b w ha hb ks ku hu
      · exact ringS_3_3 fl x a b w ha hb ks ku hu
  · cases hs : fitS x (arT op (sgnI x a) (sgnI x b))
    · refine ⟨1, 0, fun w => ?_, fun w hw => comb_7 fl op x a b w hw ho ha hb ku ks hs⟩
      rcases ho with rfl | rfl | rfl
      · exact ringS_4_1 fl x a b w ha hb ks hs
      · exact ringS_4_2 fl x a b w ha hb ks hs
      · exact ringS_4_3 fl x a b w ha hb ks hs
    · refine ⟨0, cutI x (wLo (arT op a b)), fun w => ?_, fun w hw => comb_6 fl op x a b w hw ho ha hb ku ks hs⟩
      rcases ho with rfl | rfl | rfl
      · exact ringS_5_1 fl x a b w ha hb ks hs ku
      · exact ringS_5_2 fl x a b w ha hb ks hs ku
      · exact ringS_5_3 fl x a b w ha hb ks hs ku
  · cases hu : fitU x (arT op a b)
    · refine ⟨1, 0, fun w => ?_, fun w hw => comb_1 fl op x a b w hw ho ha hb ku hu⟩
      cases hs : fitS x (arT op (sgnI x a) (sgnI x b))
      · rcases ho with rfl | rfl | rfl
        · exact ringS_4_1 fl x a b w ha hb ks hs
        · exact ringS_4_2 fl x a b w ha hb ks hs
        · exact ringS_4_3 fl x a b w ha hb ks hs
      · rcases ho with rfl | rfl | rfl
        · exact ringS_6_1 fl x a b w ha hb ks hs ku hu
        · exact ringS_6_2 fl x a b w ha hb ks hs ku hu
        · exact ringS_6_3 fl x a b w ha hb ks hs ku hu
    · cases hs : fitS x (arT op (sgnI x a) (sgnI x b))
      · refine ⟨1, 0, fun w => ?_, fun w hw => comb_4 fl op x a b w hw ho ha hb ku ks hu hs⟩
        rcases ho with rfl | rfl | rfl
        · exact ringS_4_1 fl x a b w ha hb ks hs
        · exact ringS_4_2 fl x a b w ha hb ks hs
        · exact ringS_4_3 fl x a b w ha hb ks hs
      · refine ⟨0, cutI x (wLo (arT op a b)), fun w => ?_, fun w hw => comb_3 fl op x a b w hw ho ha hb ku ks hu hs⟩
        rcases ho with rfl | rfl | rfl
        · exact ringS_7_1 fl x a b w ha hb ks hs ku hu
        · exact ringS_7_2 fl x a b w ha hb ks hs ku hu
        · exact ringS_7_3 fl x a b w ha hb ks hs ku hu
end Go.Proofs.YtmkhkgliipalaabDoor
