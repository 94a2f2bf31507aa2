/- Contracts over one translation: Arith of the program hands each family of operations on; its answer is that of the family. -/
import Derived.Test.YtmkhkgliipalaaaDoorAr5
import Derived.Test.YtmkhkgliipalaaaDoorAr6
namespace Go.Proofs.YtmkhkgliipalaaaDoor
open Go.ChangeShapes Go.WideShapes Go.ChangeAt Go.RowKit
set_option linter.unusedVariables false
set_option linter.unusedSimpArgs false
theorem isWordI (x v : Int) (w : World) (hw : Wid w) (h : isW x v = true) :
    Calls Tryd.prog 26 #[.int .i64 x, .int .u64 v] w fun e w' => e = .returned (.bool true) ∧ w' = w :=
  isWord_yes x v w hw (u64_bd h).1 (u64_bd h).2 h
theorem own_cells0 {w w1 : World} {n : TypeId} (h : Below (w.alloc (Obj.cells #[.int .i64 0, .int .u64 0] n)).heap.size (w.alloc (Obj.cells #[.int .i64 0, .int .u64 0] n)) w1) :
    w.heap.size < w1.heap.size ∧ w1.cell? ⟨w.heap.size, 0, none⟩ = some (.int .i64 0) ∧ w1.cell? ⟨w.heap.size, 1, none⟩ = some (.int .u64 0) ∧ w1.frozen? ⟨w.heap.size, 0, none⟩ = false ∧ w1.frozen? ⟨w.heap.size, 1, none⟩ = false := by
  have hs := h.size
  simp [go_sem] at hs
  refine ⟨by omega, ?_, ?_, ?_, ?_⟩
  · rw [h.cell (p := ⟨w.heap.size, 0, none⟩) (by simp [go_sem])]; simp [go_sem]
  · rw [h.cell (p := ⟨w.heap.size, 1, none⟩) (by simp [go_sem])]; simp [go_sem]
  · rw [h.frozen (p := ⟨w.heap.size, 0, none⟩) (by simp [go_sem])]; simp [go_sem]
  · rw [h.frozen (p := ⟨w.heap.size, 1, none⟩) (by simp [go_sem])]; simp [go_sem]
set_option maxHeartbeats 1000000 in
theorem flags3_c (op : Int) (w : World) (ho : op = 1 ∨ op = 2 ∨ op = 3 ∨ op = 8) :
    Calls Tryd.prog 25 #[.int .i64 op] w fun e w' => e = .returned (.int .i64 3) ∧ w' = w := by
  rcases ho with rfl | rfl | rfl | rfl
  all_goals
    go_enter Tryd.func25, Tryd.ntmps25
    go_wp2
    go_ret
    exact ⟨rfl, rfl⟩
set_option maxHeartbeats 1000000 in
theorem flags4_c (op : Int) (w : World) (ho : op = 4 ∨ op = 5 ∨ op = 9 ∨ op = 10) :
    Calls Tryd.prog 25 #[.int .i64 op] w fun e w' => e = .returned (.int .i64 4) ∧ w' = w := by
  rcases ho with rfl | rfl | rfl | rfl
  all_goals
    go_enter Tryd.func25, Tryd.ntmps25
    go_wp2
    go_ret
    exact ⟨rfl, rfl⟩
set_option maxHeartbeats 1000000 in
theorem flags0_c (op : Int) (w : World) (ho : op = 6 ∨ op = 7 ∨ op = 11 ∨ op = 12 ∨ op = 13) :
    Calls Tryd.prog 25 #[.int .i64 op] w fun e w' => e = .returned (.int .i64 0) ∧ w' = w := by
  rcases ho with rfl | rfl | rfl | rfl | rfl
  all_goals
    go_enter Tryd.func25, Tryd.ntmps25
    go_wp2
    go_ret
    exact ⟨rfl, rfl⟩
set_option maxHeartbeats 1000000 in
theorem fam1_c (op : Int) (w : World) (ho : op = 1 ∨ op = 2 ∨ op = 3) :
    Calls Tryd.prog 27 #[.int .i64 op] w fun e w' => e = .returned (.int .i64 1) ∧ w' = w := by
  rcases ho with rfl | rfl | rfl
  all_goals
    go_enter Tryd.func27, Tryd.ntmps27
    go_wp2
    go_ret
    exact ⟨rfl, rfl⟩
set_option maxHeartbeats 1000000 in
theorem fam2_c (op : Int) (w : World) (ho : op = 4 ∨ op = 6) :
    Calls Tryd.prog 27 #[.int .i64 op] w fun e w' => e = .returned (.int .i64 2) ∧ w' = w := by
  rcases ho with rfl | rfl
  all_goals
    go_enter Tryd.func27, Tryd.ntmps27
    go_wp2
    go_ret
    exact ⟨rfl, rfl⟩
set_option maxHeartbeats 1000000 in
theorem fam3_c (op : Int) (w : World) (ho : op = 5 ∨ op = 7) :
    Calls Tryd.prog 27 #[.int .i64 op] w fun e w' => e = .returned (.int .i64 3) ∧ w' = w := by
  rcases ho with rfl | rfl
  all_goals
    go_enter Tryd.func27, Tryd.ntmps27
    go_wp2
    go_ret
    exact ⟨rfl, rfl⟩
set_option maxHeartbeats 1000000 in
theorem fam4_c (op : Int) (w : World) (ho : op = 8) :
    Calls Tryd.prog 27 #[.int .i64 op] w fun e w' => e = .returned (.int .i64 4) ∧ w' = w := by
  rcases ho with rfl
  all_goals
    go_enter Tryd.func27, Tryd.ntmps27
    go_wp2
    go_ret
    exact ⟨rfl, rfl⟩
set_option maxHeartbeats 1000000 in
theorem fam5_c (op : Int) (w : World) (ho : op = 9 ∨ op = 10) :
    Calls Tryd.prog 27 #[.int .i64 op] w fun e w' => e = .returned (.int .i64 5) ∧ w' = w := by
  rcases ho with rfl | rfl
  all_goals
    go_enter Tryd.func27, Tryd.ntmps27
    go_wp2
    go_ret
    exact ⟨rfl, rfl⟩
set_option maxHeartbeats 1000000 in
theorem fam6_c (op : Int) (w : World) (ho : op = 11 ∨ op = 12 ∨ op = 13) :
    Calls Tryd.prog 27 #[.int .i64 op] w fun e w' => e = .returned (.int .i64 6) ∧ w' = w := by
  rcases ho with rfl | rfl | rfl
  all_goals
    go_enter Tryd.func27, Tryd.ntmps27
    go_wp2
    go_ret
    exact ⟨rfl, rfl⟩
set_option maxRecDepth 100000 in
set_option maxHeartbeats 2000000 in
theorem arith_f1 (op fl x a b c v : Int) (w : World) (hw : Wid w) (ho : op = 1 ∨ op = 2 ∨ op = 3) (k0 : (bits BinOp.andNot IntKind.i64 fl 3 != 0) = false) (ha : isW x a = true) (hb : isW x b = true)
    (h : ∀ w, Wid w → Calls Tryd.prog 28 #[.int .i64 op, .int .i64 fl, .int .i64 x, .int .u64 a, .int .u64 b] w fun e w' => e = .returned (.agg #[.int .i64 c, .int .u64 v]) ∧ Below w.heap.size w w') :
    Calls Tryd.prog 12 #[.int .i64 op, .int .i64 fl, .int .i64 x, .int .u64 a, .int .u64 b] w fun e w' => e = .returned (.agg #[.int .i64 c, .int .u64 v]) ∧ Below w.heap.size w w' := by
  have HA : Hid (isW x a = true) := ha
  have HB : Hid (isW x b = true) := hb
  have HO : Hid (op = 1 ∨ op = 2 ∨ op = 3) := ho
  have H : Hid (∀ w, Wid w → Calls Tryd.prog 28 #[.int .i64 op, .int .i64 fl, .int .i64 x, .int .u64 a, .int .u64 b] w fun e w' => e = .returned (.agg #[.int .i64 c, .int .u64 v]) ∧ Below w.heap.size w w') := h
  clear h
  clear ha hb ho
  rcases HO.out with rfl | rfl | rfl
  all_goals
    clear HO
    go_enter Tryd.func12, Tryd.ntmps12
    go_wp2_with (first | (go_at_call 25; refine (flags3_c _ _ (by decide)).mono ?_; rintro e w' ⟨rfl, rfl⟩) | (go_at_call 26; refine (isWordI _ _ _ (by first | exact hw | exact hw.below (bel_alloc _ _)) (by first | exact HA.out | exact HB.out)).mono ?_; rintro e w' ⟨rfl, rfl⟩) | (go_at_call 27; refine (fam1_c _ _ (by decide)).mono ?_; rintro e w' ⟨rfl, rfl⟩))
    refine (H.out _ (hw.below (bel_alloc _ _))).mono ?_
    rintro e w1 ⟨rfl, hb1⟩
    obtain ⟨z1, c0, c1, d0, d1⟩ := own_cells0 hb1
    go_wp2_with fail
    exact bodyPost_ret (v := .agg #[.int .i64 c, .int .u64 v]) (by simp [results, Tryd.results12, go_sem, c0, c1, z1]) rfl ⟨rfl, ((bel_trans (bel_alloc _ _) hb1).setCell (by simp) _).setCell (by simp) _⟩
set_option maxRecDepth 100000 in
set_option maxHeartbeats 2000000 in
theorem arith_f2a (op fl x a b c v : Int) (w : World) (hw : Wid w) (ho : op = 4) (k0 : (bits BinOp.andNot IntKind.i64 fl 4 != 0) = false) (ha : isW x a = true) (hb : isW x b = true)
    (h : ∀ w, Wid w → Calls Tryd.prog 29 #[.int .i64 op, .int .i64 fl, .int .u64 a, .int .u64 b] w fun e w' => e = .returned (.agg #[.int .i64 c, .int .u64 v]) ∧ Below w.heap.size w w') :
    Calls Tryd.prog 12 #[.int .i64 op, .int .i64 fl, .int .i64 x, .int .u64 a, .int .u64 b] w fun e w' => e = .returned (.agg #[.int .i64 c, .int .u64 v]) ∧ Below w.heap.size w w' := by
  have HA : Hid (isW x a = true) := ha
  have HB : Hid (isW x b = true) := hb
  have HO : Hid (op = 4) := ho
  have H : Hid (∀ w, Wid w → Calls Tryd.prog 29 #[.int .i64 op, .int .i64 fl, .int .u64 a, .int .u64 b] w fun e w' => e = .returned (.agg #[.int .i64 c, .int .u64 v]) ∧ Below w.heap.size w w') := h
  clear h
  clear ha hb ho
  rcases HO.out with rfl
  all_goals
    clear HO
    go_enter Tryd.func12, Tryd.ntmps12
    go_wp2_with (first | (go_at_call 25; refine (flags4_c _ _ (by decide)).mono ?_; rintro e w' ⟨rfl, rfl⟩) | (go_at_call 26; refine (isWordI _ _ _ (by first | exact hw | exact hw.below (bel_alloc _ _)) (by first | exact HA.out | exact HB.out)).mono ?_; rintro e w' ⟨rfl, rfl⟩) | (go_at_call 27; refine (fam2_c _ _ (by decide)).mono ?_; rintro e w' ⟨rfl, rfl⟩))
    refine (H.out _ (hw.below (bel_alloc _ _))).mono ?_
    rintro e w1 ⟨rfl, hb1⟩
    obtain ⟨z1, c0, c1, d0, d1⟩ := own_cells0 hb1
    go_wp2_with fail
    exact bodyPost_ret (v := .agg #[.int .i64 c, .int .u64 v]) (by simp [results, Tryd.results12, go_sem, c0, c1, z1]) rfl ⟨rfl, ((bel_trans (bel_alloc _ _) hb1).setCell (by simp) _).setCell (by simp) _⟩
set_option maxRecDepth 100000 in
set_option maxHeartbeats 2000000 in
theorem arith_f2b (op fl x a b c v : Int) (w : World) (hw : Wid w) (ho : op = 6) (k0 : (bits BinOp.andNot IntKind.i64 fl 0 != 0) = false) (ha : isW x a = true) (hb : isW x b = true)
    (h : ∀ w, Wid w → Calls Tryd.prog 29 #[.int .i64 op, .int .i64 fl, .int .u64 a, .int .u64 b] w fun e w' => e = .returned (.agg #[.int .i64 c, .int .u64 v]) ∧ Below w.heap.size w w') :
    Calls Tryd.prog 12 #[.int .i64 op, .int .i64 fl, .int .i64 x, .int .u64 a, .int .u64 b] w fun e w' => e = .returned (.agg #[.int .i64 c, .int .u64 v]) ∧ Below w.heap.size w w' := by
  have HA : Hid (isW x a = true) := ha
  have HB : Hid (isW x b = true) := hb
  have HO : Hid (op = 6) := ho
  have H : Hid (∀ w, Wid w → Calls Tryd.prog 29 #[.int .i64 op, .int .i64 fl, .int .u64 a, .int .u64 b] w fun e w' => e = .returned (.agg #[.int .i64 c, .int .u64 v]) ∧ Below w.heap.size w w') := h
  clear h
  clear ha hb ho
  rcases HO.out with rfl
  all_goals
    clear HO
    go_enter Tryd.func12, Tryd.ntmps12
    go_wp2_with (first | (go_at_call 25; refine (flags0_c _ _ (by decide)).mono ?_; rintro e w' ⟨rfl, rfl⟩) | (go_at_call 26; refine (isWordI _ _ _ (by first | exact hw | exact hw.below (bel_alloc _ _)) (by first | exact HA.out | exact HB.out)).mono ?_; rintro e w' ⟨rfl, rfl⟩) | (go_at_call 27; refine (fam2_c _ _ (by decide)).mono ?_; rintro e w' ⟨rfl, rfl⟩))
    refine (H.out _ (hw.below (bel_alloc _ _))).mono ?_
    rintro e w1 ⟨rfl, hb1⟩
    obtain ⟨z1, c0, c1, d0, d1⟩ := own_cells0 hb1
    go_wp2_with fail
    exact bodyPost_ret (v := .agg #[.int .i64 c, .int .u64 v]) (by simp [results, Tryd.results12, go_sem, c0, c1, z1]) rfl ⟨rfl, ((bel_trans (bel_alloc _ _) hb1).setCell (by simp) _).setCell (by simp) _⟩
set_option maxRecDepth 100000 in
set_option maxHeartbeats 2000000 in
theorem arith_f3a (op fl x a b c v : Int) (w : World) (hw : Wid w) (ho : op = 5) (k0 : (bits BinOp.andNot IntKind.i64 fl 4 != 0) = false) (ha : isW x a = true) (hb : isW x b = true)
    (h : ∀ w, Wid w → Calls Tryd.prog 30 #[.int .i64 op, .int .i64 fl, .int .i64 x, .int .u64 a, .int .u64 b] w fun e w' => e = .returned (.agg #[.int .i64 c, .int .u64 v]) ∧ Below w.heap.size w w') :
    Calls Tryd.prog 12 #[.int .i64 op, .int .i64 fl, .int .i64 x, .int .u64 a, .int .u64 b] w fun e w' => e = .returned (.agg #[.int .i64 c, .int .u64 v]) ∧ Below w.heap.size w w' := by
  have HA : Hid (isW x a = true) := ha
  have HB : Hid (isW x b = true) := hb
  have HO : Hid (op = 5) := ho
  have H : Hid (∀ w, Wid w → Calls Tryd.prog 30 #[.int .i64 op, .int .i64 fl, .int .i64 x, .int .u64 a, .int .u64 b] w fun e w' => e = .returned (.agg #[.int .i64 c, .int .u64 v]) ∧ Below w.heap.size w w') := h
  clear h
  clear ha hb ho
  rcases HO.out with rfl
  all_goals
    clear HO
    go_enter Tryd.func12, Tryd.ntmps12
    go_wp2_with (first | (go_at_call 25; refine (flags4_c _ _ (by decide)).mono ?_; rintro e w' ⟨rfl, rfl⟩) | (go_at_call 26; refine (isWordI _ _ _ (by first | exact hw | exact hw.below (bel_alloc _ _)) (by first | exact HA.out | exact HB.out)).mono ?_; rintro e w' ⟨rfl, rfl⟩) | (go_at_call 27; refine (fam3_c _ _ (by decide)).mono ?_; rintro e w' ⟨rfl, rfl⟩))
    refine (H.out _ (hw.below (bel_alloc _ _))).mono ?_
    rintro e w1 ⟨rfl, hb1⟩
    obtain ⟨z1, c0, c1, d0, d1⟩ := own_cells0 hb1
    go_wp2_with fail
    exact bodyPost_ret (v := .agg #[.int .i64 c, .int .u64 v]) (by simp [results, Tryd.results12, go_sem, c0, c1, z1]) rfl ⟨rfl, ((bel_trans (bel_alloc _ _) hb1).setCell (by simp) _).setCell (by simp) _⟩
set_option maxRecDepth 100000 in
set_option maxHeartbeats 2000000 in
theorem arith_f3b (op fl x a b c v : Int) (w : World) (hw : Wid w) (ho : op = 7) (k0 : (bits BinOp.andNot IntKind.i64 fl 0 != 0) = false) (ha : isW x a = true) (hb : isW x b = true)
    (h : ∀ w, Wid w → Calls Tryd.prog 30 #[.int .i64 op, .int .i64 fl, .int .i64 x, .int .u64 a, .int .u64 b] w fun e w' => e = .returned (.agg #[.int .i64 c, .int .u64 v]) ∧ Below w.heap.size w w') :
    Calls Tryd.prog 12 #[.int .i64 op, .int .i64 fl, .int .i64 x, .int .u64 a, .int .u64 b] w fun e w' => e = .returned (.agg #[.int .i64 c, .int .u64 v]) ∧ Below w.heap.size w w' := by
  have HA : Hid (isW x a = true) := ha
  have HB : Hid (isW x b = true) := hb
  have HO : Hid (op = 7) := ho
  have H : Hid (∀ w, Wid w → Calls Tryd.prog 30 #[.int .i64 op, .int .i64 fl, .int .i64 x, .int .u64 a, .int .u64 b] w fun e w' => e = .returned (.agg #[.int .i64 c, .int .u64 v]) ∧ Below w.heap.size w w') := h
  clear h
  clear ha hb ho
  rcases HO.out with rfl
  all_goals
    clear HO
    go_enter Tryd.func12, Tryd.ntmps12
    go_wp2_with (first | (go_at_call 25; refine (flags0_c _ _ (by decide)).mono ?_; rintro e w' ⟨rfl, rfl⟩) | (go_at_call 26; refine (isWordI _ _ _ (by first | exact hw | exact hw.below (bel_alloc _ _)) (by first | exact HA.out | exact HB.out)).mono ?_; rintro e w' ⟨rfl, rfl⟩) | (go_at_call 27; refine (fam3_c _ _ (by decide)).mono ?_; rintro e w' ⟨rfl, rfl⟩))
    refine (H.out _ (hw.below (bel_alloc _ _))).mono ?_
    rintro e w1 ⟨rfl, hb1⟩
    obtain ⟨z1, c0, c1, d0, d1⟩ := own_cells0 hb1
    go_wp2_with fail
    exact bodyPost_ret (v := .agg #[.int .i64 c, .int .u64 v]) (by simp [results, Tryd.results12, go_sem, c0, c1, z1]) rfl ⟨rfl, ((bel_trans (bel_alloc _ _) hb1).setCell (by simp) _).setCell (by simp) _⟩
set_option maxRecDepth 100000 in
set_option maxHeartbeats 2000000 in
theorem arith_f4 (op fl x a b c v : Int) (w : World) (hw : Wid w) (ho : op = 8) (k0 : (bits BinOp.andNot IntKind.i64 fl 3 != 0) = false) (ha : isW x a = true) (hb : isW x b = true)
    (h : ∀ w, Wid w → Calls Tryd.prog 31 #[.int .i64 fl, .int .i64 x, .int .u64 a, .int .u64 b] w fun e w' => e = .returned (.agg #[.int .i64 c, .int .u64 v]) ∧ Below w.heap.size w w') :
    Calls Tryd.prog 12 #[.int .i64 op, .int .i64 fl, .int .i64 x, .int .u64 a, .int .u64 b] w fun e w' => e = .returned (.agg #[.int .i64 c, .int .u64 v]) ∧ Below w.heap.size w w' := by
  have HA : Hid (isW x a = true) := ha
  have HB : Hid (isW x b = true) := hb
  have HO : Hid (op = 8) := ho
  have H : Hid (∀ w, Wid w → Calls Tryd.prog 31 #[.int .i64 fl, .int .i64 x, .int .u64 a, .int .u64 b] w fun e w' => e = .returned (.agg #[.int .i64 c, .int .u64 v]) ∧ Below w.heap.size w w') := h
  clear h
  clear ha hb ho
  rcases HO.out with rfl
  all_goals
    clear HO
    go_enter Tryd.func12, Tryd.ntmps12
    go_wp2_with (first | (go_at_call 25; refine (flags3_c _ _ (by decide)).mono ?_; rintro e w' ⟨rfl, rfl⟩) | (go_at_call 26; refine (isWordI _ _ _ (by first | exact hw | exact hw.below (bel_alloc _ _)) (by first | exact HA.out | exact HB.out)).mono ?_; rintro e w' ⟨rfl, rfl⟩) | (go_at_call 27; refine (fam4_c _ _ (by decide)).mono ?_; rintro e w' ⟨rfl, rfl⟩))
    refine (H.out _ (hw.below (bel_alloc _ _))).mono ?_
    rintro e w1 ⟨rfl, hb1⟩
    obtain ⟨z1, c0, c1, d0, d1⟩ := own_cells0 hb1
    go_wp2_with fail
    exact bodyPost_ret (v := .agg #[.int .i64 c, .int .u64 v]) (by simp [results, Tryd.results12, go_sem, c0, c1, z1]) rfl ⟨rfl, ((bel_trans (bel_alloc _ _) hb1).setCell (by simp) _).setCell (by simp) _⟩
set_option maxRecDepth 100000 in
set_option maxHeartbeats 2000000 in
theorem arith_f5 (op fl x a b c v : Int) (w : World) (hw : Wid w) (ho : op = 9 ∨ op = 10) (k0 : (bits BinOp.andNot IntKind.i64 fl 4 != 0) = false) (ha : isW x a = true) (hb : isW x b = true)
    (h : ∀ w, Wid w → Calls Tryd.prog 32 #[.int .i64 op, .int .i64 fl, .int .i64 x, .int .u64 a, .int .u64 b] w fun e w' => e = .returned (.agg #[.int .i64 c, .int .u64 v]) ∧ Below w.heap.size w w') :
    Calls Tryd.prog 12 #[.int .i64 op, .int .i64 fl, .int .i64 x, .int .u64 a, .int .u64 b] w fun e w' => e = .returned (.agg #[.int .i64 c, .int .u64 v]) ∧ Below w.heap.size w w' := by
  have HA : Hid (isW x a = true) := ha
  have HB : Hid (isW x b = true) := hb
  have HO : Hid (op = 9 ∨ op = 10) := ho
  have H : Hid (∀ w, Wid w → Calls Tryd.prog 32 #[.int .i64 op, .int .i64 fl, .int .i64 x, .int .u64 a, .int .u64 b] w fun e w' => e = .returned (.agg #[.int .i64 c, .int .u64 v]) ∧ Below w.heap.size w w') := h
  clear h
  clear ha hb ho
  rcases HO.out with rfl | rfl
  all_goals
    clear HO
    go_enter Tryd.func12, Tryd.ntmps12
    go_wp2_with (first | (go_at_call 25; refine (flags4_c _ _ (by decide)).mono ?_; rintro e w' ⟨rfl, rfl⟩) | (go_at_call 26; refine (isWordI _ _ _ (by first | exact hw | exact hw.below (bel_alloc _ _)) (by first | exact HA.out | exact HB.out)).mono ?_; rintro e w' ⟨rfl, rfl⟩) | (go_at_call 27; refine (fam5_c _ _ (by decide)).mono ?_; rintro e w' ⟨rfl, rfl⟩))
    refine (H.out _ (hw.below (bel_alloc _ _))).mono ?_
    rintro e w1 ⟨rfl, hb1⟩
    obtain ⟨z1, c0, c1, d0, d1⟩ := own_cells0 hb1
    go_wp2_with fail
    exact bodyPost_ret (v := .agg #[.int .i64 c, .int .u64 v]) (by simp [results, Tryd.results12, go_sem, c0, c1, z1]) rfl ⟨rfl, ((bel_trans (bel_alloc _ _) hb1).setCell (by simp) _).setCell (by simp) _⟩
set_option maxRecDepth 100000 in
set_option maxHeartbeats 2000000 in
theorem arith_f6 (op fl x a b : Int) (w : World) (hw : Wid w) (ho : op = 11 ∨ op = 12 ∨ op = 13) (k0 : (bits BinOp.andNot IntKind.i64 fl 0 != 0) = false) (ha : isW x a = true) (hb : isW x b = true) :
    Calls Tryd.prog 12 #[.int .i64 op, .int .i64 fl, .int .i64 x, .int .u64 a, .int .u64 b] w fun e w' => e = .returned (.agg #[.int .i64 0, .int .u64 (bwI op a b)]) ∧ Below w.heap.size w w' := by
  have HA : Hid (isW x a = true) := ha
  have HB : Hid (isW x b = true) := hb
  have HO : Hid (op = 11 ∨ op = 12 ∨ op = 13) := ho
  clear ha hb ho
  rcases HO.out with rfl | rfl | rfl
  all_goals
    clear HO
    go_enter Tryd.func12, Tryd.ntmps12
    go_wp2_with (first | (go_at_call 25; refine (flags0_c _ _ (by decide)).mono ?_; rintro e w' ⟨rfl, rfl⟩) | (go_at_call 26; refine (isWordI _ _ _ (by first | exact hw | exact hw.below (bel_alloc _ _)) (by first | exact HA.out | exact HB.out)).mono ?_; rintro e w' ⟨rfl, rfl⟩) | (go_at_call 27; refine (fam6_c _ _ (by decide)).mono ?_; rintro e w' ⟨rfl, rfl⟩) | (go_at_call 33; refine (bitwise_any _ _ _ _ (by decide)).mono ?_; rintro e w' ⟨rfl, rfl⟩))
    exact bodyPost_ret (v := .agg #[.int .i64 0, .int .u64 (bwI _ a b)]) (by simp [results, Tryd.results12, go_sem]) rfl ⟨rfl, bel_alloc _ _⟩
end Go.Proofs.YtmkhkgliipalaaaDoor
