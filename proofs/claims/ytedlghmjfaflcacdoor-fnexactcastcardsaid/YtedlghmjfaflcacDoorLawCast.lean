/- Over one translation: at every argument the law that compares Cast with its specification answers true and turns nothing that was there. -/
import Derived.Test.YtedlghmjfaflcacDoorWords2
import Derived.Deep.RegionWith
namespace Go.Proofs.YtedlghmjfaflcacDoor
open Go.ChangeShapes Go.WideShapes Go.ChangeAt Go.RowKit
set_option linter.unusedVariables false
set_option linter.unusedSimpArgs false

theorem wrapU_bd (n : Int) : 0 ≤ IntKind.u64.wrap n ∧ IntKind.u64.wrap n ≤ 18446744073709551615 := by rw [IntKind.wrap_u64]; omega
/-- A struct of two words laid behind wa reads as it was laid in each later world. -/
theorem res_cells {wa wb : World} {c r : Int} {n : TypeId} (h : Below (wa.alloc (Obj.cells #[.int .i64 c, .int .u64 r] n)).heap.size (wa.alloc (Obj.cells #[.int .i64 c, .int .u64 r] n)) wb) :
    wa.heap.size < wb.heap.size ∧ wb.cell? ⟨wa.heap.size, 0, none⟩ = some (.int .i64 c) ∧ wb.cell? ⟨wa.heap.size, 1, none⟩ = some (.int .u64 r) := by
  have hs := h.size
  simp at hs
  refine ⟨by omega, ?_, ?_⟩
  · rw [h.cell (p := ⟨wa.heap.size, 0, none⟩) (by simp)]; simp
  · rw [h.cell (p := ⟨wa.heap.size, 1, none⟩) (by simp)]; simp
set_option maxHeartbeats 2000000 in
theorem eq_res (a b c d : Int) (w : World) (hac : (a == c) = true) (hbd : (b == d) = true) :
    Calls Tryd.prog 8 #[.agg #[.int .i64 a, .int .u64 b], .agg #[.int .i64 c, .int .u64 d]] w fun e w' => e = .returned (.bool true) ∧ Below w.heap.size w w' := by
  go_enter Tryd.func8, Tryd.ntmps8
  go_wp2
  go_ret
  exact ⟨rfl, bel_trans (bel_alloc _ _) (bel_alloc _ _)⟩
set_option maxHeartbeats 2000000 in
theorem cA_impl (op x y v : Int) (w : World) (hw : Wid w) (v0 : 0 ≤ v) (v1 : v ≤ 18446744073709551615) (hv : isW x v = false) (ht : vw y = false)  :
    Calls Tryd.prog 7 #[.int .i64 op, .int .i64 x, .int .i64 y, .int .u64 v] w fun e w' => e = .returned (.agg #[.int .i64 3, .int .u64 (0)]) ∧ Below w.heap.size w w' := by
  have HV : Hid (isW x v = false) := hv
  have HT : Hid (vw y = false) := ht
  clear hv ht
  go_enter Tryd.func7, Tryd.ntmps7
  go_wp2_with (first | (go_at_call 18; refine (isWord_no _ _ _ (by first | exact hw | exact hw.below (bel_alloc _ _) | exact hw.below (bel_trans (bel_alloc _ _) (bel_alloc _ _))) v0 v1 HV.out).mono ?_; rintro e w' ⟨rfl, rfl⟩) | (go_at_call 19; refine (validWidth_no _ _ (by first | exact hw | exact hw.below (bel_alloc _ _) | exact hw.below (bel_trans (bel_alloc _ _) (bel_alloc _ _))) HT.out).mono ?_; rintro e w' ⟨rfl, rfl⟩))
  all_goals exact bodyPost_ret (v := .agg #[.int .i64 3, .int .u64 (0)]) (by simp [results, Tryd.results7, go_sem]) rfl ⟨rfl, by first | exact bel_alloc _ _ | exact bel_trans (bel_alloc _ _) (bel_alloc _ _)⟩
set_option maxHeartbeats 2000000 in
theorem cB_impl (op x y v : Int) (w : World) (hw : Wid w) (v0 : 0 ≤ v) (v1 : v ≤ 18446744073709551615) (hv : isW x v = false) (ht : vw y = true)  :
    Calls Tryd.prog 7 #[.int .i64 op, .int .i64 x, .int .i64 y, .int .u64 v] w fun e w' => e = .returned (.agg #[.int .i64 3, .int .u64 (0)]) ∧ Below w.heap.size w w' := by
  have HV : Hid (isW x v = false) := hv
  have HT : Hid (vw y = true) := ht
  clear hv ht
  go_enter Tryd.func7, Tryd.ntmps7
  go_wp2_with (first | (go_at_call 18; refine (isWord_no _ _ _ (by first | exact hw | exact hw.below (bel_alloc _ _) | exact hw.below (bel_trans (bel_alloc _ _) (bel_alloc _ _))) v0 v1 HV.out).mono ?_; rintro e w' ⟨rfl, rfl⟩) | (go_at_call 19; refine (validWidth_yes _ _ (by first | exact hw | exact hw.below (bel_alloc _ _) | exact hw.below (bel_trans (bel_alloc _ _) (bel_alloc _ _))) HT.out).mono ?_; rintro e w' ⟨rfl, rfl⟩))
  all_goals exact bodyPost_ret (v := .agg #[.int .i64 3, .int .u64 (0)]) (by simp [results, Tryd.results7, go_sem]) rfl ⟨rfl, by first | exact bel_alloc _ _ | exact bel_trans (bel_alloc _ _) (bel_alloc _ _)⟩
set_option maxHeartbeats 2000000 in
theorem cC_impl (op x y v : Int) (w : World) (hw : Wid w) (v0 : 0 ≤ v) (v1 : v ≤ 18446744073709551615) (hv : isW x v = true) (ht : vw y = false)  :
    Calls Tryd.prog 7 #[.int .i64 op, .int .i64 x, .int .i64 y, .int .u64 v] w fun e w' => e = .returned (.agg #[.int .i64 3, .int .u64 (0)]) ∧ Below w.heap.size w w' := by
  have HV : Hid (isW x v = true) := hv
  have HT : Hid (vw y = false) := ht
  clear hv ht
  go_enter Tryd.func7, Tryd.ntmps7
  go_wp2_with (first | (go_at_call 18; refine (isWord_yes _ _ _ (by first | exact hw | exact hw.below (bel_alloc _ _) | exact hw.below (bel_trans (bel_alloc _ _) (bel_alloc _ _))) v0 v1 HV.out).mono ?_; rintro e w' ⟨rfl, rfl⟩) | (go_at_call 19; refine (validWidth_no _ _ (by first | exact hw | exact hw.below (bel_alloc _ _) | exact hw.below (bel_trans (bel_alloc _ _) (bel_alloc _ _))) HT.out).mono ?_; rintro e w' ⟨rfl, rfl⟩))
  all_goals exact bodyPost_ret (v := .agg #[.int .i64 3, .int .u64 (0)]) (by simp [results, Tryd.results7, go_sem]) rfl ⟨rfl, by first | exact bel_alloc _ _ | exact bel_trans (bel_alloc _ _) (bel_alloc _ _)⟩
set_option maxHeartbeats 2000000 in
theorem cD_impl (op x y v : Int) (w : World) (hw : Wid w) (v0 : 0 ≤ v) (v1 : v ≤ 18446744073709551615) (hv : isW x v = true) (ht : vw y = true) (ho : op < 16 ∨ 18 < op) :
    Calls Tryd.prog 7 #[.int .i64 op, .int .i64 x, .int .i64 y, .int .u64 v] w fun e w' => e = .returned (.agg #[.int .i64 3, .int .u64 (0)]) ∧ Below w.heap.size w w' := by
  have HV : Hid (isW x v = true) := hv
  have HT : Hid (vw y = true) := ht
  clear hv ht
  have n1 : (op == 16) = false := beq_eq_false_iff_ne.2 (by omega)
  have n2 : (op == 17) = false := beq_eq_false_iff_ne.2 (by omega)
  have n3 : (op == 18) = false := beq_eq_false_iff_ne.2 (by omega)
  go_enter Tryd.func7, Tryd.ntmps7
  go_wp2_with (first | (go_at_call 18; refine (isWord_yes _ _ _ (by first | exact hw | exact hw.below (bel_alloc _ _) | exact hw.below (bel_trans (bel_alloc _ _) (bel_alloc _ _))) v0 v1 HV.out).mono ?_; rintro e w' ⟨rfl, rfl⟩) | (go_at_call 19; refine (validWidth_yes _ _ (by first | exact hw | exact hw.below (bel_alloc _ _) | exact hw.below (bel_trans (bel_alloc _ _) (bel_alloc _ _))) HT.out).mono ?_; rintro e w' ⟨rfl, rfl⟩) | (go_at_call 21; refine (signed_impl _ _ _ (by first | exact hw | exact hw.below (bel_alloc _ _) | exact hw.below (bel_trans (bel_alloc _ _) (bel_alloc _ _))) v0 v1 HV.out).mono ?_; rintro e w' ⟨rfl, rfl⟩) | (go_at_call 20; refine (cut_impl _ _ _ (by first | exact hw | exact hw.below (bel_alloc _ _) | exact hw.below (bel_trans (bel_alloc _ _) (bel_alloc _ _))) HT.out (by first | exact v0 | exact (wrapU_bd _).1) (by first | exact v1 | exact (wrapU_bd _).2)).mono ?_; rintro e w' ⟨rfl, rfl⟩))
  all_goals exact bodyPost_ret (v := .agg #[.int .i64 3, .int .u64 (0)]) (by simp [results, Tryd.results7, go_sem]) rfl ⟨rfl, by first | exact bel_alloc _ _ | exact bel_trans (bel_alloc _ _) (bel_alloc _ _)⟩
set_option maxHeartbeats 2000000 in
theorem cEb_impl (op x y v : Int) (w : World) (hw : Wid w) (v0 : 0 ≤ v) (v1 : v ≤ 18446744073709551615) (hv : isW x v = true) (ht : vw y = true) (ho : op = 16) (hl : ¬ x < y) :
    Calls Tryd.prog 7 #[.int .i64 op, .int .i64 x, .int .i64 y, .int .u64 v] w fun e w' => e = .returned (.agg #[.int .i64 3, .int .u64 (0)]) ∧ Below w.heap.size w w' := by
  have HV : Hid (isW x v = true) := hv
  have HT : Hid (vw y = true) := ht
  clear hv ht
  subst ho
  go_enter Tryd.func7, Tryd.ntmps7
  go_wp2_with (first | (go_at_call 18; refine (isWord_yes _ _ _ (by first | exact hw | exact hw.below (bel_alloc _ _) | exact hw.below (bel_trans (bel_alloc _ _) (bel_alloc _ _))) v0 v1 HV.out).mono ?_; rintro e w' ⟨rfl, rfl⟩) | (go_at_call 19; refine (validWidth_yes _ _ (by first | exact hw | exact hw.below (bel_alloc _ _) | exact hw.below (bel_trans (bel_alloc _ _) (bel_alloc _ _))) HT.out).mono ?_; rintro e w' ⟨rfl, rfl⟩) | (go_at_call 21; refine (signed_impl _ _ _ (by first | exact hw | exact hw.below (bel_alloc _ _) | exact hw.below (bel_trans (bel_alloc _ _) (bel_alloc _ _))) v0 v1 HV.out).mono ?_; rintro e w' ⟨rfl, rfl⟩) | (go_at_call 20; refine (cut_impl _ _ _ (by first | exact hw | exact hw.below (bel_alloc _ _) | exact hw.below (bel_trans (bel_alloc _ _) (bel_alloc _ _))) HT.out (by first | exact v0 | exact (wrapU_bd _).1) (by first | exact v1 | exact (wrapU_bd _).2)).mono ?_; rintro e w' ⟨rfl, rfl⟩))
  all_goals exact bodyPost_ret (v := .agg #[.int .i64 3, .int .u64 (0)]) (by simp [results, Tryd.results7, go_sem]) rfl ⟨rfl, by first | exact bel_alloc _ _ | exact bel_trans (bel_alloc _ _) (bel_alloc _ _)⟩
set_option maxHeartbeats 2000000 in
theorem cFb_impl (op x y v : Int) (w : World) (hw : Wid w) (v0 : 0 ≤ v) (v1 : v ≤ 18446744073709551615) (hv : isW x v = true) (ht : vw y = true) (ho : op = 17) (hl : ¬ x < y) :
    Calls Tryd.prog 7 #[.int .i64 op, .int .i64 x, .int .i64 y, .int .u64 v] w fun e w' => e = .returned (.agg #[.int .i64 3, .int .u64 (0)]) ∧ Below w.heap.size w w' := by
  have HV : Hid (isW x v = true) := hv
  have HT : Hid (vw y = true) := ht
  clear hv ht
  subst ho
  go_enter Tryd.func7, Tryd.ntmps7
  go_wp2_with (first | (go_at_call 18; refine (isWord_yes _ _ _ (by first | exact hw | exact hw.below (bel_alloc _ _) | exact hw.below (bel_trans (bel_alloc _ _) (bel_alloc _ _))) v0 v1 HV.out).mono ?_; rintro e w' ⟨rfl, rfl⟩) | (go_at_call 19; refine (validWidth_yes _ _ (by first | exact hw | exact hw.below (bel_alloc _ _) | exact hw.below (bel_trans (bel_alloc _ _) (bel_alloc _ _))) HT.out).mono ?_; rintro e w' ⟨rfl, rfl⟩) | (go_at_call 21; refine (signed_impl _ _ _ (by first | exact hw | exact hw.below (bel_alloc _ _) | exact hw.below (bel_trans (bel_alloc _ _) (bel_alloc _ _))) v0 v1 HV.out).mono ?_; rintro e w' ⟨rfl, rfl⟩) | (go_at_call 20; refine (cut_impl _ _ _ (by first | exact hw | exact hw.below (bel_alloc _ _) | exact hw.below (bel_trans (bel_alloc _ _) (bel_alloc _ _))) HT.out (by first | exact v0 | exact (wrapU_bd _).1) (by first | exact v1 | exact (wrapU_bd _).2)).mono ?_; rintro e w' ⟨rfl, rfl⟩))
  all_goals exact bodyPost_ret (v := .agg #[.int .i64 3, .int .u64 (0)]) (by simp [results, Tryd.results7, go_sem]) rfl ⟨rfl, by first | exact bel_alloc _ _ | exact bel_trans (bel_alloc _ _) (bel_alloc _ _)⟩
set_option maxHeartbeats 2000000 in
theorem cGb_impl (op x y v : Int) (w : World) (hw : Wid w) (v0 : 0 ≤ v) (v1 : v ≤ 18446744073709551615) (hv : isW x v = true) (ht : vw y = true) (ho : op = 18) (hl : ¬ y < x) :
    Calls Tryd.prog 7 #[.int .i64 op, .int .i64 x, .int .i64 y, .int .u64 v] w fun e w' => e = .returned (.agg #[.int .i64 3, .int .u64 (0)]) ∧ Below w.heap.size w w' := by
  have HV : Hid (isW x v = true) := hv
  have HT : Hid (vw y = true) := ht
  clear hv ht
  subst ho
  go_enter Tryd.func7, Tryd.ntmps7
  go_wp2_with (first | (go_at_call 18; refine (isWord_yes _ _ _ (by first | exact hw | exact hw.below (bel_alloc _ _) | exact hw.below (bel_trans (bel_alloc _ _) (bel_alloc _ _))) v0 v1 HV.out).mono ?_; rintro e w' ⟨rfl, rfl⟩) | (go_at_call 19; refine (validWidth_yes _ _ (by first | exact hw | exact hw.below (bel_alloc _ _) | exact hw.below (bel_trans (bel_alloc _ _) (bel_alloc _ _))) HT.out).mono ?_; rintro e w' ⟨rfl, rfl⟩) | (go_at_call 21; refine (signed_impl _ _ _ (by first | exact hw | exact hw.below (bel_alloc _ _) | exact hw.below (bel_trans (bel_alloc _ _) (bel_alloc _ _))) v0 v1 HV.out).mono ?_; rintro e w' ⟨rfl, rfl⟩) | (go_at_call 20; refine (cut_impl _ _ _ (by first | exact hw | exact hw.below (bel_alloc _ _) | exact hw.below (bel_trans (bel_alloc _ _) (bel_alloc _ _))) HT.out (by first | exact v0 | exact (wrapU_bd _).1) (by first | exact v1 | exact (wrapU_bd _).2)).mono ?_; rintro e w' ⟨rfl, rfl⟩))
  all_goals exact bodyPost_ret (v := .agg #[.int .i64 3, .int .u64 (0)]) (by simp [results, Tryd.results7, go_sem]) rfl ⟨rfl, by first | exact bel_alloc _ _ | exact bel_trans (bel_alloc _ _) (bel_alloc _ _)⟩
set_option maxHeartbeats 2000000 in
theorem cE_impl (op x y v : Int) (w : World) (hw : Wid w) (v0 : 0 ≤ v) (v1 : v ≤ 18446744073709551615) (hv : isW x v = true) (ht : vw y = true) (ho : op = 16) (hl : x < y) :
    Calls Tryd.prog 7 #[.int .i64 op, .int .i64 x, .int .i64 y, .int .u64 v] w fun e w' => e = .returned (.agg #[.int .i64 0, .int .u64 (v)]) ∧ Below w.heap.size w w' := by
  have HV : Hid (isW x v = true) := hv
  have HT : Hid (vw y = true) := ht
  clear hv ht
  subst ho
  go_enter Tryd.func7, Tryd.ntmps7
  go_wp2_with (first | (go_at_call 18; refine (isWord_yes _ _ _ (by first | exact hw | exact hw.below (bel_alloc _ _) | exact hw.below (bel_trans (bel_alloc _ _) (bel_alloc _ _))) v0 v1 HV.out).mono ?_; rintro e w' ⟨rfl, rfl⟩) | (go_at_call 19; refine (validWidth_yes _ _ (by first | exact hw | exact hw.below (bel_alloc _ _) | exact hw.below (bel_trans (bel_alloc _ _) (bel_alloc _ _))) HT.out).mono ?_; rintro e w' ⟨rfl, rfl⟩) | (go_at_call 21; refine (signed_impl _ _ _ (by first | exact hw | exact hw.below (bel_alloc _ _) | exact hw.below (bel_trans (bel_alloc _ _) (bel_alloc _ _))) v0 v1 HV.out).mono ?_; rintro e w' ⟨rfl, rfl⟩) | (go_at_call 20; refine (cut_impl _ _ _ (by first | exact hw | exact hw.below (bel_alloc _ _) | exact hw.below (bel_trans (bel_alloc _ _) (bel_alloc _ _))) HT.out (by first | exact v0 | exact (wrapU_bd _).1) (by first | exact v1 | exact (wrapU_bd _).2)).mono ?_; rintro e w' ⟨rfl, rfl⟩))
  all_goals exact bodyPost_ret (v := .agg #[.int .i64 0, .int .u64 (v)]) (by simp [results, Tryd.results7, go_sem]) rfl ⟨rfl, by first | exact bel_alloc _ _ | exact bel_trans (bel_alloc _ _) (bel_alloc _ _)⟩
set_option maxHeartbeats 2000000 in
theorem cF_impl (op x y v : Int) (w : World) (hw : Wid w) (v0 : 0 ≤ v) (v1 : v ≤ 18446744073709551615) (hv : isW x v = true) (ht : vw y = true) (ho : op = 17) (hl : x < y) :
    Calls Tryd.prog 7 #[.int .i64 op, .int .i64 x, .int .i64 y, .int .u64 v] w fun e w' => e = .returned (.agg #[.int .i64 0, .int .u64 (cutI y (IntKind.u64.wrap (sgnI x v)))]) ∧ Below w.heap.size w w' := by
  have HV : Hid (isW x v = true) := hv
  have HT : Hid (vw y = true) := ht
  clear hv ht
  subst ho
  go_enter Tryd.func7, Tryd.ntmps7
  go_wp2_with (first | (go_at_call 18; refine (isWord_yes _ _ _ (by first | exact hw | exact hw.below (bel_alloc _ _) | exact hw.below (bel_trans (bel_alloc _ _) (bel_alloc _ _))) v0 v1 HV.out).mono ?_; rintro e w' ⟨rfl, rfl⟩) | (go_at_call 19; refine (validWidth_yes _ _ (by first | exact hw | exact hw.below (bel_alloc _ _) | exact hw.below (bel_trans (bel_alloc _ _) (bel_alloc _ _))) HT.out).mono ?_; rintro e w' ⟨rfl, rfl⟩) | (go_at_call 21; refine (signed_impl _ _ _ (by first | exact hw | exact hw.below (bel_alloc _ _) | exact hw.below (bel_trans (bel_alloc _ _) (bel_alloc _ _))) v0 v1 HV.out).mono ?_; rintro e w' ⟨rfl, rfl⟩) | (go_at_call 20; refine (cut_impl _ _ _ (by first | exact hw | exact hw.below (bel_alloc _ _) | exact hw.below (bel_trans (bel_alloc _ _) (bel_alloc _ _))) HT.out (by first | exact v0 | exact (wrapU_bd _).1) (by first | exact v1 | exact (wrapU_bd _).2)).mono ?_; rintro e w' ⟨rfl, rfl⟩))
  all_goals exact bodyPost_ret (v := .agg #[.int .i64 0, .int .u64 (cutI y (IntKind.u64.wrap (sgnI x v)))]) (by simp [results, Tryd.results7, go_sem]) rfl ⟨rfl, by first | exact bel_alloc _ _ | exact bel_trans (bel_alloc _ _) (bel_alloc _ _)⟩
set_option maxHeartbeats 2000000 in
theorem cG_impl (op x y v : Int) (w : World) (hw : Wid w) (v0 : 0 ≤ v) (v1 : v ≤ 18446744073709551615) (hv : isW x v = true) (ht : vw y = true) (ho : op = 18) (hl : y < x) :
    Calls Tryd.prog 7 #[.int .i64 op, .int .i64 x, .int .i64 y, .int .u64 v] w fun e w' => e = .returned (.agg #[.int .i64 0, .int .u64 (cutI y v)]) ∧ Below w.heap.size w w' := by
  have HV : Hid (isW x v = true) := hv
  have HT : Hid (vw y = true) := ht
  clear hv ht
  subst ho
  go_enter Tryd.func7, Tryd.ntmps7
  go_wp2_with (first | (go_at_call 18; refine (isWord_yes _ _ _ (by first | exact hw | exact hw.below (bel_alloc _ _) | exact hw.below (bel_trans (bel_alloc _ _) (bel_alloc _ _))) v0 v1 HV.out).mono ?_; rintro e w' ⟨rfl, rfl⟩) | (go_at_call 19; refine (validWidth_yes _ _ (by first | exact hw | exact hw.below (bel_alloc _ _) | exact hw.below (bel_trans (bel_alloc _ _) (bel_alloc _ _))) HT.out).mono ?_; rintro e w' ⟨rfl, rfl⟩) | (go_at_call 21; refine (signed_impl _ _ _ (by first | exact hw | exact hw.below (bel_alloc _ _) | exact hw.below (bel_trans (bel_alloc _ _) (bel_alloc _ _))) v0 v1 HV.out).mono ?_; rintro e w' ⟨rfl, rfl⟩) | (go_at_call 20; refine (cut_impl _ _ _ (by first | exact hw | exact hw.below (bel_alloc _ _) | exact hw.below (bel_trans (bel_alloc _ _) (bel_alloc _ _))) HT.out (by first | exact v0 | exact (wrapU_bd _).1) (by first | exact v1 | exact (wrapU_bd _).2)).mono ?_; rintro e w' ⟨rfl, rfl⟩))
  all_goals exact bodyPost_ret (v := .agg #[.int .i64 0, .int .u64 (cutI y v)]) (by simp [results, Tryd.results7, go_sem]) rfl ⟨rfl, by first | exact bel_alloc _ _ | exact bel_trans (bel_alloc _ _) (bel_alloc _ _)⟩
set_option maxHeartbeats 2000000 in
theorem cA_spec (op x y v : Int) (w : World) (hw : Wid w) (v0 : 0 ≤ v) (v1 : v ≤ 18446744073709551615) (hv : isW x v = false) (ht : vw y = false)  :
    Calls Tryd.prog 6 #[.int .i64 op, .int .i64 x, .int .i64 y, .int .u64 v] w fun e w' => e = .returned (.agg #[.int .i64 3, .int .u64 (0)]) ∧ Below w.heap.size w w' := by
  have HV : Hid (isW x v = false) := hv
  have HT : Hid (vw y = false) := ht
  clear hv ht
  go_enter Tryd.func6, Tryd.ntmps6
  go_wp2_with (first | (go_at_call 15; refine (isS_no _ _ _ v0 v1 HV.out).mono ?_; rintro e w' ⟨rfl, rfl⟩) | (go_at_call 14; refine (validWidthS_no _ _ HT.out).mono ?_; rintro e w' ⟨rfl, rfl⟩))
  all_goals exact bodyPost_ret (v := .agg #[.int .i64 3, .int .u64 (0)]) (by simp [results, Tryd.results6, go_sem]) rfl ⟨rfl, by first | exact bel_alloc _ _ | exact bel_trans (bel_alloc _ _) (bel_alloc _ _)⟩
set_option maxHeartbeats 2000000 in
theorem cB_spec (op x y v : Int) (w : World) (hw : Wid w) (v0 : 0 ≤ v) (v1 : v ≤ 18446744073709551615) (hv : isW x v = false) (ht : vw y = true)  :
    Calls Tryd.prog 6 #[.int .i64 op, .int .i64 x, .int .i64 y, .int .u64 v] w fun e w' => e = .returned (.agg #[.int .i64 3, .int .u64 (0)]) ∧ Below w.heap.size w w' := by
  have HV : Hid (isW x v = false) := hv
  have HT : Hid (vw y = true) := ht
  clear hv ht
  go_enter Tryd.func6, Tryd.ntmps6
  go_wp2_with (first | (go_at_call 15; refine (isS_no _ _ _ v0 v1 HV.out).mono ?_; rintro e w' ⟨rfl, rfl⟩) | (go_at_call 14; refine (validWidthS_yes _ _ HT.out).mono ?_; rintro e w' ⟨rfl, rfl⟩))
  all_goals exact bodyPost_ret (v := .agg #[.int .i64 3, .int .u64 (0)]) (by simp [results, Tryd.results6, go_sem]) rfl ⟨rfl, by first | exact bel_alloc _ _ | exact bel_trans (bel_alloc _ _) (bel_alloc _ _)⟩
set_option maxHeartbeats 2000000 in
theorem cC_spec (op x y v : Int) (w : World) (hw : Wid w) (v0 : 0 ≤ v) (v1 : v ≤ 18446744073709551615) (hv : isW x v = true) (ht : vw y = false)  :
    Calls Tryd.prog 6 #[.int .i64 op, .int .i64 x, .int .i64 y, .int .u64 v] w fun e w' => e = .returned (.agg #[.int .i64 3, .int .u64 (0)]) ∧ Below w.heap.size w w' := by
  have HV : Hid (isW x v = true) := hv
  have HT : Hid (vw y = false) := ht
  clear hv ht
  go_enter Tryd.func6, Tryd.ntmps6
  go_wp2_with (first | (go_at_call 15; refine (isS_yes _ _ _ v0 v1 HV.out).mono ?_; rintro e w' ⟨rfl, rfl⟩) | (go_at_call 14; refine (validWidthS_no _ _ HT.out).mono ?_; rintro e w' ⟨rfl, rfl⟩))
  all_goals exact bodyPost_ret (v := .agg #[.int .i64 3, .int .u64 (0)]) (by simp [results, Tryd.results6, go_sem]) rfl ⟨rfl, by first | exact bel_alloc _ _ | exact bel_trans (bel_alloc _ _) (bel_alloc _ _)⟩
set_option maxHeartbeats 2000000 in
theorem cD_spec (op x y v : Int) (w : World) (hw : Wid w) (v0 : 0 ≤ v) (v1 : v ≤ 18446744073709551615) (hv : isW x v = true) (ht : vw y = true) (ho : op < 16 ∨ 18 < op) :
    Calls Tryd.prog 6 #[.int .i64 op, .int .i64 x, .int .i64 y, .int .u64 v] w fun e w' => e = .returned (.agg #[.int .i64 3, .int .u64 (0)]) ∧ Below w.heap.size w w' := by
  have HV : Hid (isW x v = true) := hv
  have HT : Hid (vw y = true) := ht
  clear hv ht
  have n1 : (op == 16) = false := beq_eq_false_iff_ne.2 (by omega)
  have n2 : (op == 17) = false := beq_eq_false_iff_ne.2 (by omega)
  have n3 : (op == 18) = false := beq_eq_false_iff_ne.2 (by omega)
  go_enter Tryd.func6, Tryd.ntmps6
  go_wp2_with (first | (go_at_call 15; refine (isS_yes _ _ _ v0 v1 HV.out).mono ?_; rintro e w' ⟨rfl, rfl⟩) | (go_at_call 14; refine (validWidthS_yes _ _ HT.out).mono ?_; rintro e w' ⟨rfl, rfl⟩) | (go_at_call 17; refine (signed_spec _ _ _ v0 v1 HV.out).mono ?_; rintro e w' ⟨rfl, rfl⟩) | (go_at_call 16; refine (cut_spec _ _ _ HT.out (by first | exact v0 | exact (wrapU_bd _).1) (by first | exact v1 | exact (wrapU_bd _).2)).mono ?_; rintro e w' ⟨rfl, rfl⟩))
  all_goals exact bodyPost_ret (v := .agg #[.int .i64 3, .int .u64 (0)]) (by simp [results, Tryd.results6, go_sem]) rfl ⟨rfl, by first | exact bel_alloc _ _ | exact bel_trans (bel_alloc _ _) (bel_alloc _ _)⟩
set_option maxHeartbeats 2000000 in
theorem cEb_spec (op x y v : Int) (w : World) (hw : Wid w) (v0 : 0 ≤ v) (v1 : v ≤ 18446744073709551615) (hv : isW x v = true) (ht : vw y = true) (ho : op = 16) (hl : ¬ x < y) :
    Calls Tryd.prog 6 #[.int .i64 op, .int .i64 x, .int .i64 y, .int .u64 v] w fun e w' => e = .returned (.agg #[.int .i64 3, .int .u64 (0)]) ∧ Below w.heap.size w w' := by
  have HV : Hid (isW x v = true) := hv
  have HT : Hid (vw y = true) := ht
  clear hv ht
  subst ho
  go_enter Tryd.func6, Tryd.ntmps6
  go_wp2_with (first | (go_at_call 15; refine (isS_yes _ _ _ v0 v1 HV.out).mono ?_; rintro e w' ⟨rfl, rfl⟩) | (go_at_call 14; refine (validWidthS_yes _ _ HT.out).mono ?_; rintro e w' ⟨rfl, rfl⟩) | (go_at_call 17; refine (signed_spec _ _ _ v0 v1 HV.out).mono ?_; rintro e w' ⟨rfl, rfl⟩) | (go_at_call 16; refine (cut_spec _ _ _ HT.out (by first | exact v0 | exact (wrapU_bd _).1) (by first | exact v1 | exact (wrapU_bd _).2)).mono ?_; rintro e w' ⟨rfl, rfl⟩))
  all_goals exact bodyPost_ret (v := .agg #[.int .i64 3, .int .u64 (0)]) (by simp [results, Tryd.results6, go_sem]) rfl ⟨rfl, by first | exact bel_alloc _ _ | exact bel_trans (bel_alloc _ _) (bel_alloc _ _)⟩
set_option maxHeartbeats 2000000 in
theorem cFb_spec (op x y v : Int) (w : World) (hw : Wid w) (v0 : 0 ≤ v) (v1 : v ≤ 18446744073709551615) (hv : isW x v = true) (ht : vw y = true) (ho : op = 17) (hl : ¬ x < y) :
    Calls Tryd.prog 6 #[.int .i64 op, .int .i64 x, .int .i64 y, .int .u64 v] w fun e w' => e = .returned (.agg #[.int .i64 3, .int .u64 (0)]) ∧ Below w.heap.size w w' := by
  have HV : Hid (isW x v = true) := hv
  have HT : Hid (vw y = true) := ht
  clear hv ht
  subst ho
  go_enter Tryd.func6, Tryd.ntmps6
  go_wp2_with (first | (go_at_call 15; refine (isS_yes _ _ _ v0 v1 HV.out).mono ?_; rintro e w' ⟨rfl, rfl⟩) | (go_at_call 14; refine (validWidthS_yes _ _ HT.out).mono ?_; rintro e w' ⟨rfl, rfl⟩) | (go_at_call 17; refine (signed_spec _ _ _ v0 v1 HV.out).mono ?_; rintro e w' ⟨rfl, rfl⟩) | (go_at_call 16; refine (cut_spec _ _ _ HT.out (by first | exact v0 | exact (wrapU_bd _).1) (by first | exact v1 | exact (wrapU_bd _).2)).mono ?_; rintro e w' ⟨rfl, rfl⟩))
  all_goals exact bodyPost_ret (v := .agg #[.int .i64 3, .int .u64 (0)]) (by simp [results, Tryd.results6, go_sem]) rfl ⟨rfl, by first | exact bel_alloc _ _ | exact bel_trans (bel_alloc _ _) (bel_alloc _ _)⟩
set_option maxHeartbeats 2000000 in
theorem cGb_spec (op x y v : Int) (w : World) (hw : Wid w) (v0 : 0 ≤ v) (v1 : v ≤ 18446744073709551615) (hv : isW x v = true) (ht : vw y = true) (ho : op = 18) (hl : ¬ y < x) :
    Calls Tryd.prog 6 #[.int .i64 op, .int .i64 x, .int .i64 y, .int .u64 v] w fun e w' => e = .returned (.agg #[.int .i64 3, .int .u64 (0)]) ∧ Below w.heap.size w w' := by
  have HV : Hid (isW x v = true) := hv
  have HT : Hid (vw y = true) := ht
  clear hv ht
  subst ho
  go_enter Tryd.func6, Tryd.ntmps6
  go_wp2_with (first | (go_at_call 15; refine (isS_yes _ _ _ v0 v1 HV.out).mono ?_; rintro e w' ⟨rfl, rfl⟩) | (go_at_call 14; refine (validWidthS_yes _ _ HT.out).mono ?_; rintro e w' ⟨rfl, rfl⟩) | (go_at_call 17; refine (signed_spec _ _ _ v0 v1 HV.out).mono ?_; rintro e w' ⟨rfl, rfl⟩) | (go_at_call 16; refine (cut_spec _ _ _ HT.out (by first | exact v0 | exact (wrapU_bd _).1) (by first | exact v1 | exact (wrapU_bd _).2)).mono ?_; rintro e w' ⟨rfl, rfl⟩))
  all_goals exact bodyPost_ret (v := .agg #[.int .i64 3, .int .u64 (0)]) (by simp [results, Tryd.results6, go_sem]) rfl ⟨rfl, by first | exact bel_alloc _ _ | exact bel_trans (bel_alloc _ _) (bel_alloc _ _)⟩
set_option maxHeartbeats 2000000 in
theorem cE_spec (op x y v : Int) (w : World) (hw : Wid w) (v0 : 0 ≤ v) (v1 : v ≤ 18446744073709551615) (hv : isW x v = true) (ht : vw y = true) (ho : op = 16) (hl : x < y) :
    Calls Tryd.prog 6 #[.int .i64 op, .int .i64 x, .int .i64 y, .int .u64 v] w fun e w' => e = .returned (.agg #[.int .i64 0, .int .u64 (v)]) ∧ Below w.heap.size w w' := by
  have HV : Hid (isW x v = true) := hv
  have HT : Hid (vw y = true) := ht
  clear hv ht
  subst ho
  go_enter Tryd.func6, Tryd.ntmps6
  go_wp2_with (first | (go_at_call 15; refine (isS_yes _ _ _ v0 v1 HV.out).mono ?_; rintro e w' ⟨rfl, rfl⟩) | (go_at_call 14; refine (validWidthS_yes _ _ HT.out).mono ?_; rintro e w' ⟨rfl, rfl⟩) | (go_at_call 17; refine (signed_spec _ _ _ v0 v1 HV.out).mono ?_; rintro e w' ⟨rfl, rfl⟩) | (go_at_call 16; refine (cut_spec _ _ _ HT.out (by first | exact v0 | exact (wrapU_bd _).1) (by first | exact v1 | exact (wrapU_bd _).2)).mono ?_; rintro e w' ⟨rfl, rfl⟩))
  all_goals exact bodyPost_ret (v := .agg #[.int .i64 0, .int .u64 (v)]) (by simp [results, Tryd.results6, go_sem]) rfl ⟨rfl, by first | exact bel_alloc _ _ | exact bel_trans (bel_alloc _ _) (bel_alloc _ _)⟩
set_option maxHeartbeats 2000000 in
theorem cF_spec (op x y v : Int) (w : World) (hw : Wid w) (v0 : 0 ≤ v) (v1 : v ≤ 18446744073709551615) (hv : isW x v = true) (ht : vw y = true) (ho : op = 17) (hl : x < y) :
    Calls Tryd.prog 6 #[.int .i64 op, .int .i64 x, .int .i64 y, .int .u64 v] w fun e w' => e = .returned (.agg #[.int .i64 0, .int .u64 (cutI y (IntKind.u64.wrap (sgnI x v)))]) ∧ Below w.heap.size w w' := by
  have HV : Hid (isW x v = true) := hv
  have HT : Hid (vw y = true) := ht
  clear hv ht
  subst ho
  go_enter Tryd.func6, Tryd.ntmps6
  go_wp2_with (first | (go_at_call 15; refine (isS_yes _ _ _ v0 v1 HV.out).mono ?_; rintro e w' ⟨rfl, rfl⟩) | (go_at_call 14; refine (validWidthS_yes _ _ HT.out).mono ?_; rintro e w' ⟨rfl, rfl⟩) | (go_at_call 17; refine (signed_spec _ _ _ v0 v1 HV.out).mono ?_; rintro e w' ⟨rfl, rfl⟩) | (go_at_call 16; refine (cut_spec _ _ _ HT.out (by first | exact v0 | exact (wrapU_bd _).1) (by first | exact v1 | exact (wrapU_bd _).2)).mono ?_; rintro e w' ⟨rfl, rfl⟩))
  all_goals exact bodyPost_ret (v := .agg #[.int .i64 0, .int .u64 (cutI y (IntKind.u64.wrap (sgnI x v)))]) (by simp [results, Tryd.results6, go_sem]) rfl ⟨rfl, by first | exact bel_alloc _ _ | exact bel_trans (bel_alloc _ _) (bel_alloc _ _)⟩
set_option maxHeartbeats 2000000 in
theorem cG_spec (op x y v : Int) (w : World) (hw : Wid w) (v0 : 0 ≤ v) (v1 : v ≤ 18446744073709551615) (hv : isW x v = true) (ht : vw y = true) (ho : op = 18) (hl : y < x) :
    Calls Tryd.prog 6 #[.int .i64 op, .int .i64 x, .int .i64 y, .int .u64 v] w fun e w' => e = .returned (.agg #[.int .i64 0, .int .u64 (cutI y v)]) ∧ Below w.heap.size w w' := by
  have HV : Hid (isW x v = true) := hv
  have HT : Hid (vw y = true) := ht
  clear hv ht
  subst ho
  go_enter Tryd.func6, Tryd.ntmps6
  go_wp2_with (first | (go_at_call 15; refine (isS_yes _ _ _ v0 v1 HV.out).mono ?_; rintro e w' ⟨rfl, rfl⟩) | (go_at_call 14; refine (validWidthS_yes _ _ HT.out).mono ?_; rintro e w' ⟨rfl, rfl⟩) | (go_at_call 17; refine (signed_spec _ _ _ v0 v1 HV.out).mono ?_; rintro e w' ⟨rfl, rfl⟩) | (go_at_call 16; refine (cut_spec _ _ _ HT.out (by first | exact v0 | exact (wrapU_bd _).1) (by first | exact v1 | exact (wrapU_bd _).2)).mono ?_; rintro e w' ⟨rfl, rfl⟩))
  all_goals exact bodyPost_ret (v := .agg #[.int .i64 0, .int .u64 (cutI y v)]) (by simp [results, Tryd.results6, go_sem]) rfl ⟨rfl, by first | exact bel_alloc _ _ | exact bel_trans (bel_alloc _ _) (bel_alloc _ _)⟩

def CastI (op x y v c r : Int) (w : World) : Prop := ∀ w, Wid w → Calls Tryd.prog 7 #[.int .i64 op, .int .i64 x, .int .i64 y, .int .u64 v] w fun e w' => e = .returned (.agg #[.int .i64 c, .int .u64 r]) ∧ Below w.heap.size w w'
def CastS (op x y v c r : Int) (w : World) : Prop := ∀ w, Wid w → Calls Tryd.prog 6 #[.int .i64 op, .int .i64 x, .int .i64 y, .int .u64 v] w fun e w' => e = .returned (.agg #[.int .i64 c, .int .u64 r]) ∧ Below w.heap.size w w'
theorem cast_both (op x y v : Int) (w : World) (v0 : 0 ≤ v) (v1 : v ≤ 18446744073709551615) : ∃ c r, CastI op x y v c r w ∧ CastS op x y v c r w := by
  cases hv : isW x v with
  | false =>
    cases ht : vw y with
    | false => exact ⟨3, 0, fun w hw => cA_impl op x y v w hw v0 v1 hv ht, fun w hw => cA_spec op x y v w hw v0 v1 hv ht⟩
    | true => exact ⟨3, 0, fun w hw => cB_impl op x y v w hw v0 v1 hv ht, fun w hw => cB_spec op x y v w hw v0 v1 hv ht⟩
  | true =>
    cases ht : vw y with
    | false => exact ⟨3, 0, fun w hw => cC_impl op x y v w hw v0 v1 hv ht, fun w hw => cC_spec op x y v w hw v0 v1 hv ht⟩
    | true =>
      by_cases h16 : op = 16
      · by_cases hl : x < y
        · exact ⟨0, v, fun w hw => cE_impl op x y v w hw v0 v1 hv ht h16 hl, fun w hw => cE_spec op x y v w hw v0 v1 hv ht h16 hl⟩
        · exact ⟨3, 0, fun w hw => cEb_impl op x y v w hw v0 v1 hv ht h16 hl, fun w hw => cEb_spec op x y v w hw v0 v1 hv ht h16 hl⟩
      by_cases h17 : op = 17
      · by_cases hl : x < y
        · exact ⟨0, _, fun w hw => cF_impl op x y v w hw v0 v1 hv ht h17 hl, fun w hw => cF_spec op x y v w hw v0 v1 hv ht h17 hl⟩
        · exact ⟨3, 0, fun w hw => cFb_impl op x y v w hw v0 v1 hv ht h17 hl, fun w hw => cFb_spec op x y v w hw v0 v1 hv ht h17 hl⟩
      by_cases h18 : op = 18
      · by_cases hl : y < x
        · exact ⟨0, _, fun w hw => cG_impl op x y v w hw v0 v1 hv ht h18 hl, fun w hw => cG_spec op x y v w hw v0 v1 hv ht h18 hl⟩
        · exact ⟨3, 0, fun w hw => cGb_impl op x y v w hw v0 v1 hv ht h18 hl, fun w hw => cGb_spec op x y v w hw v0 v1 hv ht h18 hl⟩
      exact ⟨3, 0, fun w hw => cD_impl op x y v w hw v0 v1 hv ht (by omega), fun w hw => cD_spec op x y v w hw v0 v1 hv ht (by omega)⟩
set_option maxHeartbeats 1000000 in
theorem cast_law (a0 a1 a2 a3 : Int) (w0 : (Lit.int .i64 a0).wf = true) (w1 : (Lit.int .i64 a1).wf = true) (w2 : (Lit.int .i64 a2).wf = true) (w3 : (Lit.int .u64 a3).wf = true) (w : World) (hw : Wid w) :
    Calls Tryd.prog 3 #[.int .i64 a0, .int .i64 a1, .int .i64 a2, .int .u64 a3] w fun e w' => e = .returned (.bool true) ∧ Below w.heap.size w w' := by
  have bA := bounds_u64 w3
  obtain ⟨c, r, hI, hS⟩ := cast_both a0 a1 a2 a3 w bA.1 bA.2
  clear w0 w1 w2 w3 bA
  go_enter Tryd.func3, Tryd.ntmps3
  go_wp2_with fail
  refine (hS _ hw).mono ?_
  rintro e wa ⟨rfl, hb1⟩
  go_wp2_with fail
  refine (hI _ (hw.below (bel_trans hb1 (bel_alloc _ _)))).mono ?_
  rintro e wb ⟨rfl, hb2⟩
  obtain ⟨z2, k20, k21⟩ := res_cells hb2
  go_wp2_with fail
  refine (eq_res _ _ _ _ _ (by simp) (by simp)).mono ?_
  rintro e wc ⟨rfl, hb3⟩
  go_wp2_with fail
  go_ret
  exact ⟨rfl, bel_trans (bel_trans (bel_trans (bel_trans hb1 (bel_alloc _ _)) hb2) (bel_alloc _ _)) hb3⟩
end Go.Proofs.YtedlghmjfaflcacDoor
