/- Over one translation: at every argument the law that compares Compare with its specification answers true and turns nothing that was there. -/
import Derived.Test.YtedlghmjfaflcabDoorWords5
namespace Go.Proofs.YtedlghmjfaflcabDoor
open Go.ChangeShapes Go.WideShapes Go.ChangeAt Go.RowKit
set_option linter.unusedVariables false

/-- A struct of two words laid behind wa reads as it was laid in each later world. -/
theorem res_cells {wa wb : World} {c r : Int} {n : TypeId} (h : Below (wa.alloc (Obj.cells #[.int .i64 c, .int .u64 r] n)).heap.size (wa.alloc (Obj.cells #[.int .i64 c, .int .u64 r] n)) wb) :
    wa.heap.size < wb.heap.size ∧ wb.cell? ⟨wa.heap.size, 0, none⟩ = some (.int .i64 c) ∧ wb.cell? ⟨wa.heap.size, 1, none⟩ = some (.int .u64 r) := by
  have hs := h.size
  simp at hs
  refine ⟨by omega, ?_, ?_⟩
  · rw [h.cell (p := ⟨wa.heap.size, 0, none⟩) (by simp)]; simp
  · rw [h.cell (p := ⟨wa.heap.size, 1, none⟩) (by simp)]; simp
set_option maxHeartbeats 1000000 in
/-- THE LAW OF Compare. -/
theorem compare_law (a0 a1 a2 a3 : Int) (w0 : (Lit.int .i64 a0).wf = true) (w1 : (Lit.int .i64 a1).wf = true) (w2 : (Lit.int .u64 a2).wf = true) (w3 : (Lit.int .u64 a3).wf = true) (w : World) (hw : Wid w) :
    Calls Tryd.prog 6 #[.int .i64 a0, .int .i64 a1, .int .u64 a2, .int .u64 a3] w fun e w' => e = .returned (.bool true) ∧ Below w.heap.size w w' := by
  have bA := bounds_u64 w2
  have bB := bounds_u64 w3
  clear w0 w1 w2 w3
  by_cases h : (a0 < 1 ∨ 10 < a0) ∨ isW a1 a2 = false ∨ isW a1 a3 = false
  · have H : Hid ((a0 < 1 ∨ 10 < a0) ∨ isW a1 a2 = false ∨ isW a1 a3 = false) := h
    clear h
    go_enter Tryd.func6, Tryd.ntmps6
    go_wp2_with fail
    refine (compare_spec_no _ _ _ _ _ bA.1 bA.2 bB.1 bB.2 H.out).mono ?_
    rintro e wa ⟨rfl, hb1⟩
    go_wp2_with fail
    refine (compare_impl_no _ _ _ _ _ (hw.below (bel_trans hb1 (bel_alloc _ _))) bA.1 bA.2 bB.1 bB.2 H.out).mono ?_
    rintro e wb ⟨rfl, hb2⟩
    obtain ⟨z2, k20, k21⟩ := res_cells hb2
    go_wp2_with fail
    refine (eq_res _ _ _ _ _ (by simp) (by simp)).mono ?_
    rintro e wc ⟨rfl, hb3⟩
    go_wp2_with fail
    go_ret
    exact ⟨rfl, bel_trans (bel_trans (bel_trans (bel_trans hb1 (bel_alloc _ _)) hb2) (bel_alloc _ _)) hb3⟩
  · have hp0 : 1 ≤ a0 := by omega
    have hp1 : a0 ≤ 10 := by omega
    have ha : isW a1 a2 = true := by cases e : isW a1 a2 <;> simp_all
    have hb : isW a1 a3 = true := by cases e : isW a1 a3 <;> simp_all
    have HA : Hid (isW a1 a2 = true) := ha
    have HB : Hid (isW a1 a3 = true) := hb
    clear h ha hb
    go_enter Tryd.func6, Tryd.ntmps6
    go_wp2_with fail
    refine (compare_spec _ _ _ _ _ hp0 hp1 HA.out HB.out).mono ?_
    rintro e wa ⟨rfl, hb1⟩
    go_wp2_with fail
    refine (compare_impl _ _ _ _ _ (hw.below (bel_trans hb1 (bel_alloc _ _))) hp0 hp1 HA.out HB.out).mono ?_
    rintro e wb ⟨rfl, hb2⟩
    obtain ⟨z2, k20, k21⟩ := res_cells hb2
    go_wp2_with fail
    refine (eq_res _ _ _ _ _ (by simp) (by simp)).mono ?_
    rintro e wc ⟨rfl, hb3⟩
    go_wp2_with fail
    go_ret
    exact ⟨rfl, bel_trans (bel_trans (bel_trans (bel_trans hb1 (bel_alloc _ _)) hb2) (bel_alloc _ _)) hb3⟩
end Go.Proofs.YtedlghmjfaflcabDoor
