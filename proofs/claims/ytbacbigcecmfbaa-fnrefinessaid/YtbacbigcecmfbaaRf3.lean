/- The specification's Refines and the program's: the same. -/
import Derived.Test.YtbacbigcecmfbaaRf2
namespace Go.Proofs.Ytbacbigcecmfbaa
open Go.ChangeShapes Go.WideShapes Go.ChangeAt Go.RowKit
open Go.Sort (grow)
set_option linter.unusedVariables false
set_option linter.unusedSimpArgs false
theorem beg_min (xs ys : List Int) : decide (xs.take (min xs.length ys.length) = ys.take (min xs.length ys.length)) = (begB xs ys || begB ys xs) := by
  rw [Bool.eq_iff_iff]
  simp only [Bool.or_eq_true, begB, decide_eq_true_eq]
  by_cases h : xs.length ≤ ys.length
  · rw [Nat.min_eq_left h, List.take_of_length_le (Nat.le_refl _)]
    refine ⟨.inl, fun q => q.elim id fun q => ?_⟩
    have hl : ys.length = xs.length := by
      have := congrArg List.length q
      simp at this; omega
    rw [← hl, List.take_of_length_le (Nat.le_refl _), q, hl]
    simp
  · have h2 : ys.length ≤ xs.length := by omega
    rw [Nat.min_eq_right h2, List.take_of_length_le (l := ys) (Nat.le_refl _)]
    refine ⟨fun q => .inr q.symm, fun q => q.elim (fun q => ?_) Eq.symm⟩
    have := congrArg List.length q
    simp at this; omega
theorem eq_beg {xs ys : List Int} (hl : xs.length = ys.length) : begB xs ys = decide (xs = ys) := by
  unfold begB
  rw [hl, List.take_of_length_le (Nat.le_refl _)]
/-- Two runs in boxes of their own, behind whatever leaves them alone. -/
theorem boxes (e : Int) (p : Bool) (o x : Int) (a : Option Addr) (n cap : Nat) (s e' : Int) (p' : Bool) (o' x' : Int) (a' : Option Addr) (n' cap' : Nat) (s' : Int) (w : World) (T T' : TypeId) (w1 : World)
    (hb : Below ((w.alloc (Go.Obj.cells #[.int .i64 e, .bool p, .int .i64 o, .int .u64 x, .slice a n cap, .int .i64 s] T (0, 0))).alloc (Go.Obj.cells #[.int .i64 e', .bool p', .int .i64 o', .int .u64 x', .slice a' n' cap', .int .i64 s'] T' (0, 0))).heap.size ((w.alloc (Go.Obj.cells #[.int .i64 e, .bool p, .int .i64 o, .int .u64 x, .slice a n cap, .int .i64 s] T (0, 0))).alloc (Go.Obj.cells #[.int .i64 e', .bool p', .int .i64 o', .int .u64 x', .slice a' n' cap', .int .i64 s'] T' (0, 0))) w1) :
    w1.cell? ⟨w.heap.size, 0, none⟩ = some (.int .i64 e) ∧ w1.cell? ⟨w.heap.size, 1, none⟩ = some (.bool p) ∧ w1.cell? ⟨w.heap.size, 2, none⟩ = some (.int .i64 o) ∧ w1.cell? ⟨w.heap.size, 3, none⟩ = some (.int .u64 x) ∧ w1.cell? ⟨w.heap.size, 4, none⟩ = some (.slice a n cap) ∧ w1.cell? ⟨w.heap.size, 5, none⟩ = some (.int .i64 s) ∧ w1.cell? ⟨w.heap.size + 1, 0, none⟩ = some (.int .i64 e') ∧ w1.cell? ⟨w.heap.size + 1, 1, none⟩ = some (.bool p') ∧ w1.cell? ⟨w.heap.size + 1, 2, none⟩ = some (.int .i64 o') ∧ w1.cell? ⟨w.heap.size + 1, 3, none⟩ = some (.int .u64 x') ∧ w1.cell? ⟨w.heap.size + 1, 4, none⟩ = some (.slice a' n' cap') ∧ w1.cell? ⟨w.heap.size + 1, 5, none⟩ = some (.int .i64 s') ∧ Below w.heap.size w w1 := by
  have x1 := keep_cells (keep_cells (new_cells w (Go.Obj.cells #[.int .i64 e, .bool p, .int .i64 o, .int .u64 x, .slice a n cap, .int .i64 s] T (0, 0))) (bel_alloc _ (Go.Obj.cells #[.int .i64 e', .bool p', .int .i64 o', .int .u64 x', .slice a' n' cap', .int .i64 s'] T' (0, 0)))) hb
  have x2 := keep_cells (new_cells (w.alloc (Go.Obj.cells #[.int .i64 e, .bool p, .int .i64 o, .int .u64 x, .slice a n cap, .int .i64 s] T (0, 0))) (Go.Obj.cells #[.int .i64 e', .bool p', .int .i64 o', .int .u64 x', .slice a' n' cap', .int .i64 s'] T' (0, 0))) hb
  rw [World.size_alloc] at x2
  exact ⟨at_cells x1 rfl, at_cells x1 rfl, at_cells x1 rfl, at_cells x1 rfl, at_cells x1 rfl, at_cells x1 rfl, at_cells x2 rfl, at_cells x2 rfl, at_cells x2 rfl, at_cells x2 rfl, at_cells x2 rfl, at_cells x2 rfl, bel_trans (bel_trans (bel_alloc _ _) (bel_alloc _ _)) hb⟩
set_option maxRecDepth 100000 in
set_option maxHeartbeats 8000000 in
theorem refS (e : Int) (p : Bool) (o x : Int) (v : Value) (xs : List Int) (s e' : Int) (p' : Bool) (o' x' : Int) (u : Value) (ys : List Int) (s' : Int) (w : World) {lo l2 : Nat} (h : Ints lo .u64 w v xs) (k : Ints l2 .u64 w u ys) :
    Calls Try.prog 6 #[.agg #[.int .i64 e, .bool p, .int .i64 o, .int .u64 x, v, .int .i64 s], .agg #[.int .i64 e', .bool p', .int .i64 o', .int .u64 x', u, .int .i64 s']] w fun r w' => r = .returned (.bool (refB e p o x xs e' p' o' x' ys)) ∧ Below w.heap.size w w' := by
  have G1 : Kp (∀ W, Below w.heap.size w W → Calls Try.prog 12 #[v, u] W _) := ⟨fun W hb => begS v u xs ys W (h.keep hb) (k.keep hb)⟩
  have G2 : Kp (∀ W, Below w.heap.size w W → Calls Try.prog 12 #[u, v] W _) := ⟨fun W hb => begS u v ys xs W (k.keep hb) (h.keep hb)⟩
  have HE : Kp (xs.length = ys.length → begB xs ys = decide (xs = ys)) := ⟨eq_beg⟩
  have HN : Kp (xs.length ≠ ys.length → decide (xs = ys) = false) := ⟨fun h => decide_eq_false (fun e => h (by rw [e]))⟩
  obtain ⟨a, cap, rfl, g1, g3⟩ := h.slice
  obtain ⟨a', cap', rfl, g2, g4⟩ := k.slice
  have BA : Kp (∀ X Y, Below w.heap.size w ((w.alloc X).alloc Y)) := ⟨fun X Y => bel_trans (bel_alloc _ _) (bel_alloc _ _)⟩
  clear h k
  by_cases h7 : e = 7
  · subst h7
    go_enter Try.func6, Try.ntmps6
    go_wp2_with fail
    go_ret
    exact ⟨rfl, BA.out _ _⟩
  by_cases hm : 2 ≤ e ∧ e ≤ 6
  · have R : Kp (refB e p o x xs e' p' o' x' ys = (begB xs ys || begB ys xs)) := ⟨by unfold refB; rw [if_neg h7, if_pos hm]⟩
    rw [R.out]
    have hm1 : e = 2 ∨ (e ≠ 2 ∧ 3 ≤ e) := by omega
    have hm2 := hm.2
    clear R HE HN hm
    generalize begB xs ys = B1 at *
    generalize begB ys xs = B2 at *
    rcases hm1 with rfl | ⟨hm0, hm1⟩ <;> cases B1 <;>
    · go_enter Try.func6, Try.ntmps6
      go_wp2_with (first
        | (go_at_call 12; go_fit (G1.out _ (BA.out _ _)); rintro r w1 ⟨rfl, hb1⟩; obtain ⟨q0, q1, q2, q3, q4, q5, u0, u1, u2, u3, u4, u5, bb⟩ := boxes _ _ _ _ _ _ _ _ _ _ _ _ _ _ _ _ w _ _ _ hb1)
        | (go_at_call 12; go_fit (G2.out _ bb); rintro r w2 ⟨rfl, hb2⟩; have bb2 := bel_trans bb hb2))
      all_goals
        go_ret
        exact ⟨rfl, by assumption⟩
  have R : Kp (refB e p o x xs e' p' o' x' ys = (decide (e = e') && decide (xs = ys) && mayB p o x p' o' x')) := ⟨by unfold refB; rw [if_neg h7, if_neg hm]⟩
  rw [R.out]
  clear R
  by_cases he : e = e'
  · subst he
    have hm1 : e ≠ 2 := by omega
    have hm2 : ¬ 3 ≤ e ∨ ¬ e ≤ 6 := by omega
    by_cases hl : xs.length = ys.length
    · have hE := Kp.mk (HE.out hl)
      rw [← hE.out]
      have hl2 : (xs.length : Int) = ys.length := by omega
      clear hE HE HN G2 hm hl
      generalize begB xs ys = B1 at *
      generalize xs.length = n at *
      generalize ys.length = n' at *
      obtain rfl : n = n' := by omega
      clear hl2
      rcases hm2 with hm2 | hm2 <;> cases B1 <;>
      · go_enter Try.func6, Try.ntmps6
        go_wp2_with (go_at_call 12; go_fit (G1.out _ (BA.out _ _)); rintro r w1 ⟨rfl, hb1⟩; obtain ⟨q0, q1, q2, q3, q4, q5, u0, u1, u2, u3, u4, u5, bb⟩ := boxes _ _ _ _ _ _ _ _ _ _ _ _ _ _ _ _ w _ _ _ hb1)
        all_goals
          go_ret
          refine ⟨?_, by assumption⟩
          clear G1 BA
          simp_all [mayB]
    · have hE := Kp.mk (HN.out hl)
      rw [hE.out]
      have hl2 : ¬ (xs.length : Int) = ys.length := by omega
      clear hE HE HN G2 G1 hm hl
      generalize xs.length = n at *
      generalize ys.length = n' at *
      rcases hm2 with hm2 | hm2 <;>
      · go_enter Try.func6, Try.ntmps6
        go_wp2_with fail
        go_ret
        exact ⟨by simp, BA.out _ _⟩
  · have hm1 : e ≠ 2 := by omega
    have hm2 : ¬ 3 ≤ e ∨ ¬ e ≤ 6 := by omega
    rw [decide_eq_false he]
    clear HE HN G2 G1 hm
    rcases hm2 with hm2 | hm2 <;>
    · go_enter Try.func6, Try.ntmps6
      go_wp2_with fail
      go_ret
      exact ⟨by simp, BA.out _ _⟩
end Go.Proofs.Ytbacbigcecmfbaa
