/- The program's Refines. -/
import Derived.Test.YtbacbigcecmfbaaRf3
import Derived.Deep.RegionWith
namespace Go.Proofs.Ytbacbigcecmfbaa
open Go.ChangeShapes Go.WideShapes Go.ChangeAt Go.RowKit
open Go.Sort (grow)
set_option linter.unusedVariables false
set_option linter.unusedSimpArgs false
set_option maxRecDepth 100000 in
set_option maxHeartbeats 8000000 in
theorem refI (e : Int) (p : Bool) (o x : Int) (v : Value) (xs : List Int) (s e' : Int) (p' : Bool) (o' x' : Int) (u : Value) (ys : List Int) (s' : Int) (w : World) {lo l2 : Nat} (h : Ints lo .u64 w v xs) (k : Ints l2 .u64 w u ys) :
    Calls Try.prog 8 #[.agg #[.int .i64 e, .bool p, .int .i64 o, .int .u64 x, v, .int .i64 s], .agg #[.int .i64 e', .bool p', .int .i64 o', .int .u64 x', u, .int .i64 s']] w fun r w' => r = .returned (.bool (refB e p o x xs e' p' o' x' ys)) ∧ Below w.heap.size w w' := by
  have G1 : Kp (∀ W, Below w.heap.size w W → Calls Try.prog 15 #[v, u] W _) := ⟨fun W hb => eqqS v u xs ys W (h.keep hb) (k.keep hb)⟩
  obtain ⟨a, cap, rfl, g1, g3⟩ := h.slice
  obtain ⟨a', cap', rfl, g2, g4⟩ := k.slice
  obtain ⟨m, hM⟩ : ∃ m : Nat, m = min xs.length ys.length := ⟨_, rfl⟩
  have G2 : Kp (∀ W, Below w.heap.size w W → Calls Try.prog 15 #[.slice a m cap, .slice a' m cap'] W fun e w' => e = .returned (.bool (begB xs ys || begB ys xs)) ∧ Below W.heap.size W w') := ⟨fun W hb => by
    have c := eqqS _ _ _ _ W ((h.cut (min xs.length ys.length) (by omega)).keep hb) ((k.cut (min xs.length ys.length) (by omega)).keep hb)
    rw [beg_min] at c
    rw [hM]
    exact c⟩
  have BA : Kp (∀ X Y, Below w.heap.size w ((w.alloc X).alloc Y)) := ⟨fun X Y => bel_trans (bel_alloc _ _) (bel_alloc _ _)⟩
  clear h k
  by_cases h7 : e = 7
  · subst h7
    go_enter Try.func8, Try.ntmps8
    go_wp2_with fail
    go_ret
    exact ⟨rfl, BA.out _ _⟩
  by_cases hm : 2 ≤ e ∧ e ≤ 6
  · have R : Kp (refB e p o x xs e' p' o' x' ys = (begB xs ys || begB ys xs)) := ⟨by unfold refB; rw [if_neg h7, if_pos hm]⟩
    rw [R.out]
    clear R G1
    generalize (begB xs ys || begB ys xs) = B1 at *
    have hm1 : e = 2 ∨ e = 3 ∨ e = 4 ∨ e = 5 ∨ e = 6 := by omega
    have hmm : min (xs.length : Int) ys.length = (m : Int) := by omega
    have hm3 : (m : Int) ≤ cap := by omega
    have hm4 : (m : Int) ≤ cap' := by omega
    clear hM hm h7
    generalize xs.length = n at *
    generalize ys.length = n' at *
    have HB := Kp.mk (fun w1 => boxes e p o x a n cap s e' p' o' x' a' n' cap' s' w 32 32 w1)
    rcases hm1 with rfl | rfl | rfl | rfl | rfl <;>
    · go_enter Try.func8, Try.ntmps8
      go_upto_region 10 with fail
      generalize hV : (w.alloc _).alloc _ = V
      have HV := Kp.mk (HB.out V (by rw [hV]; exact Below.refl _ _))
      obtain ⟨-, -, -, -, q4, -, -, -, -, -, u4, -, bb⟩ := HV.out
      clear hV HV HB BA
      have k1 := cell_regrown q4
      have k2 := cell_regrown u4
      have CQ := Kp.mk (fun dq osq => Calls.regrown_of (G2.out _ (bel_trans bb (below_regrown V dq osq))))
      refine wp_region_quiet_below (by kernel_rfl) (by kernel_rfl) ?_
      repeat (quiet_step (fail))
      quiet_step (exact CQ.out _ _)
      repeat (quiet_step (fail))
      refine wpQuiet_nil ?_
      intro _ hw'
      obtain ⟨⟨dq, osq⟩, hw''⟩ := hw'
      subst hw''
      have hB2 := bel_trans bb (below_regrown V dq osq)
      clear k1 k2 q4 u4 CQ
      generalize grow (redrawn V dq) osq = V2 at *
      go_wp2_with fail
      go_ret
      exact ⟨rfl, hB2⟩
  have R : Kp (refB e p o x xs e' p' o' x' ys = (decide (e = e') && decide (xs = ys) && mayB p o x p' o' x')) := ⟨by unfold refB; rw [if_neg h7, if_neg hm]⟩
  rw [R.out]
  have hm2 : e ≠ 2 := by omega
  have hm3 : e ≠ 3 := by omega
  have hm4 : e ≠ 4 := by omega
  have hm5 : e ≠ 5 := by omega
  have hm6 : e ≠ 6 := by omega
  have C3 := Kp.mk (mayI p p' o x o' x')
  clear R G2 hM hm
  by_cases he : e = e'
  · subst he
    generalize decide (xs = ys) = B at *
    generalize xs.length = n at *
    generalize ys.length = n' at *
    generalize mayB p o x p' o' x' = M at *
    cases B <;>
    · go_enter Try.func8, Try.ntmps8
      go_wp2_with (first
        | (go_at_call 15; go_fit (G1.out _ (BA.out _ _)); rintro r w1 ⟨rfl, hb1⟩; obtain ⟨q0, q1, q2, q3, q4, q5, u0, u1, u2, u3, u4, u5, bb⟩ := boxes _ _ _ _ _ _ _ _ _ _ _ _ _ _ _ _ w _ _ _ hb1)
        | (go_at_call 16; go_fit (C3.out _); rintro r w2 ⟨rfl, hb2⟩; have bb2 := bel_trans bb hb2))
      all_goals
        go_ret
        exact ⟨by simp, by assumption⟩
  · rw [decide_eq_false he]
    clear G1 C3
    go_enter Try.func8, Try.ntmps8
    go_wp2_with fail
    go_ret
    exact ⟨by simp, BA.out _ _⟩
end Go.Proofs.Ytbacbigcecmfbaa
