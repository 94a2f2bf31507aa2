/- Contracts of the laws' helpers that count the blocks of a function, and the function. -/
import Derived.Test.YtbfpfjkjeekbdaaDp1
namespace Go.Proofs.Ytbfpfjkjeekbdaa
open Go.ChangeShapes Go.WideShapes Go.ChangeAt Go.RowKit
set_option linter.unusedVariables false
set_option linter.unusedSimpArgs false
theorem blN_nn (xs : List InD) : 0 ≤ blN xs := by have := insN_nn xs; unfold blN; omega
theorem blsN_nn (xs : List (List InD)) : 0 ≤ blsN xs := by
  unfold blsN
  induction xs with
  | nil => simp
  | cons d r ih => have := blN_nn d; simp only [List.map_cons, List.sum_cons]; omega
theorem blsN_snoc (xs : List (List InD)) (i : Nat) (h : i < xs.length) : blsN (xs.take (i + 1)) = blsN (xs.take i) + blN xs[i] := by
  unfold blsN
  rw [List.take_succ_eq_append_getElem h, List.map_append, List.sum_append]; simp
theorem blsN_le (xs : List (List InD)) (i : Nat) : blsN (xs.take i) ≤ blsN xs := by
  have e := congrArg blsN (List.take_append_drop i xs)
  have := blsN_nn (xs.drop i)
  unfold blsN at *
  rw [List.map_append, List.sum_append] at e
  omega
set_option maxRecDepth 100000 in
set_option maxHeartbeats 2000000 in
theorem szBl (xs : List InD) (vi : Value) (l : Int) (w : World) {lo : Nat} (h : Ins lo w vi xs) (l0 : 0 ≤ l) (l1 : l ≤ 1048576) :
    Calls Try.prog 48 #[.agg #[vi], .int .i64 l] w fun e w' => e = .returned (.int .i64 (less l (blN xs))) ∧ Below w.heap.size w w' := by
  have C : Kp (∀ w, Ins lo w vi xs → Calls Try.prog 67 #[vi, .int .i64 l] w fun e w' => e = .returned (.int .i64 (less l (blN xs))) ∧ Below w.heap.size w w') := ⟨fun w h => szInss vi xs l w h l0 l1⟩
  have d := less_bd (blN_nn xs) l0
  generalize less l (blN xs) = r at *
  by_cases q : r < 0
  · obtain rfl : r = -1 := by omega
    go_enter Try.func48, Try.ntmps48
    go_wp2_with fail
    refine (C.out _ (by first | exact h | exact h.keep (bel_alloc _ _))).mono ?_
    rintro e w1 ⟨rfl, hb1⟩
    go_wp2_with fail
    go_ret
    exact ⟨rfl, by first | exact hb1 | exact bel_trans (bel_alloc _ _) hb1⟩
  · go_enter Try.func48, Try.ntmps48
    go_wp2_with fail
    refine (C.out _ (by first | exact h | exact h.keep (bel_alloc _ _))).mono ?_
    rintro e w1 ⟨rfl, hb1⟩
    go_wp2_with fail
    go_ret
    exact ⟨rfl, by first | exact hb1 | exact bel_trans (bel_alloc _ _) hb1⟩
set_option maxRecDepth 100000 in
set_option maxHeartbeats 2000000 in
theorem szBls (v : Value) (xs : List (List InD)) (l : Int) (w : World) {lo : Nat} (h : Bls lo w v xs) (l0 : 0 ≤ l) (l1 : l ≤ 1048576) :
    Calls Try.prog 23 #[v, .int .i64 l] w fun e w' => e = .returned (.int .i64 (less l (xs.length + blsN xs))) ∧ Below w.heap.size w w' := by
  obtain ⟨b, o, ⟨⟨a, cap, rfl, h1, h2⟩, h3⟩, -, hc⟩ := h.ex
  have g1 : (xs.length : Int) ≤ 140737488355328 := by omega
  have n0 := blsN_nn xs
  by_cases hl : l < xs.length
  · have e : Kp (less l (xs.length + blsN xs) = -1) := ⟨by unfold less; rw [if_pos (by omega)]⟩
    have q : l - (xs.length : Int) < 0 := by omega
    clear h2 hc
    go_enter Try.func23, Try.ntmps23
    go_wp2
    go_ret
    exact ⟨by rw [e.out]; rfl, Below.refl _ _⟩
  · have q : ¬ l - (xs.length : Int) < 0 := by omega
    go_enter Try.func23, Try.ntmps23
    go_wp2_with fail
    go_loopw [1, 5] (fun r s wr => ∃ i : Nat, i ≤ xs.length ∧ s = .int .i64 i ∧ r = .int .i64 (l - xs.length - blsN (xs.take i)) ∧ blsN (xs.take i) ≤ l - xs.length ∧ Below w.heap.size w wr) (fun _ s _ => xs.length - (intOf s).toNat)
    case atStart => exact ⟨0, Nat.zero_le _, rfl, by simp [blsN], by simp [blsN]; omega, Below.refl _ _⟩
    case round =>
      obtain ⟨i, hi, rfl, rfl, hle, hB⟩ := hrel
      by_cases hlt : i < xs.length
      · have ha := h2 (by omega)
        subst ha
        obtain ⟨vi, H, hv0⟩ := hc i hlt
        have c0 := at_keep H hB
        have hv := hv0.keep hB
        clear H hv0
        have hs := blsN_snoc xs i hlt
        have nn := blN_nn xs[i]
        have n1 := blsN_nn (xs.take i)
        have htk := blsN_le xs (i + 1)
        have C : Kp (∀ w, Ins lo w vi xs[i] → ∀ l', 0 ≤ l' → l' ≤ 1048576 → Calls Try.prog 48 #[.agg #[vi], .int .i64 l'] w fun e w' => e = .returned (.int .i64 (less l' (blN xs[i]))) ∧ Below w.heap.size w w') := ⟨fun w h l' a b => szBl _ vi l' w h a b⟩
        have H2 : Kp (blsN (xs.take (i + 1)) = blsN (xs.take i) + blN xs[i]) := ⟨hs⟩
        by_cases hlt2 : l - xs.length - blsN (xs.take i) < blN xs[i]
        · have e1 : less (l - xs.length - blsN (xs.take i)) (blN xs[i]) = -1 := by unfold less; rw [if_pos hlt2]
          have e : Kp (less l (xs.length + blsN xs) = -1) := ⟨by unfold less; rw [if_pos (by omega)]⟩
          clear hs htk H2 hc
          generalize blsN (xs.take i) = T at *
          generalize xs[i] = D at *
          have C1 : Kp _ := ⟨C.out wr hv (l - xs.length - T) (by omega) (by omega)⟩
          rw [e1] at C1
          clear e1 C
          go_wp2_with fail
          refine C1.out.mono ?_
          rintro e w1 ⟨rfl, hb1⟩
          go_wp2_with fail
          go_ret
          exact ⟨by rw [e.out]; rfl, bel_trans hB hb1⟩
        · have e1 : less (l - xs.length - blsN (xs.take i)) (blN xs[i]) = l - xs.length - blsN (xs.take (i + 1)) := by unfold less; rw [if_neg hlt2]; omega
          have q2 : ¬ l - xs.length - blsN (xs.take (i + 1)) < 0 := by omega
          have q3 : blsN (xs.take (i + 1)) ≤ l - xs.length := by omega
          clear hs htk H2 hc hlt2
          have C1 : Kp _ := ⟨C.out wr hv (l - xs.length - blsN (xs.take i)) (by omega) (by omega)⟩
          rw [e1] at C1
          clear e1 C nn
          generalize hT2 : blsN (xs.take (i + 1)) = T2 at *
          generalize blsN (xs.take i) = T at *
          generalize xs[i] = D at *
          have HT2 : Kp _ := ⟨hT2⟩
          clear hT2
          go_wp2_with fail
          refine C1.out.mono ?_
          rintro e w1 ⟨rfl, hb1⟩
          go_wp2_with fail
          refine ⟨⟨i + 1, by omega, by go_num, ?_, ?_, bel_trans hB hb1⟩, by simp [intOf]; omega⟩
          · rw [HT2.out]
          · rw [HT2.out]; exact q3
      · have e0 : i = xs.length := by omega
        have et : blsN (xs.take i) = blsN xs := by rw [e0, List.take_length]
        have e : Kp (less l (xs.length + blsN xs) = l - xs.length - blsN xs) := ⟨by unfold less; rw [if_neg (by omega)]; omega⟩
        rw [et]
        clear et h2 hc hle n0
        go_wp2_with fail
        go_ret
        exact ⟨by rw [e.out]; rfl, hB⟩
set_option maxRecDepth 100000 in
set_option maxHeartbeats 2000000 in
theorem szFn (d : FnD) (vp vb : Value) (l : Int) (w : World) {lo : Nat} (h : FnAt lo w d vp vb) (l0 : 0 ≤ l) (l1 : l ≤ 1048576) :
    Calls Try.prog 6 #[fnV d vp vb, .int .i64 l] w fun e w' => e = .returned (.int .i64 (less l (fnN d))) ∧ Below w.heap.size w w' := by
  obtain ⟨b1, o1, s1, -, -⟩ := h.p.ex
  have hn := h.n
  have z0 : (0 : Int) ≤ d.name.size := by omega
  have z1 : (0 : Int) ≤ d.params.length := by omega
  have z2 : (0 : Int) ≤ d.blocks.length + blsN d.blocks := by have := blsN_nn d.blocks; omega
  have hn' : (d.name.size : Int) ≤ 140737488355328 := by omega
  by_cases q0 : l < d.name.size
  · have e : Kp (less l (fnN d) = -1) := ⟨by unfold less fnN; rw [if_pos (by omega)]⟩
    have q : l - (d.name.size : Int) < 0 := by omega
    go_enter Try.func6, Try.ntmps6
    go_wp2_with fail
    go_ret
    exact ⟨by rw [e.out]; rfl, bel_alloc _ _⟩
  · have q : ¬ l - (d.name.size : Int) < 0 := by omega
    have C1 : Kp (∀ w, Calls Try.prog 22 #[vp, .int .i64 (l - d.name.size)] w fun e w' => e = .returned (.int .i64 (less (l - d.name.size) d.params.length)) ∧ w' = w) := ⟨fun w => szInts vp _ b1 o1 _ w s1 (by omega) (by omega)⟩
    by_cases q1 : l - d.name.size < d.params.length
    · have e1 : less (l - d.name.size) d.params.length = -1 := by unfold less; rw [if_pos q1]
      have e : Kp (less l (fnN d) = -1) := ⟨by unfold less fnN; rw [if_pos (by omega)]⟩
      rw [e1] at C1
      clear e1
      go_enter Try.func6, Try.ntmps6
      go_wp2_with fail
      refine (C1.out _).mono ?_
      rintro e w' ⟨rfl, rfl⟩
      go_wp2_with fail
      go_ret
      exact ⟨by rw [e.out]; rfl, bel_alloc _ _⟩
    · have e1 : less (l - d.name.size) d.params.length = l - d.name.size - d.params.length := by unfold less; rw [if_neg q1]
      have e : less (l - d.name.size - d.params.length) (d.blocks.length + blsN d.blocks) = less l (fnN d) := by unfold less fnN; (repeat' split) <;> omega
      rw [e1] at C1
      have C2 : Kp (∀ w, Bls lo w vb d.blocks → Calls Try.prog 23 #[vb, .int .i64 (l - d.name.size - d.params.length)] w fun e w' => e = .returned (.int .i64 (less l (fnN d))) ∧ Below w.heap.size w w') := ⟨fun w hb => by
        have q := szBls vb d.blocks (l - d.name.size - d.params.length) w hb (by omega) (by omega)
        rw [e] at q
        exact q⟩
      have dd := less_bd (a := fnN d) (by unfold fnN; omega) l0
      have q2 : ¬ l - (d.name.size : Int) - (d.params.length : Int) < 0 := by omega
      have HB : Kp _ := ⟨h.b⟩
      have hnm := d.name
      clear e e1 z0 z1 z2 q0 q1 h s1
      generalize less l (fnN d) = r at *
      by_cases q9 : r < 0
      · obtain rfl : r = -1 := by omega
        go_enter Try.func6, Try.ntmps6
        go_wp2_with fail
        refine (C1.out _).mono ?_
        rintro e w' ⟨rfl, rfl⟩
        go_wp2_with fail
        refine (C2.out _ (HB.out.keep (bel_alloc _ _))).mono ?_
        rintro e w1 ⟨rfl, hb1⟩
        go_wp2_with fail
        go_ret
        exact ⟨rfl, bel_trans (bel_alloc _ _) hb1⟩
      · go_enter Try.func6, Try.ntmps6
        go_wp2_with fail
        refine (C1.out _).mono ?_
        rintro e w' ⟨rfl, rfl⟩
        go_wp2_with fail
        refine (C2.out _ (HB.out.keep (bel_alloc _ _))).mono ?_
        rintro e w1 ⟨rfl, hb1⟩
        go_wp2_with fail
        go_ret
        exact ⟨rfl, bel_trans (bel_alloc _ _) hb1⟩
end Go.Proofs.Ytbfpfjkjeekbdaa
