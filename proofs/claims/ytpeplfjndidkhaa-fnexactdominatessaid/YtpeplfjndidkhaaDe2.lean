/- Dominates: the specification's answer. -/
import Derived.Test.YtpeplfjndidkhaaDe0
import Derived.Test.YtpeplfjndidkhaaRe1
import Derived.Test.YtpeplfjndidkhaaGs1
namespace Go.Proofs.Ytpeplfjndidkhaa
open Go.ChangeShapes Go.WideShapes Go.ChangeAt Go.RowKit
set_option linter.unusedVariables false
set_option linter.unusedSimpArgs false
set_option maxRecDepth 100000 in
set_option maxHeartbeats 4000000 in
theorem domtS (d : FnD) (vp vb : Value) (a b : Int) (w : World) {lo : Nat} (h : FnAt lo w d vp vb) (hn : fnN d ≤ 1048576) :
    Calls Try.prog 17 #[fnV d vp vb, .int .i64 a, .int .i64 b] w fun e w' => e = .returned (.bool (dmB d.blocks a b)) ∧ Below w.heap.size w w' := by
  have CG : Kp (∀ W, Below w.heap.size w W → Calls Try.prog 32 #[fnV d vp vb] W _) := ⟨fun W hW => graphS d vp vb W (h.keep hW) hn⟩
  unfold fnN at hn
  obtain ⟨name, link, params, res, blocks⟩ := d
  obtain ⟨-, hp, hb⟩ := h
  dsimp only [fnV] at *
  have nn := blsN_nn blocks
  have n2 : (blocks.length : Int) ≤ 1048576 := by omega
  obtain ⟨a1, k1, rfl⟩ := hp.shape
  obtain ⟨a2, k2, rfl⟩ := hb.shape
  clear hp hb
  obtain ⟨n, hnl⟩ : ∃ n, Kp (blocks.length = n) := ⟨_, ⟨rfl⟩⟩
  have hnx : ∀ i : Nat, i < n → (nextL blocks i).length ≤ 1048576 ∧ ∀ y ∈ nextL blocks i, 0 ≤ y ∧ y < (n : Int) := fun i hi => ⟨by have := @nextL_len blocks i; omega, fun y hy => by have := nextL_bd hy; rw [hnl.out] at this; exact this⟩
  have hin := nextL_in blocks
  rw [hnl.out] at CG n2 hin ⊢
  obtain ⟨W0, hW0⟩ : ∃ W0, Kp (W0 = w.alloc (Go.Obj.cells #[.string name, .int .i64 link, .slice a1 params.length k1, .int .i64 res, .slice a2 n k2] 30)) := ⟨_, ⟨rfl⟩⟩
  have hB0 : Below w.heap.size w W0 := by rw [hW0.out]; exact bel_alloc _ _
  have hx0 : W0.heap[w.heap.size]? = some (Go.Obj.cells #[.string name, .int .i64 link, .slice a1 params.length k1, .int .i64 res, .slice a2 n k2] 30 (0, 0)) := by rw [hW0.out]; exact new_cells _ _
  have x0 := at_cells hx0 (j := 0) rfl
  have x1 := at_cells hx0 (j := 1) rfl
  have x2 := at_cells hx0 (j := 2) rfl
  have x3 := at_cells hx0 (j := 3) rfl
  have x4 := at_cells hx0 (j := 4) rfl
  by_cases hbad : (0 ≤ a ∧ a < n) ∧ (0 ≤ b ∧ b < n)
  · obtain ⟨⟨ha0, ha1⟩, hb0, hb1⟩ := hbad
    obtain ⟨ka, rfl⟩ : ∃ t : Nat, a = t := ⟨a.toNat, by omega⟩
    obtain ⟨kb, rfl⟩ : ∃ t : Nat, b = t := ⟨b.toNat, by omega⟩
    have hkb : kb < n := by omega
    have hpos : 0 < blocks.length := by rw [hnl.out]; omega
    have hr : (0 : Int) ≤ 0 ∧ (0 : Int) < n := ⟨by omega, by omega⟩
    have g1 : decide ((ka : Int) < 0) = false := by simp
    have g2 : decide ((kb : Int) < 0) = false := by simp
    have g3 : decide ((n : Int) ≤ (ka : Int)) = false := by simp; omega
    have g4 : decide ((n : Int) ≤ (kb : Int)) = false := by simp; omega
    have g3' : decide (n ≤ ka) = false := by simp; omega
    have g4' : decide (n ≤ kb) = false := by simp; omega
    have CR : Kp (∀ (W : World) (vN vP : Value) (lo : Nat) (wo : Int), Rws lo W vN n (fun i => nextL blocks i) → (∃ a m c, vP = .slice a m c) → Calls Try.prog 40 #[.agg #[vN, vP], .int .i64 0, .int .i64 wo] W _) := ⟨fun W vN vP lo wo G hP => reachS (nextL blocks) n lo W vN vP G hP (by omega) hnx 0 wo⟩
    have hdm : Kp (∀ s1 s2 : List Int, (∀ y, y ∈ s1 ↔ 0 ≤ (0 : Int) ∧ (0 : Int) < n ∧ Way (EB (nextL blocks)) (fun z => z ≠ -1) 0 y) → (∀ y, y ∈ s2 ↔ 0 ≤ (0 : Int) ∧ (0 : Int) < n ∧ Way (EB (nextL blocks)) (fun z => z ≠ (ka : Int)) 0 y) → dmB blocks ka kb = (s1.contains (kb : Int) && !s2.contains (kb : Int))) := ⟨fun s1 s2 h1 h2 => by
      refine dmB_eq ?_
      rw [Bool.and_eq_true, Bool.not_eq_true', ← Bool.not_eq_true, List.contains_iff_mem, List.contains_iff_mem, h1, h2]
      constructor
      · rintro ⟨⟨-, -, q⟩, q2⟩
        exact ⟨hpos, q.mono (fun _ _ => trivial), fun q3 => q2 ⟨hr.1, hr.2, q3⟩⟩
      · rintro ⟨-, q1, q2⟩
        exact ⟨⟨hr.1, hr.2, way_past hin (by omega) q1 hr⟩, fun q => q2 q.2.2⟩⟩
    have hd0 : Kp (∀ s1 : List Int, (∀ y, y ∈ s1 ↔ 0 ≤ (0 : Int) ∧ (0 : Int) < n ∧ Way (EB (nextL blocks)) (fun z => z ≠ -1) 0 y) → s1.contains (kb : Int) = false → dmB blocks ka kb = false) := ⟨fun s1 h1 hc => by
      rw [Bool.eq_false_iff]
      intro q
      obtain ⟨-, q1, -⟩ := dmB_true.1 q
      have := (h1 (kb : Int)).2 ⟨hr.1, hr.2, way_past hin (by omega) q1 hr⟩
      rw [List.contains_iff_mem.2 this] at hc
      cases hc⟩
    obtain ⟨R, hR⟩ : ∃ R, Kp (dmB blocks ka kb = R) := ⟨_, ⟨rfl⟩⟩
    rw [hR.out] at hdm hd0 ⊢
    replace hx0 := Kp.mk hx0
    replace hnx := Kp.mk hnx
    replace hin := Kp.mk hin
    clear hpos
    go_enter Try.func17, Try.ntmps17
    go_upto_region 1 with fail
    rw [← hW0.out]
    go_wp2_with fail
    refine (CG.out _ hB0).mono ?_
    rintro e W1 ⟨vN, vP, rfl, hN, hP, hB1⟩
    obtain ⟨_, _, ⟨⟨aN, cN, rfl, -, -⟩, -⟩, -, -⟩ := hN.ex
    obtain ⟨_, _, ⟨⟨aP, cP, rfl, -, -⟩, -⟩, -, -⟩ := hP.ex
    obtain ⟨W2, hW2⟩ : ∃ W2, Kp (W2 = W1.alloc (Go.Obj.cells #[.slice aN n cN, .slice aP n cP] 51)) := ⟨_, ⟨rfl⟩⟩
    have hB2 : Below W1.heap.size W1 W2 := by rw [hW2.out]; exact bel_alloc _ _
    have hg2 : W2.heap[W1.heap.size]? = some (Go.Obj.cells #[.slice aN n cN, .slice aP n cP] 51 (0, 0)) := by rw [hW2.out]; exact new_cells _ _
    have y0 := at_cells hg2 (j := 0) rfl
    have y1 := at_cells hg2 (j := 1) rfl
    have hB02 := bel_trans (bel_trans hB0 hB1) hB2
    have C1 := Kp.mk (CR.out W2 _ _ _ (-1) (hN.keep hB2) ⟨aP, n, cP, rfl⟩)
    have N2 := Kp.mk (hN.keep hB2)
    clear x0 x1 x2 x3 x4 hN hP
    go_upto_region 5 with fail
    rw [← hW2.out]
    go_wp2_with fail
    refine C1.out.mono ?_
    rintro e W3 ⟨s1, rfl, hS1, hB3, hm1⟩
    have hc1 := hS1.at hkb
    have hm1k := Kp.mk hm1
    cases hcc : s1.contains (kb : Int) with
    | false =>
      rw [hcc] at hc1
      have hRf := hd0.out s1 hm1 hcc
      subst hRf
      replace hS1 := Kp.mk hS1
      clear hm1
      go_wp2_with fail
      go_ret
      exact ⟨rfl, bel_trans hB02 hB3⟩
    | true =>
      rw [hcc] at hc1
      have z0 := at_keep y0 hB3
      have z1 := at_keep y1 hB3
      have C2 := Kp.mk (CR.out W3 _ _ _ (ka : Int) (N2.out.keep hB3) ⟨aP, n, cP, rfl⟩)
      replace hS1 := Kp.mk hS1
      clear hm1
      go_wp2_with fail
      refine C2.out.mono ?_
      rintro e W4 ⟨s2, rfl, hS2, hB4, hm2⟩
      have hc2 := hS2.at hkb
      have hRe := hdm.out s1 s2 hm1k.out hm2
      rw [hcc, Bool.true_and] at hRe
      obtain ⟨q, hq⟩ : ∃ q, s2.contains (kb : Int) = q := ⟨_, rfl⟩
      rw [hq] at hc2 hRe
      subst hRe
      replace hq := Kp.mk hq
      replace hS2 := Kp.mk hS2
      clear hm2 z0 z1
      go_wp2_with fail
      go_ret
      exact ⟨rfl, bel_trans (bel_trans hB02 hB3) hB4⟩
  · have hf : dmB blocks a b = false := dmB_out (by
      rw [hnl.out]
      by_cases q : 0 ≤ a ∧ a < n
      · exact .inr (fun q2 => hbad ⟨q, q2⟩)
      · exact .inl q)
    rw [hf]
    replace hx0 := Kp.mk hx0
    have fin : ∀ (c1 c2 c3 c4 : Bool), decide (a < 0) = c1 → decide (b < 0) = c2 → decide ((n : Int) ≤ a) = c3 → decide ((n : Int) ≤ b) = c4 → (c1 = true ∨ c2 = true ∨ c3 = true ∨ c4 = true) →
        Calls Try.prog 17 #[.agg #[.string name, .int .i64 link, .slice a1 params.length k1, .int .i64 res, .slice a2 n k2], .int .i64 a, .int .i64 b] w fun e w' => e = .returned (.bool false) ∧ Below w.heap.size w w' := by
      intro c1 c2 c3 c4 h1 h2 h3 h4 hor
      replace hor := Kp.mk hor
      cases c1 with
      | true =>
        go_enter Try.func17, Try.ntmps17
        go_upto_region 1 with fail
        rw [← hW0.out]
        go_wp2_with fail
        go_ret
        exact ⟨rfl, hB0⟩
      | false =>
        cases c2 with
        | true =>
          go_enter Try.func17, Try.ntmps17
          go_upto_region 1 with fail
          rw [← hW0.out]
          go_wp2_with fail
          go_ret
          exact ⟨rfl, hB0⟩
        | false =>
          cases c3 with
          | true =>
            go_enter Try.func17, Try.ntmps17
            go_upto_region 1 with fail
            rw [← hW0.out]
            go_wp2_with fail
            go_ret
            exact ⟨rfl, hB0⟩
          | false =>
            cases c4 with
            | true =>
              go_enter Try.func17, Try.ntmps17
              go_upto_region 1 with fail
              rw [← hW0.out]
              go_wp2_with fail
              go_ret
              exact ⟨rfl, hB0⟩
            | false =>
              have := hor.out
              simp at this
    refine fin _ _ _ _ rfl rfl rfl rfl ?_
    simp only [decide_eq_true_eq]
    omega
end Go.Proofs.Ytpeplfjndidkhaa
