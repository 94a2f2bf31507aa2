/- Dominates: the specification's answer, the program's, and the law. -/
import Derived.Test.YtpeplfjndidkhaaDe0
import Derived.Test.YtpeplfjndidkhaaDo1
import Derived.Test.YtpeplfjndidkhaaRe1
import Derived.Test.YtpeplfjndidkhaaGs1
namespace Go.Proofs.Ytpeplfjndidkhaa
open Go.ChangeShapes Go.WideShapes Go.ChangeAt Go.RowKit
set_option linter.unusedVariables false
set_option linter.unusedSimpArgs false
theorem prevs_ok (blocks : List (List InD)) (hn : blsN blocks ≤ 1048576) : ∀ y : Nat, y < blocks.length → (prevs blocks blocks.length y).length ≤ 1048576 ∧ ∀ x, x ∈ prevs blocks blocks.length y ↔ ∃ i : Nat, x = i ∧ i < blocks.length ∧ (y : Int) ∈ nextL blocks i := fun y hy =>
  ⟨by have h1 := prevs_len blocks blocks.length y; have h2 := nxtN_le blocks blocks.length (Nat.le_refl _); omega, fun x => prevs_mem blocks y x blocks.length⟩
set_option maxRecDepth 100000 in
set_option maxHeartbeats 4000000 in
theorem domtI (d : FnD) (vp vb : Value) (a b : Int) (w : World) {lo : Nat} (h : FnAt lo w d vp vb) (hn : fnN d ≤ 1048576) :
    Calls Try.prog 18 #[fnV d vp vb, .int .i64 a, .int .i64 b] w fun e w' => e = .returned (.bool (dmB d.blocks a b)) ∧ Below w.heap.size w w' := by
  have CG : Kp (∀ W, Below w.heap.size w W → Calls Try.prog 35 #[fnV d vp vb] W _) := ⟨fun W hW => graphI d vp vb W (h.keep hW) hn⟩
  unfold fnN at hn
  obtain ⟨name, link, params, res, blocks⟩ := d
  obtain ⟨-, hp, hb⟩ := h
  dsimp only [fnV] at *
  have nn := blsN_nn blocks
  have n2 : (blocks.length : Int) ≤ 1048576 := by omega
  have n3 : blsN blocks ≤ 1048576 := by omega
  obtain ⟨a1, k1, rfl⟩ := hp.shape
  obtain ⟨a2, k2, rfl⟩ := hb.shape
  clear hp hb
  obtain ⟨W0, hW0⟩ : ∃ W0, Kp (W0 = w.alloc (Go.Obj.cells #[.string name, .int .i64 link, .slice a1 params.length k1, .int .i64 res, .slice a2 blocks.length k2] 30)) := ⟨_, ⟨rfl⟩⟩
  have hB0 : Below w.heap.size w W0 := by rw [hW0.out]; exact bel_alloc _ _
  have hx0 : W0.heap[w.heap.size]? = some (Go.Obj.cells #[.string name, .int .i64 link, .slice a1 params.length k1, .int .i64 res, .slice a2 blocks.length k2] 30 (0, 0)) := by rw [hW0.out]; exact new_cells _ _
  have x0 := at_cells hx0 (j := 0) rfl
  have x1 := at_cells hx0 (j := 1) rfl
  have x2 := at_cells hx0 (j := 2) rfl
  have x3 := at_cells hx0 (j := 3) rfl
  have x4 := at_cells hx0 (j := 4) rfl
  by_cases h0 : blocks.length = 0
  · have hf : dmB blocks a b = false := by
      rw [Bool.eq_false_iff]
      intro q
      have := (dmB_true.1 q).1
      omega
    rw [hf]
    have hg : decide ((blocks.length : Int) > 0) = false := decide_eq_false (by omega)
    have hg2 : decide ((0 : Int) < (blocks.length : Int)) = false := decide_eq_false (by omega)
    have hg3 : decide (0 < blocks.length) = false := decide_eq_false (by omega)
    clear n2
    replace h0 := Kp.mk h0
    replace hx0 := Kp.mk hx0
    go_enter Try.func18, Try.ntmps18
    go_upto_region 1 with fail
    rw [← hW0.out]
    go_wp2_with fail
    go_ret
    exact ⟨rfl, hB0⟩
  · have hpos : 0 < blocks.length := by omega
    have hposI : (0 : Int) < (blocks.length : Int) := by omega
    obtain ⟨nb, hnb⟩ : ∃ nb, Kp (blocks.length = nb) := ⟨_, ⟨rfl⟩⟩
    have CD : Kp (∀ W vN vP lo, Rws lo W vN nb (fun i => nextL blocks i) → Rws lo W vP nb (prevs blocks nb) → Calls Try.prog 36 #[.agg #[vN, vP], .int .i64 0] W fun e w' => ∃ (prs : List (Int × Int)) (ab st sz : Nat → Nat) (v : Value), e = .returned v ∧
        Domi w' lo nb prs.length (numL (prs.map (·.1))) (fun i => (prs.map (·.1)).getD i 0) (fun i => (frN prs i : Int)) (fun i => (ab i : Int)) (fun i => (st i : Int)) (fun i => (sz i : Int)) v ∧ Below W.heap.size W w' ∧
        (holdB (numL (prs.map (·.1))) (fun i => (st i : Int)) (fun i => (sz i : Int)) nb a b = dmB blocks a b) ∧ prs.length ≤ nb ∧ (∀ k, k < nb → numL (prs.map (·.1)) k < prs.length) ∧ ∀ k, k < prs.length → (0 : Int) ≤ (st k : Int) ∧ (st k : Int) ≤ 1048576) := ⟨fun W vN vP lo hN hP => by
      have hpo := prevs_ok blocks n3
      rw [hnb.out] at hpo
      have hnx : ∀ i : Nat, i < nb → (nextL blocks i).length ≤ 1048576 ∧ ∀ y ∈ nextL blocks i, 0 ≤ y ∧ y < nb := fun i hi => ⟨by have := @nextL_len blocks i; omega, fun y hy => by have := nextL_bd hy; rwa [hnb.out] at this⟩
      refine (dominanceI (nextL blocks) nb lo (prevs blocks nb) W vN vP hN hP 0 (by rw [← hnb.out]; exact hpos) (by have := hnb.out; omega) hnx hpo).mono ?_
      rintro e w' ⟨prs, ab, st, sz, v, he, hd, hb, hA, hDv, hnear, hS, htop⟩
      refine ⟨prs, ab, st, sz, v, he, hd, hb, ?_, hA.len, fun k _ => (hA.num k).2.2, fun k hk => ⟨by omega, by have := htop k hk; have := hA.len; have := hnb.out; omega⟩⟩
      symm
      refine dmB_eq ?_
      rw [hold_iff hA hDv hnear hS a b]
      exact ⟨fun q => ⟨hpos, q⟩, fun q => q.2⟩⟩
    obtain ⟨R, hR⟩ : ∃ R, dmB blocks a b = R := ⟨_, rfl⟩
    rw [hR] at CD ⊢
    rw [hnb.out] at CG hposI n2 x4 hx0
    have hnm : nb ≤ 1048576 := by omega
    replace hx0 := Kp.mk hx0
    replace hR := Kp.mk hR
    have hW0' := hW0.out
    rw [hnb.out] at hW0'
    replace hW0' := Kp.mk hW0'
    rw [hnb.out]
    clear hW0
    go_enter Try.func18, Try.ntmps18
    go_upto_region 1 with fail
    rw [← hW0'.out]
    go_wp2_with fail
    refine (CG.out _ hB0).mono ?_
    rintro e W1 ⟨vN, vP, rfl, hN, hP, hB1⟩
    have CD1 := Kp.mk (CD.out W1 vN vP _ hN hP)
    clear x0 x1 x2 x3 x4
    go_wp2_with fail
    refine CD1.out.mono ?_
    rintro e W2 ⟨prs, ab, st, sz, v, rfl, hd, hB2, hh, hl, hnum, hst⟩
    have CH := Kp.mk (holdsI _ nb prs.length _ _ _ _ _ _ v a b W2 hd hnm (by omega) hnum hst)
    rw [hh] at CH
    replace hd := Kp.mk hd
    replace hnum := Kp.mk hnum
    replace hst := Kp.mk hst
    replace hh := Kp.mk hh
    go_wp2_with fail
    refine CH.out.mono ?_
    rintro e W3 ⟨rfl, hB3⟩
    go_wp2_with fail
    go_ret
    exact ⟨rfl, bel_trans (bel_trans (bel_trans hB0 hB1) hB2) hB3⟩
end Go.Proofs.Ytpeplfjndidkhaa
