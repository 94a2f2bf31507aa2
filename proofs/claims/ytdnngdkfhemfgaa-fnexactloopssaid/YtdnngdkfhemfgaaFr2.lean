/- Frontier: the specification's answer. -/
import Derived.Test.YtdnngdkfhemfgaaFr1
import Derived.Test.YtdnngdkfhemfgaaDe0
import Derived.Test.YtdnngdkfhemfgaaDo1
import Derived.Test.YtdnngdkfhemfgaaRe1
import Derived.Test.YtdnngdkfhemfgaaGs1
import Derived.Deep.RegionWith
import Derived.Deep.DeepFit
namespace Go.Proofs.Ytdnngdkfhemfgaa
open Go.ChangeShapes Go.WideShapes Go.ChangeAt Go.RowKit
set_option linter.unusedVariables false
set_option linter.unusedSimpArgs false
theorem prevs_fr (blocks : List (List InD)) (hn : blsN blocks ≤ 1048576) : ∀ y : Nat, y < blocks.length → (prevs blocks blocks.length y).length ≤ 1048576 ∧ ∀ x, x ∈ prevs blocks blocks.length y ↔ ∃ i : Nat, x = i ∧ i < blocks.length ∧ (y : Int) ∈ nextL blocks i := fun y hy =>
  ⟨by have h1 := prevs_len blocks blocks.length y; have h2 := nxtN_le blocks blocks.length (Nat.le_refl _); omega, fun x => prevs_mem blocks y x blocks.length⟩
/-- The frontier of a block, rising. -/
noncomputable def frL (bls : List (List InD)) (k : Int) : List Int := if 0 ≤ k ∧ k < bls.length then frU (frB bls k.toNat) bls.length else []
set_option maxRecDepth 100000 in
set_option maxHeartbeats 4000000 in
theorem fronS (d : FnD) (vp vb : Value) (k : Int) (w : World) {lo : Nat} (h : FnAt lo w d vp vb) (hn : fnN d ≤ 1048576) :
    Calls Try.prog 7 #[fnV d vp vb, .int .i64 k] w fun e w' => ∃ v : Value, e = .returned v ∧ OwnI w' w.heap.size v (frL d.blocks k) ∧ Below w.heap.size w w' := by
  have CG : Kp (∀ W, Below w.heap.size w W → Calls Try.prog 24 #[fnV d vp vb] W _) := ⟨fun W hW => graphS d vp vb W (h.keep hW) hn⟩
  unfold fnN at hn
  obtain ⟨name, link, params, res, blocks⟩ := d
  obtain ⟨-, hp, hb⟩ := h
  dsimp only [fnV] at *
  have nn := blsN_nn blocks
  have n2 : (blocks.length : Int) ≤ 1048576 := by omega
  have n3 : blsN blocks ≤ 1048576 := by omega
  have hpo := prevs_fr blocks n3
  obtain ⟨a1, k1, rfl⟩ := hp.shape
  obtain ⟨a2, k2, rfl⟩ := hb.shape
  clear hp hb
  obtain ⟨n, hnl⟩ : ∃ n, Kp (blocks.length = n) := ⟨_, ⟨rfl⟩⟩
  have hnx : ∀ i : Nat, i < n → (nextL blocks i).length ≤ 1048576 ∧ ∀ y ∈ nextL blocks i, 0 ≤ y ∧ y < (n : Int) := fun i hi => ⟨by have := @nextL_len blocks i; omega, fun y hy => by have := nextL_bd hy; rw [hnl.out] at this; exact this⟩
  rw [hnl.out] at CG n2 hpo ⊢
  have hpv : ∀ i : Nat, i < n → (prevs blocks n i).length ≤ 1048576 ∧ ∀ y ∈ prevs blocks n i, 0 ≤ y ∧ y < (n : Int) := fun i hi => ⟨(hpo i hi).1, fun y hy => by obtain ⟨j, rfl, hj, -⟩ := ((hpo i hi).2 y).1 hy; omega⟩
  have hn1 : n ≤ 1048576 := by omega
  replace hnx := Kp.mk hnx
  replace hpv := Kp.mk hpv
  obtain ⟨W0, hW0⟩ : ∃ W0, Kp (W0 = w.alloc (Go.Obj.cells #[.string name, .int .i64 link, .slice a1 params.length k1, .int .i64 res, .slice a2 n k2] 30)) := ⟨_, ⟨rfl⟩⟩
  have hB0 : Below w.heap.size w W0 := by rw [hW0.out]; exact bel_alloc _ _
  have hx0 : W0.heap[w.heap.size]? = some (Go.Obj.cells #[.string name, .int .i64 link, .slice a1 params.length k1, .int .i64 res, .slice a2 n k2] 30 (0, 0)) := by rw [hW0.out]; exact new_cells _ _
  have x0 := at_cells hx0 (j := 0) rfl
  have x1 := at_cells hx0 (j := 1) rfl
  have x2 := at_cells hx0 (j := 2) rfl
  have x3 := at_cells hx0 (j := 3) rfl
  have x4 := at_cells hx0 (j := 4) rfl
  have hs0 : W0.heap.size = w.heap.size + 1 := by rw [hW0.out]; simp
  replace hx0 := Kp.mk hx0
  clear hpo hn nn n3
  by_cases hk0 : k < 0
  · have hg : decide (k < 0) = true := by simp [hk0]
    rw [show frL blocks k = [] from if_neg (by omega)]
    go_enter Try.func7, Try.ntmps7
    go_upto_region 1 with fail
    rw [← hW0.out]
    go_wp2_with fail
    go_ret
    exact ⟨_, rfl, ⟨⟨rfl, .inr ⟨w.heap.size + 1, 0, #[], rfl, by omega, new_at hs0, Nat.le_refl _, by decide, rfl, rfl⟩⟩⟩, bel_trans hB0 (bel_alloc _ _)⟩
  have hg : decide (k < 0) = false := by simp [hk0]
  by_cases hk1 : (n : Int) ≤ k
  · have hg2 : decide ((n : Int) ≤ k) = true := by simp [hk1]
    rw [show frL blocks k = [] from if_neg (by rw [hnl.out]; omega)]
    go_enter Try.func7, Try.ntmps7
    go_upto_region 1 with fail
    rw [← hW0.out]
    go_wp2_with fail
    go_ret
    exact ⟨_, rfl, ⟨⟨rfl, .inr ⟨w.heap.size + 1, 0, #[], rfl, by omega, new_at hs0, Nat.le_refl _, by decide, rfl, rfl⟩⟩⟩, bel_trans hB0 (bel_alloc _ _)⟩
  have hg2 : decide ((n : Int) ≤ k) = false := by simp; omega
  obtain ⟨K, rfl⟩ : ∃ K : Nat, k = K := ⟨k.toNat, by omega⟩
  have hKn : K < n := by omega
  rw [show frL blocks K = frU (frB blocks K) n from by rw [frL, if_pos ⟨by omega, by rw [hnl.out]; omega⟩, Int.toNat_natCast, hnl.out]]
  have CG1 := Kp.mk (CG.out W0 hB0)
  go_enter Try.func7, Try.ntmps7
  go_upto_region 1 with fail
  rw [← hW0.out]
  go_upto_region 3 with fail
  go_wp2_with fail
  refine CG1.out.mono ?_
  rintro e W1 ⟨vN, vP, rfl, hN, hP, hB01⟩
  have hB1 := bel_trans hB0 hB01
  obtain ⟨_, _, ⟨⟨aN, cN, rfl, -, -⟩, -⟩, -, -⟩ := hN.ex
  obtain ⟨_, _, ⟨⟨aP, cP, rfl, -, -⟩, -⟩, -, -⟩ := hP.ex
  clear CG CG1 x0 x1 x2 x3 x4
  have bb := bel_alloc W1 (Go.Obj.cells #[.slice aN n cN, .slice aP n cP] 45)
  have z := new_cells W1 (Go.Obj.cells #[.slice aN n cN, .slice aP n cP] 45)
  have hB2 := bel_trans hB1 bb
  obtain ⟨V, hV⟩ : ∃ V, Kp (V = W1.alloc (Go.Obj.cells #[.slice aN n cN, .slice aP n cP] 45)) := ⟨_, ⟨rfl⟩⟩
  go_upto_region 4 with fail
  rw [← hV.out] at bb z hB2 ⊢
  have hBD := (Below.refl V.heap.size V).drew
  have ZK : Kp (∀ W', Below V.heap.size V W' → W'.heap[W1.heap.size]? = _) := ⟨fun W' h => keep_cells z h⟩
  have C2 : Kp (∀ W', Below V.heap.size V W' → Calls Try.prog 26 #[.agg #[.slice aN n cN, .slice aP n cP]] W' _) := ⟨fun W' h => domsS blocks n _ hnl W' _ _ ((hN.keep bb).keep h) ⟨aP, n, cP, rfl⟩ hn1 hnx.out⟩
  have C3 : Kp (∀ W' vd, Below V.heap.size V W' → Mtx W' vd n (fun i j => dmB blocks i j) → Calls Try.prog 25 #[.agg #[.slice aN n cN, .slice aP n cP], vd, .int .i64 K] W' _) := ⟨fun W' vd h hM => frontS blocks n _ hnl W' _ _ vd ⟨aN, cN, rfl⟩ ((hP.keep bb).keep h) hM hn1 hpv.out K hKn⟩
  have z0 : V.cell? ⟨W1.heap.size, 0, none⟩ = some (.slice aN n cN) := at_cells z rfl
  have z1 : V.cell? ⟨W1.heap.size, 1, none⟩ = some (.slice aP n cP) := at_cells z rfl
  clear hN hP bb z
  go_region_with (first
    | (go_at_call 26; go_fit (C2.out _ hBD); rintro e W3 ⟨v3, rfl, hM, hB3⟩; have hB33 := hBD.trans hB3; have CF := Kp.mk (C3.out W3 v3 hB33 hM); have t0 : W3.cell? ⟨W1.heap.size, 0, none⟩ = some (.slice aN n cN) := at_cells (ZK.out _ hB33) rfl; have t1 : W3.cell? ⟨W1.heap.size, 1, none⟩ = some (.slice aP n cP) := at_cells (ZK.out _ hB33) rfl)
    | (go_at_call 25; go_fit CF.out; rintro e W4 ⟨v4, rfl, hO, hB4⟩))
  all_goals
    have hB5 := bel_trans (bel_trans hB2 hB33) hB4
    have hO5 : OwnI W4 w.heap.size v4 (frU (frB blocks K) n) := ⟨own_base hO.r (bel_trans hB2 hB33).size⟩
    clear hO CF C2 C3 t0 t1 z0 z1 hM
    go_wp2_with fail
    go_ret
    exact ⟨_, rfl, hO5, hB5⟩
end Go.Proofs.Ytdnngdkfhemfgaa
