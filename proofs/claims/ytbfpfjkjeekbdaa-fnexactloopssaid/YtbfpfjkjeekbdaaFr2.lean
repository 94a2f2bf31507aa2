/- Frontier: the specification's answer. -/
import Derived.Test.YtbfpfjkjeekbdaaFr1
import Derived.Test.YtbfpfjkjeekbdaaDe0
import Derived.Test.YtbfpfjkjeekbdaaDo1
import Derived.Test.YtbfpfjkjeekbdaaRe1
import Derived.Test.YtbfpfjkjeekbdaaGs1
import Derived.Deep.RegionWith
import Derived.Deep.DeepFit
import Derived.Test.YtbfpfjkjeekbdaaLp2
import Derived.Test.YtbfpfjkjeekbdaaShelf
import Derived.Test.YtbfpfjkjeekbdaaRows
import Derived.WalkKit
import Derived.Deep.RegionHeld3
import Derived.BigRegion
namespace Go.Proofs.Ytbfpfjkjeekbdaa
open Go.ChangeShapes Go.WideShapes Go.ChangeAt Go.RowKit
set_option linter.unusedVariables false
set_option linter.unusedSimpArgs false
theorem prevs_fr (blocks : List (List InD)) (hn : blsN blocks ≤ 1048576) : ∀ y : Nat, y < blocks.length → (prevs blocks blocks.length y).length ≤ 1048576 ∧ ∀ x, x ∈ prevs blocks blocks.length y ↔ ∃ i : Nat, x = i ∧ i < blocks.length ∧ (y : Int) ∈ nextL blocks i := fun y hy =>
  ⟨by have h1 := prevs_len blocks blocks.length y; have h2 := nxtN_le blocks blocks.length (Nat.le_refl _); omega, fun x => prevs_mem blocks y x blocks.length⟩
/-- The frontier of a block, rising. -/
noncomputable def frL (bls : List (List InD)) (k : Int) : List Int := if 0 ≤ k ∧ k < bls.length then frU (frB bls k.toNat) bls.length else []
set_option maxRecDepth 100000 in
set_option maxHeartbeats 4000000 in
theorem fronS (d : FnD) (vp vb : Value) (k : Int) (w : World) {lo : Nat} (h : FnAt lo w d vp vb) (hn : fnN d ≤ 1048576) :
    Calls Try.prog 7 #[fnV d vp vb, .int .i64 k] w fun e w' => ∃ v : Value, e = .returned v ∧ OwnI w' w.heap.size v (frL d.blocks k) ∧ Below w.heap.size w w' := by
  have CG : Kp (∀ W, Below w.heap.size w W → Calls Try.prog 24 #[fnV d vp vb] W _) := ⟨fun W hW => graphS d vp vb W (h.keep hW) hn⟩
  unfold fnN at hn
  obtain ⟨name, link, params, res, blocks⟩ := d
  obtain ⟨-, hp, hb⟩ := h
  dsimp only [fnV] at *
  have nn := blsN_nn blocks
  have n2 : (blocks.length : Int) ≤ 1048576 := by omega
  have n3 : blsN blocks ≤ 1048576 := by omega
  have hpo := prevs_fr blocks n3
  obtain ⟨a1, k1, rfl⟩ := hp.shape
  obtain ⟨a2, k2, rfl⟩ := hb.shape
  clear hp hb
  obtain ⟨n, hnl⟩ : ∃ n, Kp (blocks.length = n) := ⟨_, ⟨rfl⟩⟩
  have hnx : ∀ i : Nat, i < n → (nextL blocks i).length ≤ 1048576 ∧ ∀ y ∈ nextL blocks i, 0 ≤ y ∧ y < (n : Int) := fun i hi => ⟨by have := @nextL_len blocks i; omega, fun y hy => by have := nextL_bd hy; rw [hnl.out] at this; exact this⟩
  rw [hnl.out] at CG n2 hpo ⊢
  have hpv : ∀ i : Nat, i < n → (prevs blocks n i).length ≤ 1048576 ∧ ∀ y ∈ prevs blocks n i, 0 ≤ y ∧ y < (n : Int) := fun i hi => ⟨(hpo i hi).1, fun y hy => by obtain ⟨j, rfl, hj, -⟩ := ((hpo i hi).2 y).1 hy; omega⟩
  have hn1 : n ≤ 1048576 := by omega
  replace hnx := Kp.mk hnx
  replace hpv := Kp.mk hpv
  obtain ⟨W0, hW0⟩ : ∃ W0, Kp (W0 = w.alloc (Go.Obj.cells #[.string name, .int .i64 link, .slice a1 params.length k1, .int .i64 res, .slice a2 n k2] 30)) := ⟨_, ⟨rfl⟩⟩
  have hB0 : Below w.heap.size w W0 := by rw [hW0.out]; exact bel_alloc _ _
  have hx0 : W0.heap[w.heap.size]? = some (Go.Obj.cells #[.string name, .int .i64 link, .slice a1 params.length k1, .int .i64 res, .slice a2 n k2] 30 (0, 0)) := by rw [hW0.out]; exact new_cells _ _
  have x0 := at_cells hx0 (j := 0) rfl
  have x1 := at_cells hx0 (j := 1) rfl
  have x2 := at_cells hx0 (j := 2) rfl
  have x3 := at_cells hx0 (j := 3) rfl
  have x4 := at_cells hx0 (j := 4) rfl
  have hs0 : W0.heap.size = w.heap.size + 1 := by rw [hW0.out]; simp
  replace hx0 := Kp.mk hx0
  clear hpo hn nn n3
  by_cases hk0 : k < 0
  · have hg : decide (k < 0) = true := by simp [hk0]
    rw [show frL blocks k = [] from if_neg (by omega)]
    go_enter Try.func7, Try.ntmps7
    go_upto_region 1 with fail
    rw [← hW0.out]
    go_wp2_with fail
    go_ret
    exact ⟨_, rfl, ⟨⟨rfl, .inr ⟨w.heap.size + 1, 0, #[], rfl, by omega, new_at hs0, Nat.le_refl _, by decide, rfl, rfl⟩⟩⟩, bel_trans hB0 (bel_alloc _ _)⟩
  have hg : decide (k < 0) = false := by simp [hk0]
  by_cases hk1 : (n : Int) ≤ k
  · have hg2 : decide ((n : Int) ≤ k) = true := by simp [hk1]
    rw [show frL blocks k = [] from if_neg (by rw [hnl.out]; omega)]
    go_enter Try.func7, Try.ntmps7
    go_upto_region 1 with fail
    rw [← hW0.out]
    go_wp2_with fail
    go_ret
    exact ⟨_, rfl, ⟨⟨rfl, .inr ⟨w.heap.size + 1, 0, #[], rfl, by omega, new_at hs0, Nat.le_refl _, by decide, rfl, rfl⟩⟩⟩, bel_trans hB0 (bel_alloc _ _)⟩
  have hg2 : decide ((n : Int) ≤ k) = false := by simp; omega
  obtain ⟨K, rfl⟩ : ∃ K : Nat, k = K := ⟨k.toNat, by omega⟩
  have hKn : K < n := by omega
  rw [show frL blocks K = frU (frB blocks K) n from by rw [frL, if_pos ⟨by omega, by rw [hnl.out]; omega⟩, Int.toNat_natCast, hnl.out]]
  have CG1 := Kp.mk (CG.out W0 hB0)
  go_enter Try.func7, Try.ntmps7
  go_upto_region 1 with fail
  rw [← hW0.out]
  go_upto_region 3 with fail
  go_wp2_with fail
  refine CG1.out.mono ?_
  rintro e W1 ⟨vN, vP, rfl, hN, hP, hB01⟩
  have hB1 := bel_trans hB0 hB01
  obtain ⟨_, _, ⟨⟨aN, cN, rfl, -, -⟩, -⟩, -, -⟩ := hN.ex
  obtain ⟨_, _, ⟨⟨aP, cP, rfl, -, -⟩, -⟩, -, -⟩ := hP.ex
  clear CG CG1 x0 x1 x2 x3 x4
  have bb := bel_alloc W1 (Go.Obj.cells #[.slice aN n cN, .slice aP n cP] 45)
  have z := new_cells W1 (Go.Obj.cells #[.slice aN n cN, .slice aP n cP] 45)
  have hB2 := bel_trans hB1 bb
  obtain ⟨V, hV⟩ : ∃ V, Kp (V = W1.alloc (Go.Obj.cells #[.slice aN n cN, .slice aP n cP] 45)) := ⟨_, ⟨rfl⟩⟩
  go_upto_region 4 with fail
  rw [← hV.out] at bb z hB2 ⊢
  have hBD := (Below.refl V.heap.size V).drew
  have ZK : Kp (∀ W', Below V.heap.size V W' → W'.heap[W1.heap.size]? = _) := ⟨fun W' h => keep_cells z h⟩
  have C2 : Kp (∀ W', Below V.heap.size V W' → Calls Try.prog 26 #[.agg #[.slice aN n cN, .slice aP n cP]] W' _) := ⟨fun W' h => domsS blocks n _ hnl W' _ _ ((hN.keep bb).keep h) ⟨aP, n, cP, rfl⟩ hn1 hnx.out⟩
  have C3 : Kp (∀ W' vd, Below V.heap.size V W' → Mtx W' vd n (fun i j => dmB blocks i j) → Calls Try.prog 25 #[.agg #[.slice aN n cN, .slice aP n cP], vd, .int .i64 K] W' _) := ⟨fun W' vd h hM => frontS blocks n _ hnl W' _ _ vd ⟨aN, cN, rfl⟩ ((hP.keep bb).keep h) hM hn1 hpv.out K hKn⟩
  have z0 : V.cell? ⟨W1.heap.size, 0, none⟩ = some (.slice aN n cN) := at_cells z rfl
  have z1 : V.cell? ⟨W1.heap.size, 1, none⟩ = some (.slice aP n cP) := at_cells z rfl
  clear hN hP bb z
  go_region_with (first
    | (go_at_call 26; go_fit (C2.out _ hBD); rintro e W3 ⟨v3, rfl, hM, hB3⟩; have hB33 := hBD.trans hB3; have CF := Kp.mk (C3.out W3 v3 hB33 hM); have t0 : W3.cell? ⟨W1.heap.size, 0, none⟩ = some (.slice aN n cN) := at_cells (ZK.out _ hB33) rfl; have t1 : W3.cell? ⟨W1.heap.size, 1, none⟩ = some (.slice aP n cP) := at_cells (ZK.out _ hB33) rfl)
    | (go_at_call 25; go_fit CF.out; rintro e W4 ⟨v4, rfl, hO, hB4⟩))
  all_goals
    have hB5 := bel_trans (bel_trans hB2 hB33) hB4
    have hO5 : OwnI W4 w.heap.size v4 (frU (frB blocks K) n) := ⟨own_base hO.r (bel_trans hB2 hB33).size⟩
    clear hO CF C2 C3 t0 t1 z0 z1 hM
    go_wp2_with fail
    go_ret
    exact ⟨_, rfl, hO5, hB5⟩
end Go.Proofs.Ytbfpfjkjeekbdaa
namespace Go.Proofs.Ytbfpfjkjeekbdaa
open Go.ChangeShapes Go.WideShapes Go.ChangeAt Go.RowKit
set_option linter.unusedVariables false
set_option linter.unusedSimpArgs false
def sumL (P : Nat → List Int) : Nat → Nat
  | 0 => 0
  | n + 1 => sumL P n + (P n).length
theorem sumL_pushT (k : Int) (P : Nat → List Int) (t : Int) : ∀ n : Nat, (n ≤ t.toNat → sumL (pushT k P t) n = sumL P n) ∧ sumL (pushT k P t) n ≤ sumL P n + 1
  | 0 => ⟨fun _ => rfl, Nat.zero_le _⟩
  | n + 1 => by
    obtain ⟨h1, h2⟩ := sumL_pushT k P t n
    have h3 : n ≠ t.toNat → pushT k P t n = P n := fun h => by unfold pushT upd; rw [if_neg h]
    have h4 : n = t.toNat → (pushT k P t n).length = (P n).length + 1 := fun h => by unfold pushT upd; rw [if_pos h, ← h]; simp
    refine ⟨fun h => ?_, ?_⟩
    · show sumL _ n + _ = sumL P n + _
      rw [h1 (by omega), h3 (by omega)]
    · show sumL _ n + _ ≤ sumL P n + _ + 1
      by_cases e : n = t.toNat
      · rw [h1 (by omega), h4 e]
        omega
      · rw [h3 e]
        omega
theorem sumL_pushL (k : Int) (n : Nat) : ∀ (ts : List Int) (P : Nat → List Int), sumL (pushL k P ts) n ≤ sumL P n + ts.length
  | [], P => Nat.le_refl _
  | t :: r, P => by
    have h1 := sumL_pushL k n r (pushT k P t)
    have h2 := (sumL_pushT k P t n).2
    show sumL (pushL k (pushT k P t) r) n ≤ _
    rw [List.length_cons]
    omega
theorem sumL_prevs (bls : List (List InD)) (n : Nat) : ∀ b : Nat, sumL (prevs bls b) n ≤ nxtN bls b
  | 0 => by
    show sumL (fun _ => []) n ≤ 0
    induction n with
    | zero => exact Nat.le_refl _
    | succ n ih => simpa [sumL] using ih
  | b + 1 => by
    have h1 := sumL_prevs bls n b
    have h2 := sumL_pushL b n (nextL bls b) (prevs bls b)
    show sumL (pushL b (prevs bls b) (nextL bls b)) n ≤ nxtN bls b + _
    omega
theorem pot_all (bls : List (List InD)) : ∀ n : Nat, pot bls (fun _ => false) n = sumL (prevs bls bls.length) n + n
  | 0 => rfl
  | n + 1 => by
    have := pot_all bls n
    simp only [pot, sumL]
    simp
    omega
theorem pot_small (bls : List (List InD)) (h : blsN bls ≤ 1048576) (hl : bls.length ≤ 1048576) : pot bls (fun _ => false) bls.length ≤ 2097152 := by
  have h1 := sumL_prevs bls bls.length bls.length
  have h2 := nxtN_le bls bls.length (Nat.le_refl _)
  rw [pot_all]
  omega
theorem tlL_len (bls : List (List InD)) (h : Nat) : (tlL bls h).length ≤ (prevs bls bls.length h).length := List.length_filter_le _ _
/-- A block is come to where the root dominates it. -/
theorem come_dm {bls : List (List InD)} {nb : Nat} {prs : List (Int × Int)} (hnb : bls.length = nb) (hpos : 0 < nb) (hA : Arr nb 0 prs) (hD : Dv prs.length (frN prs) (nextL bls) (prs.map (·.1)) []) (y : Int) :
    isC (numL (prs.map (·.1))) nb y = dmB bls 0 y := by
  have hM : prs.length = (prs.map (·.1)).length := by simp
  have h0 : (prs.map (·.1))[0]? = some (0 : Int) := by rw [List.getElem?_map, hA.hd]; rfl
  rw [Bool.eq_iff_iff, dmB_true]
  have hr := hD.reach hM h0 y
  have hdom : DomB (nextL bls) 0 0 y ↔ y ∈ prs.map (·.1) := ⟨fun h => hr.1 h.1, fun h => ⟨hr.2 h, fun hw => hw.first rfl⟩⟩
  rw [hdom]
  constructor
  · intro h
    obtain ⟨k, rfl, k1, k2⟩ := isC_true h
    exact ⟨by omega, (hA.num k).1.1 k2⟩
  · rintro ⟨-, h⟩
    obtain ⟨e, he, rfl⟩ := List.mem_map.1 h
    have b := hA.bd e he
    generalize e.1 = y at *
    obtain ⟨k, rfl⟩ : ∃ t : Nat, y = t := ⟨y.toNat, by omega⟩
    unfold isC
    rw [Int.toNat_natCast]
    simp only [Bool.and_eq_true, decide_eq_true_eq]
    exact ⟨⟨by omega, by omega⟩, (hA.num k).1.2 h⟩
/-- The loops, by their heads. -/
noncomputable def lpsD (bls : List (List InD)) : Nat → List (Nat × List Int)
  | 0 => []
  | h + 1 => lpsD bls h ++ if tlL bls h = [] then [] else [(h, lpL bls h)]
end Go.Proofs.Ytbfpfjkjeekbdaa
namespace Go.Proofs.Ytbfpfjkjeekbdaa
open Go.ChangeShapes Go.WideShapes Go.ChangeAt Go.RowKit
set_option linter.unusedVariables false
set_option linter.unusedSimpArgs false
theorem infoLp : (Try.prog.info? 71).map (fun i => (i.zero, i.size, i.bytes)) = some (some (.agg #[.int .i64 0, .slice none 0 0]), 2, 32) := by kernel_rfl
def lpV (es : List (Nat × List Int × Value)) : List Value := es.flatMap (fun e => [.int .i64 e.1, e.2.2])
/-- A row of loops that a call owns, with their rows of blocks. -/
structure OwnLp (w : World) (base : Nat) (v : Value) (ls : List (Nat × List Int)) : Prop where
  ex : ∃ es : List (Nat × List Int × Value), es.map (fun e => (e.1, e.2.1)) = ls ∧ w.ownsRow base 71 2 v es.length (lpV es) ∧ (∀ e ∈ es, OwnI w base e.2.2 e.2.1) ∧ es.Pairwise (fun e f => f.2.2.ownBlock = none ∨ f.2.2.ownBlock ≠ e.2.2.ownBlock)
theorem OwnLp.nil (w : World) (base : Nat) : OwnLp w base (.slice none 0 0) [] := ⟨[], rfl, ⟨rfl, .inl ⟨rfl, rfl⟩⟩, (fun e he => by cases he), .nil⟩
theorem OwnLp.keep {w w' : World} {base : Nat} {v : Value} {ls : List (Nat × List Int)} (h : OwnLp w base v ls) (hb : Below w.heap.size w w') : OwnLp w' base v ls := by
  obtain ⟨es, h1, h2, h3, h4⟩ := h.ex
  refine ⟨es, h1, ⟨h2.1, ?_⟩, fun e he => (h3 e he).keep hb, h4⟩
  rcases h2.2 with h0 | ⟨g, cap, cur, rfl, hb1, hg, rest⟩
  · exact .inl h0
  · exact .inr ⟨g, cap, cur, rfl, hb1, keep_cells hg hb, rest⟩
theorem OwnLp.shape {w : World} {base : Nat} {v : Value} {ls : List (Nat × List Int)} (h : OwnLp w base v ls) : ∃ a c, v = .slice a ls.length c := by
  obtain ⟨es, h1, h2, h3, h4⟩ := h.ex
  have hl : ls.length = es.length := by rw [← h1]; simp
  rw [hl]
  rcases h2.2 with ⟨rfl, e⟩ | ⟨g, cap, cur, rfl, -⟩
  · exact ⟨none, 0, by rw [e]⟩
  · exact ⟨_, _, rfl⟩
theorem OwnLp.base {w : World} {base b2 : Nat} {v : Value} {ls : List (Nat × List Int)} (h : OwnLp w base v ls) (hb : b2 ≤ base) : OwnLp w b2 v ls := by
  obtain ⟨es, h1, h2, h3, h4⟩ := h.ex
  exact ⟨es, h1, own_base h2 hb, fun e he => ⟨own_base (h3 e he).r hb⟩, h4⟩
theorem rows_ne {w : World} {base b2 s1 s2 n m : Nat} {T1 T2 : TypeId} {v u : Value} {xs ys : List Value} (h : w.ownsRow base T1 s1 v n xs) (k : w.ownsRow b2 T2 s2 u m ys) (hT : T1 ≠ T2) : u.ownBlock = none ∨ u.ownBlock ≠ v.ownBlock := by
  rcases k.2 with ⟨rfl, -⟩ | ⟨g, cap, cur, rfl, -, hg, -⟩
  · exact .inl rfl
  · exact .inr (own_ne h hg (Ne.symm hT))
/-- A loop put behind them. -/
theorem OwnLp.more {w0 w : World} {base : Nat} {v : Value} {ls : List (Nat × List Int)} (h0 : OwnLp w0 base v ls) (hw : Below w0.heap.size w0 w) (hn : ls.length ≤ 1048576) (hbase0 : base ≤ w0.heap.size) (b : Nat) (L : List Int) (u : Value) (hu0 : OwnI w w0.heap.size u L) (T ty : TypeId) :
    ∃ v' w', (Builtin.append_ #[37, 37] ty #[v, .slice (some ⟨w.heap.size, 0, none⟩) 1 1]).run Try.prog (w.alloc (Go.Obj.cells #[.int .i64 b, u] T)) = .ok v' w' ∧ OwnLp w' base v' (ls ++ [(b, L)]) ∧ (w.alloc (Go.Obj.cells #[.int .i64 b, u] T)).grownBy w' v.ownBlock ∧ (∀ k, v.ownBlock = some k → base ≤ k) ∧ ∀ (B : Nat) (arr : Array Value) (z : Nat × Nat) (T' : TypeId), w.heap[B]? = some (Go.Obj.cells arr T' z) → T' ≠ 71 → some B ≠ v.ownBlock := by
  obtain ⟨i0, hi0, hz0, hz1, hz2⟩ := info_parts infoLp
  have hbase : base ≤ w.heap.size := Nat.le_trans hbase0 hw.size
  have hO : OwnI w base u L := ⟨own_base hu0.r hbase0⟩
  obtain ⟨es, h1, h20, h30, h4⟩ := h0.ex
  have h3 : ∀ e ∈ es, OwnI w base e.2.2 e.2.1 := fun e he => (h30 e he).keep hw
  have h2 : w.ownsRow base 71 2 v es.length (lpV es) := by
    refine ⟨h20.1, ?_⟩
    rcases h20.2 with h0 | ⟨g, cap, cur, rfl, hb1, hg, rest⟩
    · exact .inl h0
    · exact .inr ⟨g, cap, cur, rfl, hb1, keep_cells hg hw, rest⟩
  have hfr : ∀ e ∈ es, u.ownBlock = none ∨ u.ownBlock ≠ e.2.2.ownBlock := fun e he => by
    rcases hu0.r.2 with ⟨rfl, -⟩ | ⟨g, cap, cur, rfl, hg, -⟩
    · exact .inl rfl
    · refine .inr fun q => ?_
      rcases (h30 e he).r.2 with ⟨e1, -⟩ | ⟨g', cap', cur', e1, -, hg', -⟩
      · rw [e1] at q; cases q
      · rw [e1] at q
        cases q
        have := (Array.getElem?_eq_some_iff.1 hg').1
        omega
  have hl : ls.length = es.length := by rw [← h1]; simp
  have hba := bel_alloc w (Go.Obj.cells #[.int .i64 b, u] T)
  have hz := new_cells w (Go.Obj.cells #[.int .i64 b, u] T)
  have hr2 : (w.alloc (Go.Obj.cells #[.int .i64 b, u] T)).ownsRow base 71 2 v es.length (lpV es) := h2.kept (grown_bel hba none) (by
    rcases h2.2 with ⟨rfl, -⟩ | ⟨g, cap, cur, rfl, -⟩
    · exact .inl rfl
    · exact .inr (by simp [Value.ownBlock]))
  obtain ⟨a, c, hu⟩ := hO.shape
  obtain ⟨v', w', q1, q2, q3, -⟩ := run_append_own_at (P := Try.prog) (w.alloc (Go.Obj.cells #[.int .i64 b, u] T)) base 37 ty 71 i0 (.agg #[.int .i64 0, .slice none 0 0]) 2 32 Try.underlying37 hi0 hz0 hz1 hz2 rfl (by decide) v es.length (lpV es) hr2 ⟨w.heap.size, 0, none⟩ 1 1 [.int .i64 b, u] (by simp) (fun j x hj => by
      obtain ⟨hlt, rfl⟩ := List.getElem?_eq_some_iff.1 hj
      rw [Go.WideShapes.add_plain]
      match j, hlt with
      | 0, _ => exact at_cells hz rfl
      | 1, _ => exact at_cells hz rfl) (fun x hx => by
      simp only [List.mem_cons, List.mem_nil_iff, or_false] at hx
      rcases hx with rfl | rfl
      · rfl
      · rw [hu]; rfl) (by unfold maxLen; omega) (by omega) (by simp; omega)
  refine ⟨v', w', q1, ⟨es ++ [(b, L, u)], by simp [h1], by simpa [lpV] using q2, fun e he => ?_, List.pairwise_append.2 ⟨h4, List.pairwise_singleton _ _, fun e he f hf => by obtain rfl := List.mem_singleton.1 hf; exact hfr e he⟩⟩, q3, fun k hk => ?_, fun B arr z T' hB hT => own_ne h2 hB hT⟩
  · rcases List.mem_append.1 he with q | q
    · exact ⟨((h3 e q).keep hba).r.kept q3 (rows_ne hr2 ((h3 e q).keep hba).r (by decide))⟩
    · obtain rfl := List.mem_singleton.1 q
      exact ⟨(hO.keep hba).r.kept q3 (rows_ne hr2 (hO.keep hba).r (by decide))⟩
  · rcases h2.2 with ⟨rfl, -⟩ | ⟨g, cap, cur, rfl, hg, -⟩
    · cases hk
    · cases hk; exact hg
theorem lpsD_len (bls : List (List InD)) : ∀ n : Nat, (lpsD bls n).length ≤ n
  | 0 => Nat.le_refl _
  | n + 1 => by
    have := lpsD_len bls n
    unfold lpsD
    rw [List.length_append]
    split <;> simp <;> omega
set_option maxRecDepth 100000 in
set_option maxHeartbeats 4000000 in
/-- The closure, at one number. -/
theorem strayI (bls : List (List InD)) (h y : Int) (bd bh : Nat) (s1 s2 s3 s4 s5 s6 : Value) (T : TypeId) (w : World) (hd : w.heap[bd]? = some (Go.Obj.cells #[s1, s2, s3, s4, s5, s6] T (0, 0))) (hh : w.cell? ⟨bh, 0, none⟩ = some (.int .i64 h))
    (CH : Calls Try.prog 31 #[.agg #[s1, s2, s3, s4, s5, s6], .int .i64 h, .int .i64 y] w fun e w' => e = .returned (.bool (dmB bls h y)) ∧ Below w.heap.size w w') :
    Calls Try.prog 37 #[.int .i64 y, .pointer (some ⟨bd, 0, none⟩), .pointer (some ⟨bh, 0, none⟩)] w fun e w' => e = .returned (.bool (!dmB bls h y)) ∧ Below w.heap.size w w' := by
  have d0 := at_cells hd (j := 0) rfl
  have d1 := at_cells hd (j := 1) rfl
  have d2 := at_cells hd (j := 2) rfl
  have d3 := at_cells hd (j := 3) rfl
  have d4 := at_cells hd (j := 4) rfl
  have d5 := at_cells hd (j := 5) rfl
  replace hd := Kp.mk hd
  replace CH := Kp.mk CH
  go_enter Try.func37, Try.ntmps37
  go_wp2_with fail
  refine CH.out.mono ?_
  rintro e w1 ⟨rfl, hb1⟩
  go_wp2_with fail
  go_ret
  exact ⟨rfl, hb1⟩
end Go.Proofs.Ytbfpfjkjeekbdaa
namespace Go.Proofs.Ytbfpfjkjeekbdaa
open Go.ChangeShapes
set_option linter.unusedVariables false
set_option linter.unusedSimpArgs false
section
variable {P : Program} {md : Region.Mode} {ops : Array Oper} {Q : Exit → Act → World → Prop} {S : World → Prop}
/-- Each of them yields its value. -/
def TkY (P : Program) (ops : Array Oper) (S : World → Prop) : List Nat → List Value → Act → Prop
  | [], vs, _ => vs = []
  | i :: r, vs, a => ∃ o v us, vs = v :: us ∧ ops[i]? = some o ∧ YieldsIf P ops S o v a ∧ TkY P ops S r us (a.put o.dst v)
theorem tkn {a : Act} : TkY P ops S [] [] a := rfl
theorem tkc {i : Nat} {r : List Nat} {o : Oper} {v : Value} {us : List Value} {a : Act} (ho : ops[i]? = some o) (hy : YieldsIf P ops S o v a) (hr : TkY P ops S r us (a.put o.dst v)) : TkY P ops S (i :: r) (v :: us) a := ⟨o, v, us, rfl, ho, hy, hr⟩
/-- What is behind them. -/
def TkA (ops : Array Oper) : List Nat → List Value → Act → Act
  | i :: r, v :: us, a => TkA ops r us (a.put ((ops[i]?).bind (·.dst)) v)
  | _, _, a => a
def tkL : List Nat → Array Bool → Array Bool
  | [], l => l
  | i :: r, l => tkL r (l.setIfInBounds i true)
def tkB (md : Region.Mode) (ops : Array Oper) : List Nat → Array Bool → Bool
  | [], _ => true
  | i :: r, l => Region.free md ops l i && (Region.ready md ops l).contains i && tkB md ops r (l.setIfInBounds i true)
theorem tks0 (hs : Region.noSelect ops = true) (hQ : ∀ (d : Nat) v c a w, Q (.panic c) (a.put (some d) v) w → Q (.panic c) a w) {w : World} (hS : S w) {fuel : Nat} :
    ∀ (l : List Nat) (vs : List Value) (listed : Array Bool) (a : Act), tkB md ops l listed = true → TkY P ops S l vs a → wpAnyH P md ops Q S fuel (tkL l listed) (TkA ops l vs a) w → wpAnyH P md ops Q S (fuel + l.length) listed a w
  | [], vs, _, _, _, hv, h => by
    cases vs with
    | nil => exact h
    | cons v r => cases hv
  | i :: r, vs, listed, a, hb, ⟨o, v, us, hv, ho, hy, hr⟩, h => by
    subst hv
    simp only [tkB, Bool.and_eq_true] at hb
    have e : (ops[i]?).bind (·.dst) = o.dst := by rw [ho]; rfl
    have h' : wpAnyH P md ops Q S fuel (tkL r (listed.setIfInBounds i true)) (TkA ops r us (a.put o.dst v)) w := by rw [← e]; exact h
    exact wpAnyH_take (fuel := fuel + r.length) ho hs hb.1.1 hb.1.2 (fun c a w hp => by
      cases hd : o.dst with
      | none => rw [hd] at hp; exact hp
      | some d => rw [hd] at hp; exact hQ d v c a w hp) hy hS (tks0 hs hQ hS r us _ _ hb.2 hr h')
theorem tkP : (∀ (l : List Oper) (i : Nat) (v : Value) (r : List Nat) (us : List Value) (a : Act), TkA l.toArray (i :: r) (v :: us) a = TkA l.toArray r us (a.put ((l[i]?).bind (·.dst)) v)) ∧ (∀ (p : Array Oper) (vs : List Value) (a : Act), TkA p [] vs a = a) ∧
    (∀ (i : Nat) (r : List Nat) (l : Array Bool), tkL (i :: r) l = tkL r (l.setIfInBounds i true)) ∧ (∀ l : Array Bool, tkL [] l = l) ∧
    (∀ (x : Oper) (l : List Oper), (x :: l)[0]? = some x) ∧ (∀ (x : Oper) (l : List Oper) (i : Nat), (x :: l)[i + 1]? = l[i]?) ∧ (∀ (x : Oper) (f : Oper → Option Nat), (some x).bind f = f x) ∧
    (∀ (t : Array Value) (D : List Deferred) (d : Nat) (v : Value), (Act.mk t D).put (some d) v = ⟨t.setIfInBounds d v, D⟩) ∧ (∀ (a : Act) (v : Value), a.put none v = a) ∧
    (∀ (l : List Value) (i : Nat) (v : Value), l.toArray.setIfInBounds i v = (l.set i v).toArray) ∧ (∀ (l : List Bool) (i : Nat) (v : Bool), l.toArray.setIfInBounds i v = (l.set i v).toArray) ∧
    (∀ (x v : Value) (l : List Value), (x :: l).set 0 v = v :: l) ∧ (∀ (x v : Value) (l : List Value) (i : Nat), (x :: l).set (i + 1) v = x :: l.set i v) ∧
    (∀ (x v : Bool) (l : List Bool), (x :: l).set 0 v = v :: l) ∧ (∀ (x v : Bool) (l : List Bool) (i : Nat), (x :: l).set (i + 1) v = x :: l.set i v) :=
  ⟨fun _ _ _ _ _ _ => by simp [TkA], fun _ _ _ => by simp [TkA], fun _ _ _ => rfl, fun _ => rfl, fun _ _ => rfl, fun _ _ _ => rfl, fun _ _ => rfl, fun _ _ _ _ => rfl, fun _ _ => rfl, fun _ _ _ => by simp, fun _ _ _ => by simp, fun _ _ _ => rfl, fun _ _ _ _ => rfl, fun _ _ _ => rfl, fun _ _ _ _ => rfl⟩
theorem tks (k : Nat) (l : List Nat) {vs : List Value} {w : World} (hS : S w) {fuel : Nat} {listed : Array Bool} {a : Act}
    (h : wpAnyH P md ops Q S fuel (tkL l listed) (TkA ops l vs a) w)
    (hk : l.length = k := by rfl) (hs : Region.noSelect ops = true := by kernel_rfl) (hb : tkB md ops l listed = true := by kernel_rfl)
    (hQ : ∀ (d : Nat) v c a w, Q (.panic c) (a.put (some d) v) w → Q (.panic c) a w := by exact fun _ _ _ _ _ h => h)
    (hy : TkY P ops S l vs a := by repeat (first | exact tkn | (apply tkc rfl; focus (first | exact Or.inr ⟨by rfl, rfl⟩ | (refine Or.inl ⟨by rfl, fun wq hSw => ?_⟩; (try dsimp only at hSw); (go_simp) <;> with_reducible rfl)); (try simp only [tkP])))) :
    wpAnyH P md ops Q S (fuel + k) listed a w := by
  subst hk
  exact tks0 hs hQ hS l vs _ _ hb hy h
/-- The one that may come up. -/
theorem rdy (i : Nat) {o : Oper} {fuel : Nat} {listed : Array Bool} {a : Act} {w : World}
    (h : ∀ K' : Act → World → Prop, Shut (∀ a w, S w → (S w → wpAnyH P md ops Q S fuel (listed.setIfInBounds i true) a w) → K' a w) → if Region.wanted o (yielded ops a.tmps) = true then Oper.wp P o a w K' Q else K' (a.put o.dst undef) w)
    (hr : Region.ready md ops listed = [i] := by kernel_rfl) (ho : ops[i]? = some o := by rfl) : wpAnyH P md ops Q S (fuel + 1) listed a w :=
  wpAnyH_ready hr (by simp) (AllReadyH.cons ho h AllReadyH.nil)
end
end Go.Proofs.Ytbfpfjkjeekbdaa
namespace Go.Proofs.Ytbfpfjkjeekbdaa
open Go.ChangeShapes Go.WideShapes Go.ChangeAt Go.RowKit
set_option linter.unusedVariables false
set_option linter.unusedSimpArgs false
theorem step_append_run {P : Program} {ops : Array Oper} {o : Oper} {a : Act} {w w' : World} {K : Act → World → Prop} {Q : Exit → Act → World → Prop} {E : Prop} {v u v' : Value}
    (hg : o.guard = none) (s x : Operand) (t : TypeId) (hop : o.op = Op.call { callee := Callee.builtin Builtin.append, args := #[s, x], argTypes := #[t, t] })
    (hs : a.eval s = v) (hx : a.eval x = u) (hrun : (Builtin.append_ #[t, t] o.type #[v, u]).run P w = .ok v' w') (hK : K (a.put o.dst v') w') :
    if Region.wanted o (yielded ops a.tmps) = true then Oper.wp P o a w K Q else E := by
  have hw : Region.wanted o (yielded ops a.tmps) = true := by simp [Region.wanted, hg]
  rw [if_pos hw]
  unfold Oper.wp
  simp [execOp, hop, resolve, invoke, builtin, hs, hx, hrun, Result.andThen]
  exact hK
set_option maxRecDepth 100000 in
set_option maxHeartbeats 8000000 in
theorem loopsI (d : FnD) (vp vb : Value) (w : World) {lo : Nat} (h : FnAt lo w d vp vb) (hn : fnN d ≤ 1048576) :
    Calls Try.prog 16 #[fnV d vp vb] w fun e w' => ∃ v : Value, e = .returned v ∧ OwnLp w' w.heap.size v (lpsD d.blocks d.blocks.length) ∧ Below w.heap.size w w' := by
  have CG : Kp (∀ W, Below w.heap.size w W → Calls Try.prog 29 #[fnV d vp vb] W _) := ⟨fun W hW => graphI d vp vb W (h.keep hW) hn⟩
  unfold fnN at hn
  obtain ⟨name, link, params, res, blocks⟩ := d
  obtain ⟨-, hp, hb⟩ := h
  dsimp only [fnV] at *
  have nn := blsN_nn blocks
  have n2 : (blocks.length : Int) ≤ 1048576 := by omega
  have n3 : blsN blocks ≤ 1048576 := by omega
  obtain ⟨a1, k1, rfl⟩ := hp.shape
  obtain ⟨a2, k2, rfl⟩ := hb.shape
  clear hp hb
  obtain ⟨W0, hW0⟩ : ∃ W0, Kp (W0 = w.alloc (Go.Obj.cells #[.string name, .int .i64 link, .slice a1 params.length k1, .int .i64 res, .slice a2 blocks.length k2] 30)) := ⟨_, ⟨rfl⟩⟩
  have hB0 : Below w.heap.size w W0 := by rw [hW0.out]; exact bel_alloc _ _
  have hx0 : W0.heap[w.heap.size]? = some (Go.Obj.cells #[.string name, .int .i64 link, .slice a1 params.length k1, .int .i64 res, .slice a2 blocks.length k2] 30 (0, 0)) := by rw [hW0.out]; exact new_cells _ _
  have x0 := at_cells hx0 (j := 0) rfl
  have x1 := at_cells hx0 (j := 1) rfl
  have x2 := at_cells hx0 (j := 2) rfl
  have x3 := at_cells hx0 (j := 3) rfl
  have x4 := at_cells hx0 (j := 4) rfl
  by_cases h0 : blocks.length = 0
  · have hg : ((blocks.length : Int) == 0) = true := by simp [h0]
    have hfl : lpsD blocks blocks.length = [] := by rw [h0]; rfl
    rw [hfl]
    clear n2
    replace h0 := Kp.mk h0
    replace hx0 := Kp.mk hx0
    go_enter Try.func16, Try.ntmps16
    go_upto_region 1 with fail
    rw [← hW0.out]
    go_wp2_with fail
    go_ret
    exact ⟨_, rfl, OwnLp.nil _ _, hB0⟩
  · have hpos : 0 < blocks.length := by omega
    obtain ⟨nb, hnb⟩ : ∃ nb, Kp (blocks.length = nb) := ⟨_, ⟨rfl⟩⟩
    have hg : ((nb : Int) == 0) = false := by rw [beq_eq_false_iff_ne]; have := hnb.out; omega
    have CD : Kp (∀ W vN vP lo, Rws lo W vN nb (fun i => nextL blocks i) → Rws lo W vP nb (prevs blocks nb) → Calls Try.prog 30 #[.agg #[vN, vP], .int .i64 0] W fun e w' => Below W.heap.size W w' ∧ ∃ a1 c1 a2 c2 a3 c3 a4 c4 a5 c5 a6 c6 m1 m2 m3 m4 m5 m6, e = .returned (.agg #[.slice a1 m1 c1, .slice a2 m2 c2, .slice a3 m3 c3, .slice a4 m4 c4, .slice a5 m5 c5, .slice a6 m6 c6]) ∧
        Kp ((∀ W2 k y, Below w'.heap.size w' W2 → Calls Try.prog 31 #[.agg #[.slice a1 m1 c1, .slice a2 m2 c2, .slice a3 m3 c3, .slice a4 m4 c4, .slice a5 m5 c5, .slice a6 m6 c6], .int .i64 k, .int .i64 y] W2 fun e w3 => e = .returned (.bool (dmB blocks k y)) ∧ Below W2.heap.size W2 w3) ∧
          (∀ W2 y, Below w'.heap.size w' W2 → Calls Try.prog 46 #[.agg #[.slice a1 m1 c1, .slice a2 m2 c2, .slice a3 m3 c3], .int .i64 y] W2 fun e w3 => e = .returned (.bool (dmB blocks 0 y)) ∧ Below W2.heap.size W2 w3))) := ⟨fun W vN vP lo hN hP => by
      have hpo := prevs_fr blocks n3
      rw [hnb.out] at hpo
      have hnx : ∀ i : Nat, i < nb → (nextL blocks i).length ≤ 1048576 ∧ ∀ y ∈ nextL blocks i, 0 ≤ y ∧ y < nb := fun i hi => ⟨by have := @nextL_len blocks i; omega, fun y hy => by have := nextL_bd hy; rwa [hnb.out] at this⟩
      refine (dominanceI (nextL blocks) nb lo (prevs blocks nb) W vN vP hN hP 0 (by rw [← hnb.out]; exact hpos) (by have := hnb.out; omega) hnx hpo).mono ?_
      rintro e w' ⟨prs, ab, st, sz, v, he, hd, hb, hA, hDv, hnear, hS, htop⟩
      have hd0 := hd
      obtain ⟨b1, b2, b3, b4, b5, b6, c1, c2, c3, c4, c5, c6, rfl, -, -, r3, -⟩ := hd.ex
      refine ⟨hb, _, _, _, _, _, _, _, _, _, _, _, _, _, _, _, _, _, _, he, ⟨fun W2 k y hW2 => ?_, fun W2 y hW2 => ?_⟩⟩
      · have hh : holdB (numL (prs.map (·.1))) (fun i => (st i : Int)) (fun i => (sz i : Int)) nb k y = dmB blocks k y := by
          symm
          refine dmB_eq ?_
          rw [hold_iff hA hDv hnear hS k y]
          exact ⟨fun q => ⟨hpos, q⟩, fun q => q.2⟩
        rw [← hh]
        exact holdsI _ nb prs.length _ _ _ _ _ _ _ k y W2 (hd0.keep hW2) (by have := hnb.out; omega) (by have := hA.len; have := hnb.out; omega) (fun k _ => (hA.num k).2.2) (fun k hk => ⟨by omega, by have := htop k hk; have := hA.len; have := hnb.out; omega⟩)
      · rw [← come_dm hnb.out (by have := hnb.out; omega) hA hDv y]
        exact comesI _ _ _ _ _ _ b3 nb c3 _ y W2 (r3.keep hW2) (by have := hnb.out; omega)⟩
    have hpot := pot_small blocks n3 (by omega)
    have hpl : Kp (∀ i : Nat, i < nb → (prevs blocks nb i).length ≤ 1048576) := ⟨fun i hi => by have h1 := prevs_len blocks nb i; have h2 := nxtN_le blocks nb (by rw [hnb.out]; exact Nat.le_refl _); omega⟩
    have hT : Kp (∀ i : Nat, tlL blocks i = (prevs blocks nb i).filter (fun p => dmB blocks i p)) := ⟨fun i => by unfold tlL; rw [hnb.out]⟩
    have hmem : Kp (∀ i : Nat, i < nb → ∀ x, x ∈ lpL blocks i ↔ InL blocks i x) := ⟨fun i hi x => lpL_mem (by rw [hnb.out]; exact hi)⟩
    rw [hnb.out] at CG n2 x4 hx0 hpot
    replace hpot := Kp.mk hpot
    have hnm : nb ≤ 1048576 := by omega
    replace hx0 := Kp.mk hx0
    have hW0' := hW0.out
    rw [hnb.out] at hW0'
    replace hW0' := Kp.mk hW0'
    rw [hnb.out]
    clear hW0 nn n3 hpos h0
    go_enter Try.func16, Try.ntmps16
    go_upto_region 1 with fail
    rw [← hW0'.out]
    go_upto_region 3 with fail
    go_wp2_with fail
    refine (CG.out _ hB0).mono ?_
    rintro e W1 ⟨vN, vP, rfl, hN, hP, hB01⟩
    have hB1 := bel_trans hB0 hB01
    obtain ⟨bN, oN, ⟨⟨aN, cN, rfl, -, -⟩, -⟩, -, -⟩ := hN.ex
    obtain ⟨bP, oP, ⟨⟨aP, cP, rfl, l1, l2⟩, l3⟩, lr, lc⟩ := hP.ex
    have bb := bel_alloc W1 (Go.Obj.cells #[.slice aN nb cN, .slice aP nb cP] 53)
    have z := new_cells W1 (Go.Obj.cells #[.slice aN nb cN, .slice aP nb cP] 53)
    obtain ⟨V, hV⟩ : ∃ V, Kp (V = W1.alloc (Go.Obj.cells #[.slice aN nb cN, .slice aP nb cP] 53)) := ⟨_, ⟨rfl⟩⟩
    clear CG x0 x1 x2 x3 x4
    go_upto_region 4 with fail
    rw [← hV.out] at bb z ⊢
    have CD1 := Kp.mk (CD.out V _ _ _ (hN.keep bb) (hP.keep bb))
    have z0 : V.cell? ⟨W1.heap.size, 0, none⟩ = some (.slice aN nb cN) := at_cells z rfl
    have z1 : V.cell? ⟨W1.heap.size, 1, none⟩ = some (.slice aP nb cP) := at_cells z rfl
    go_wp2_with fail
    refine CD1.out.mono ?_
    rintro e W2 ⟨hB2, a1', c1', a2', c2', a3', c3', a4', c4', a5', c5', a6', c6', m1, m2, m3, m4, m5, m6, rfl, CH⟩
    clear CD CD1 z0 z1
    have bu := bel_alloc W2 (Go.Obj.cells #[.slice a1' m1 c1', .slice a2' m2 c2', .slice a3' m3 c3', .slice a4' m4 c4', .slice a5' m5 c5', .slice a6' m6 c6'] 58)
    have zd := new_cells W2 (Go.Obj.cells #[.slice a1' m1 c1', .slice a2' m2 c2', .slice a3' m3 c3', .slice a4' m4 c4', .slice a5' m5 c5', .slice a6' m6 c6'] 58)
    obtain ⟨U, hU⟩ : ∃ U, Kp (U = W2.alloc (Go.Obj.cells #[.slice a1' m1 c1', .slice a2' m2 c2', .slice a3' m3 c3', .slice a4' m4 c4', .slice a5' m5 c5', .slice a6' m6 c6'] 58)) := ⟨_, ⟨rfl⟩⟩
    go_upto_region 5 with fail
    rw [← hU.out] at bu zd ⊢
    have hVU := bel_trans hB2 bu
    have h1U := bel_trans bb hVU
    have hwU := bel_trans hB1 h1U
    have GK : Kp (∀ W', Below U.heap.size U W' → W'.cell? ⟨W1.heap.size, 0, none⟩ = some (.slice aN nb cN) ∧ W'.cell? ⟨W1.heap.size, 1, none⟩ = some (.slice aP nb cP)) := ⟨fun W' h => ⟨at_cells (keep_cells (keep_cells z hVU) h) rfl, at_cells (keep_cells (keep_cells z hVU) h) rfl⟩⟩
    have DK : Kp (∀ W', Below U.heap.size U W' → W'.heap[W2.heap.size]? = _) := ⟨fun W' h => keep_cells zd h⟩
    have CH2 : Kp (∀ W' k y, Below U.heap.size U W' → Calls Try.prog 31 _ W' _) := ⟨fun W' k y h => CH.out.1 W' k y (bel_trans bu h)⟩
    have CC2 : Kp (∀ W' y, Below U.heap.size U W' → Calls Try.prog 46 _ W' _) := ⟨fun W' y h => CH.out.2 W' y (bel_trans bu h)⟩
    have hpos2 : 0 < nb := by have h3 := hg; rw [beq_eq_false_iff_ne] at h3; omega
    obtain rfl := l2 hpos2
    have hPU : Kp (Rws _ U _ nb (prevs blocks nb)) := ⟨(hP.keep bb).keep hVU⟩
    have RC : Kp (∀ (i : Nat), i < nb → ∃ a c b o, (0 < (prevs blocks nb i).length → a = some ⟨b, o, none⟩) ∧ ∀ (W' : World), Below U.heap.size U W' → W'.cell? ⟨bP, oP + i, none⟩ = some (.slice a (prevs blocks nb i).length c) ∧ Ints _ .i64 W' (.slice a (prevs blocks nb i).length c) (prevs blocks nb i)) := ⟨fun i hi => by
      obtain ⟨u, h1, h2⟩ := lc i hi
      have h2' := h2
      obtain ⟨b, o, ⟨⟨a, c, rfl, s1, s2⟩, s3⟩, hl, hc⟩ := h2.ex
      exact ⟨a, c, b, o, s2, fun W' h => ⟨at_keep h1 (bel_trans h1U h), (h2'.keep h1U).keep h⟩⟩⟩
    clear hN hP bb z CH bu zd hVU h1U lr lc l1 l2 l3 hB2 hB1 hB01 hB0
    have y0 := (GK.out U (Below.refl _ _)).1
    go_wp2_with fail
    go_loopw [5, 21] (fun s5 s wr => ∃ (b : Nat), b ≤ nb ∧ s = .int .i64 b ∧ OwnLp wr U.heap.size s5 (lpsD blocks b) ∧ Below U.heap.size U wr) (fun _ s _ => nb - (intOf s).toNat)
    case atStart => exact ⟨0, Nat.zero_le _, rfl, OwnLp.nil _ _, Below.refl _ _⟩
    case round =>
      clear y0
      obtain ⟨b, hbn, rfl, hO, hBl⟩ := hrel
      obtain ⟨oa, oc, rfl⟩ := hO.shape
      by_cases hlt : b < nb
      · have hba := bel_alloc wr (Go.Obj.cells #[.int .i64 b] 2)
        have hz := new_cells wr (Go.Obj.cells #[.int .i64 b] 2)
        obtain ⟨Va, hVa⟩ : ∃ Va, Kp (Va = wr.alloc (Go.Obj.cells #[.int .i64 b] 2)) := ⟨_, ⟨rfl⟩⟩
        go_upto_region 10 with fail
        rw [← hVa.out] at hba hz ⊢
        have hUa := bel_trans hBl hba
        have hOa := hO.keep hba
        have zb := at_cells hz (j := 0) rfl
        obtain ⟨-, y1⟩ := GK.out Va hUa
        obtain ⟨pa, pc, pb, po, -, hrow⟩ := RC.out b hlt
        obtain ⟨yr, hI⟩ := hrow Va hUa
        clear hrow hO hBl hba hVa
        have C1 := Kp.mk (cloneI _ _ Va hI (hpl.out b hlt))
        replace hz := Kp.mk hz
        go_wp2_with fail
        refine C1.out.mono ?_
        rintro e w1 ⟨v1, rfl, hO1, hb1⟩
        obtain ⟨ca, cc, rfl⟩ := (OwnI.mk hO1).shape
        have hrw : ∀ k, (Value.slice ca (prevs blocks nb b).length cc).ownBlock = some k → Va.heap.size ≤ k := fun k hk => (hO1.lt k hk).1
        have C2 := Kp.mk (deleteL (prevs blocks nb b) ca cc W2.heap.size wr.heap.size Va.heap.size (fun y => dmB blocks b y) w1 (hpl.out b hlt) hO1 (fun W' y hg => by
          have hBW : Below Va.heap.size Va W' := hb1.grown hg hb1.size hrw
          exact strayI blocks b y W2.heap.size wr.heap.size _ _ _ _ _ _ _ W' (DK.out W' (bel_trans hUa hBW)) (at_cells (keep_cells hz.out hBW) rfl) (CH2.out W' b y (bel_trans hUa hBW))))
        rw [← hT.out b] at C2
        clear C1 hI yr y1 zb
        replace hrw := Kp.mk hrw
        go_wp2_with fail
        refine C2.out.mono ?_
        rintro e w2 ⟨rfl, hO2, hg2⟩
        have hB2 : Below Va.heap.size Va w2 := hb1.grown hg2 hb1.size hrw.out
        have hBU := bel_trans hUa hB2
        clear C2 hg2 hb1 hO1 hrw
        by_cases h0 : tlL blocks b = []
        · have hgt : ¬ (0 : Int) < (tlL blocks b).length := by rw [h0]; simp
          have hnx : Kp (lpsD blocks (b + 1) = lpsD blocks b) := ⟨by simp [lpsD, h0]⟩
          replace h0 := Kp.mk h0
          go_wp2_with fail
          exact ⟨⟨b + 1, by omega, by go_num, by rw [hnx.out]; exact hOa.keep hB2, hBU⟩, by simp [intOf]; omega⟩
        · have hgt : (0 : Int) < (tlL blocks b).length := by
            have := List.length_pos_iff.2 h0
            omega
          have hnx : Kp (lpsD blocks (b + 1) = lpsD blocks b ++ [(b, lpL blocks b)]) := ⟨by simp [lpsD, h0]⟩
          have hll := lpsD_len blocks b
          replace h0 := Kp.mk h0
          have SK : Kp (∀ W', Below U.heap.size U W' → W'.cell? ⟨wr.heap.size, 0, none⟩ = some (.int .i64 b) → Below U.heap.size U W' ∧ W'.cell? ⟨wr.heap.size, 0, none⟩ = some (.int .i64 b) ∧ W'.cell? ⟨W1.heap.size, 0, none⟩ = some (.slice aN nb cN) ∧ W'.cell? ⟨W1.heap.size, 1, none⟩ = some (.slice (some ⟨bP, oP, none⟩) nb cP) ∧ W'.cell? ⟨W2.heap.size, 0, none⟩ = some (.slice a1' m1 c1') ∧ W'.cell? ⟨W2.heap.size, 1, none⟩ = some (.slice a2' m2 c2') ∧ W'.cell? ⟨W2.heap.size, 2, none⟩ = some (.slice a3' m3 c3') ∧ W'.cell? ⟨W2.heap.size, 3, none⟩ = some (.slice a4' m4 c4') ∧ W'.cell? ⟨W2.heap.size, 4, none⟩ = some (.slice a5' m5 c5') ∧ W'.cell? ⟨W2.heap.size, 5, none⟩ = some (.slice a6' m6 c6')) := ⟨fun W' hUW hh => by
            have hdz := DK.out W' hUW
            exact ⟨hUW, hh, (GK.out W' hUW).1, (GK.out W' hUW).2, at_cells hdz (j := 0) rfl, at_cells hdz (j := 1) rfl, at_cells hdz (j := 2) rfl, at_cells hdz (j := 3) rfl, at_cells hdz (j := 4) rfl, at_cells hdz (j := 5) rfl⟩⟩
          have SV : Kp (∀ W', Below Va.heap.size Va W' → Below U.heap.size U W' ∧ W'.cell? ⟨wr.heap.size, 0, none⟩ = some (.int .i64 b) ∧ W'.cell? ⟨W1.heap.size, 0, none⟩ = some (.slice aN nb cN) ∧ W'.cell? ⟨W1.heap.size, 1, none⟩ = some (.slice (some ⟨bP, oP, none⟩) nb cP) ∧ W'.cell? ⟨W2.heap.size, 0, none⟩ = some (.slice a1' m1 c1') ∧ W'.cell? ⟨W2.heap.size, 1, none⟩ = some (.slice a2' m2 c2') ∧ W'.cell? ⟨W2.heap.size, 2, none⟩ = some (.slice a3' m3 c3') ∧ W'.cell? ⟨W2.heap.size, 3, none⟩ = some (.slice a4' m4 c4') ∧ W'.cell? ⟨W2.heap.size, 4, none⟩ = some (.slice a5' m5 c5') ∧ W'.cell? ⟨W2.heap.size, 5, none⟩ = some (.slice a6' m6 c6')) := ⟨fun W' h => SK.out W' (bel_trans hUa h) (at_cells (keep_cells hz.out h) rfl)⟩
          go_upto_region 13 with fail
          refine wp_region_held_drew (S := fun W' => Below U.heap.size U W' ∧ W'.cell? ⟨wr.heap.size, 0, none⟩ = some (.int .i64 b) ∧ W'.cell? ⟨W1.heap.size, 0, none⟩ = some (.slice aN nb cN) ∧ W'.cell? ⟨W1.heap.size, 1, none⟩ = some (.slice (some ⟨bP, oP, none⟩) nb cP) ∧ W'.cell? ⟨W2.heap.size, 0, none⟩ = some (.slice a1' m1 c1') ∧ W'.cell? ⟨W2.heap.size, 1, none⟩ = some (.slice a2' m2 c2') ∧ W'.cell? ⟨W2.heap.size, 2, none⟩ = some (.slice a3' m3 c3') ∧ W'.cell? ⟨W2.heap.size, 3, none⟩ = some (.slice a4' m4 c4') ∧ W'.cell? ⟨W2.heap.size, 4, none⟩ = some (.slice a5' m5 c5') ∧ W'.cell? ⟨W2.heap.size, 5, none⟩ = some (.slice a6' m6 c6')) (by kernel_rfl) (SV.out _ (bel_trans hB2 (bel_drew w2))) (fun hHeld => ?_)
          have kz := bel_drew w2
          replace hB2 := bel_trans hB2 kz
          replace hBU := bel_trans hBU kz
          replace hO2 := (OwnI.mk hO2).keep kz
          generalize w2.drew = Y0 at *
          clear kz
          have CB := Kp.mk (behindI blocks b nb hnb.out hlt hnm (by have := hpot.out; omega) (by have h1 := tlL_len blocks b; have h2 := hpl.out b hlt; rw [hnb.out] at h1; omega) U Y0 _ (.slice aN nb cN) _ _ a1' a2' a3' a4' a5' a6' m1 m2 m3 m4 m5 m6 c1' c2' c3' c4' c5' c6' hBU hPU.out ⟨own_base hO2.r hUa.size⟩ CC2.out)
          refine tks 6 [0, 1, 2, 3, 4, 5] hHeld ?_
          try simp only [tkP]
          refine rdy 6 fun K hK => ?_
          go_simp
          refine CB.out.mono ?_
          rintro e w3 ⟨mb, n, acc, rfl, hS, hnn, hacc, hmb, hg3⟩
          have hB3 : Below Va.heap.size Va w3 := hB2.grown hg3 hB2.size (fun k hk => (hO2.r.lt k hk).1)
          refine hK.out _ _ (SV.out _ hB3) (fun hHeld => ?_)
          clear hK K CB hg3 hB2 hO2 hBU
          try simp only [tkP]
          refine rdy 7 fun K hK => ?_
          go_simp
          refine (risingM mb n acc w3 hS (by omega) (lpL blocks b) (lpL_rise _ _) (fun x => by rw [hmem.out b hlt x, hacc x])).mono ?_
          rintro e w4 ⟨v4, rfl, hO4, hb4⟩
          have hB4 := bel_trans hB3 hb4
          obtain ⟨la, lc4, rfl⟩ := hO4.shape
          refine hK.out _ _ (SV.out _ hB4) (fun hHeld => ?_)
          clear hK K
          try simp only [tkP]
          refine tks 1 [8] hHeld ?_
          try simp only [tkP]
          refine rdy 9 fun K hK => ?_
          go_simp
          have hU4 := bel_trans hUa hB4
          obtain ⟨v6, w6, hrun, hO6, hg6, hlo, hdf⟩ := hOa.more hB4 (by omega) hUa.size b (lpL blocks b) _ ⟨own_base hO4.r hB3.size⟩ 71 37
          have hb5 := bel_alloc w4 (Go.Obj.cells #[.int .i64 b, .slice la (lpL blocks b).length lc4] 71)
          refine hK.out _ _ (SV.out _ (bel_trans hB4 hb5)) (fun hHeld => ?_)
          clear hK K
          try simp only [tkP]
          refine rdy 10 fun K hK => ?_
          refine step_append_run rfl (.tmp 37) (.tmp 46) 37 rfl (by simp [Act.eval, Act.put]) (by simp [Act.eval, Act.put]) hrun ?_
          have hU6 : Below U.heap.size U w6 := (bel_trans hU4 hb5).grown hg6 (bel_trans hU4 hb5).size hlo
          have hc6 : w6.cell? ⟨wr.heap.size, 0, none⟩ = some (.int .i64 b) := hg6.cell (at_cells (keep_cells hz.out (bel_trans hB4 hb5)) rfl) (hdf _ _ _ _ (keep_cells hz.out hB4) (by decide))
          refine hK.out _ _ (SK.out _ hU6 hc6) (fun hHeld => ?_)
          clear hK K
          try simp only [tkP]
          refine tks 1 [11] hHeld ?_
          try simp only [tkP]
          refine wpAnyH_done (by kernel_rfl) ?_ _
          rw [← hnx.out] at hO6
          clear hrun hg6 hdf hlo hO4 hS hB4 hB3 hb4 hb5 hHeld hc6
          go_wp2_with fail
          exact ⟨⟨b + 1, by omega, by go_num, hO6, hU6⟩, by simp [intOf]; omega⟩
      · obtain rfl : b = nb := by omega
        have hO9 := hO.base hwU.size
        have hB9 := bel_trans hwU hBl
        clear hO
        go_wp2_with fail
        go_ret
        exact ⟨_, rfl, hO9, hB9⟩
end Go.Proofs.Ytbfpfjkjeekbdaa
