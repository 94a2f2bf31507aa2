/- Frontier: the specification's search. -/
import Derived.Test.YticoippnglkmbaaId3
import Derived.BigRegion
import Derived.Test.YticoippnglkmbaaWs2
import Derived.Test.YticoippnglkmbaaDe0
import Derived.Test.YticoippnglkmbaaDo1
import Derived.Test.YticoippnglkmbaaRe1
import Derived.Test.YticoippnglkmbaaGs1
import Derived.Deep.RegionWith
import Derived.Deep.DeepFit
import Derived.Shelf.Small.Bits
import Derived.Shelf.Strconv.Itoa0
import Derived.Shelf.Bits.Mul64
import Derived.Ground.SlgnProg
import Derived.Shelf.SlicesG.Clone
import Derived.Shelf.SlicesG.SearchI
import Derived.Shelf.SlicesE.Clone
import Derived.Ground.SlgcProg
import Derived.Shelf.SlicesG.Cmp
import Derived.Ground.SlgmProg
import Derived.Shelf.SortM.Plain
import Derived.Shelf.SortM.SortNone
import Derived.Test.YticoippnglkmbaaProg
import Derived.Test.YticoippnglkmbaaNb3
import Derived.Test.YticoippnglkmbaaNb4
import Derived.Test.YticoippnglkmbaaGi1
import Derived.Sort.OwnSortedInts
import Derived.Maps.RangeWalk
import Derived.Test.YticoippnglkmbaaHo1
import Derived.Test.YticoippnglkmbaaVt2
import Derived.Deep.RegionHeld3
namespace Go.Proofs.Yticoippnglkmbaa
open Go.ChangeShapes Go.WideShapes Go.ChangeAt Go.RowKit
set_option linter.unusedVariables false
set_option linter.unusedSimpArgs false
/-- The blocks below b that are told, rising. -/
def frU (fr : Nat → Bool) (b : Nat) : List Int := ((List.range b).filter fr).map (fun i : Nat => (i : Int))
theorem frU_yes {fr : Nat → Bool} {b : Nat} (h : fr b = true) : frU fr (b + 1) = frU fr b ++ [(b : Int)] := by
  simp [frU, List.range_succ, List.filter_append, List.filter_cons, h]
theorem frU_no {fr : Nat → Bool} {b : Nat} (h : fr b = false) : frU fr (b + 1) = frU fr b := by
  simp [frU, List.range_succ, List.filter_append, List.filter_cons, h]
theorem frU_len (fr : Nat → Bool) (b : Nat) : (frU fr b).length ≤ b := by
  have := List.length_filter_le fr (List.range b)
  simpa [frU] using this
/-- What is in the frontier of k. -/
noncomputable def frB (bls : List (List InD)) (k b : Nat) : Bool := (prevs bls bls.length b).any (fun p => dmB bls k p) && (!dmB bls k b || decide (k = b))
set_option maxRecDepth 100000 in
set_option maxHeartbeats 4000000 in
theorem frontS (blocks : List (List InD)) (n lo : Nat) (hnl : Kp (blocks.length = n)) (w : World) (vN vP vd : Value) (hN : ∃ a c, vN = .slice a n c) (G : Rws lo w vP n (prevs blocks n)) (H : Mtx w vd n (fun i j => dmB blocks i j)) (hn : n ≤ 1048576)
    (hpv : ∀ i : Nat, i < n → (prevs blocks n i).length ≤ 1048576 ∧ ∀ y ∈ prevs blocks n i, 0 ≤ y ∧ y < (n : Int)) (k : Nat) (hk : k < n) :
    Calls Try.prog 25 #[.agg #[vN, vP], vd, .int .i64 k] w fun e w' => ∃ v', e = .returned v' ∧ OwnI w' w.heap.size v' (frU (frB blocks k) n) ∧ Below w.heap.size w w' := by
  obtain ⟨aN, cN, rfl⟩ := hN
  obtain ⟨a0, c0, rfl, hx⟩ := H.ex
  obtain ⟨hb, ho, ⟨⟨an, cn, rfl, g1, g2⟩, g3⟩, -, gc⟩ := G.ex
  obtain ⟨i0, hi0, hz0, hz1, hz2⟩ := info_parts info64
  obtain rfl := g2 (by omega)
  have GC : Kp (∀ (W : World) (i : Nat), Below w.heap.size w W → i < n → ∃ a c b o, W.cell? ⟨hb, ho + i, none⟩ = some (.slice a (prevs blocks n i).length c) ∧ (0 < (prevs blocks n i).length → a = some ⟨b, o, none⟩) ∧ ∀ q (h : q < (prevs blocks n i).length), At W b (o + q) (.int .i64 (prevs blocks n i)[q])) := ⟨fun W i hW hi => by
    obtain ⟨u, h1, h2⟩ := gc i hi
    obtain ⟨b, o, ⟨⟨a, c, rfl, s1, s2⟩, s3⟩, hl, hc⟩ := h2.ex
    exact ⟨a, c, b, o, at_keep h1 hW, s2, fun q hq => at_keep (hc q hq) hW⟩⟩
  have MC : Kp (∀ W i j, Below w.heap.size w W → i < n → j < n → ∃ hb bi ci, a0 = some ⟨hb, 0, none⟩ ∧ W.cell? ⟨hb, i, none⟩ = some (.slice (some ⟨bi, 0, none⟩) n ci) ∧ W.cell? ⟨bi, j, none⟩ = some (.bool (dmB blocks i j))) := ⟨fun W i j hW hi hj => by
    obtain ⟨g, bi, ci, h1, h2, h3⟩ := hx i hi
    exact ⟨g, bi, ci, h1, at_keep h2 hW, at_keep (h3 j hj) hW⟩⟩
  clear H hx G gc g1 g3 g2
  have k0 : (0 : Int) ≤ (k : Int) := by omega
  have k1 : (k : Int) < (n : Int) := by omega
  obtain ⟨Bo, hBo⟩ : ∃ Bo, Kp (Bo = Go.Obj.cells #[.slice aN n cN, .slice (some ⟨hb, ho, none⟩) n cn] 45 (0, 0)) := ⟨_, ⟨rfl⟩⟩
  obtain ⟨W0, hW0⟩ : ∃ W0, Kp (W0 = w.alloc (Go.Obj.cells #[.slice aN n cN, .slice (some ⟨hb, ho, none⟩) n cn] 45)) := ⟨_, ⟨rfl⟩⟩
  have hB0 : Below w.heap.size w W0 := by rw [hW0.out]; exact bel_alloc _ _
  have hg0 : W0.heap[w.heap.size]? = some Bo := by rw [hW0.out, hBo.out]; exact new_cells _ _
  have SK : Kp (∀ W' : World, W'.heap[w.heap.size]? = some Bo → W'.cell? ⟨w.heap.size, 0, none⟩ = some (.slice aN n cN) ∧ W'.cell? ⟨w.heap.size, 1, none⟩ = some (.slice (some ⟨hb, ho, none⟩) n cn)) := ⟨fun W' h1 => by
    rw [hBo.out] at h1
    exact ⟨at_cells h1 rfl, at_cells h1 rfl⟩⟩
  replace hpv := Kp.mk hpv
  go_enter Try.func25, Try.ntmps25
  go_upto_region 1 with fail
  rw [← hW0.out]
  go_wp2_with fail
  go_loopw [7, 8] (fun vo s wr => ∃ b : Nat, b ≤ n ∧ s = .int .i64 b ∧ wr.ownsRow W0.heap.size 2 1 vo (frU (frB blocks k) b).length ((frU (frB blocks k) b).map (Value.int .i64)) ∧ Below W0.heap.size W0 wr) (fun _ s _ => n - (intOf s).toNat)
  case atStart => exact ⟨0, Nat.zero_le _, rfl, ⟨rfl, .inr ⟨W0.heap.size, 0, #[], rfl, Nat.le_refl _, new_cells W0 _, Nat.le_refl _, by decide, rfl, rfl⟩⟩, bel_alloc _ _⟩
  case round =>
    obtain ⟨b, hbn, rfl, hown, hBl⟩ := hrel
    have hlen := frU_len (frB blocks k) b
    obtain ⟨L, hL⟩ : ∃ L, Kp (frU (frB blocks k) b = L) := ⟨_, ⟨rfl⟩⟩
    rw [hL.out] at hown hlen
    obtain ⟨a8, c8, rfl⟩ := (OwnI.mk hown).shape
    have b0 : (0 : Int) ≤ (b : Int) := by omega
    obtain ⟨y0, y1⟩ := SK.out wr (keep_cells hg0 hBl)
    by_cases hlt : b < n
    · have b1 : (b : Int) < (n : Int) := by omega
      obtain ⟨hpl, hpy⟩ := hpv.out b hlt
      go_wp2_with fail
      go_loopw [9, 10] (fun s6 s7 wz => ∃ i : Nat, i ≤ (prevs blocks n b).length ∧ s6 = .bool (((prevs blocks n b).take i).any (fun p => dmB blocks k p)) ∧ s7 = .int .i64 i ∧ wz.ownsRow W0.heap.size 2 1 (.slice a8 L.length c8) L.length (L.map (Value.int .i64)) ∧ Below W0.heap.size W0 wz) (fun _ s7 _ => (prevs blocks n b).length - (intOf s7).toNat)
      case atStart => exact ⟨0, Nat.zero_le _, by simp, rfl, hown, hBl⟩
      case round =>
        clear hown hBl y0 y1
        obtain ⟨i, hi, rfl, rfl, hown, hBl⟩ := hrel
        obtain ⟨y0, y1⟩ := SK.out wr (keep_cells hg0 hBl)
        have hBw := bel_trans hB0 hBl
        obtain ⟨ra, rc, rb, ro, hrow, hra, hrcs⟩ := GC.out wr b hBw hlt
        have hpb := Kp.mk (show prevs blocks blocks.length b = prevs blocks n b by rw [hnl.out])
        have i00 : (0 : Int) ≤ (i : Int) := by omega
        by_cases hil : i < (prevs blocks n b).length
        · have i01 : (i : Int) < ((prevs blocks n b).length : Int) := by omega
          have hc := hrcs i hil
          obtain rfl := hra (by omega)
          have hyb := hpy _ (List.getElem_mem hil)
          have hnx : ∀ x, (((prevs blocks n b).take i).any (fun p => dmB blocks k p) || dmB blocks k (prevs blocks n b)[i]) = x → ((prevs blocks n b).take (i + 1)).any (fun p => dmB blocks k p) = x := fun x h => by
            rw [List.take_add_one, List.getElem?_eq_getElem hil, List.any_append, ← h]
            simp
          clear hrcs hra
          generalize (prevs blocks n b)[i] = c at *
          generalize (prevs blocks n b).length = pl at *
          obtain ⟨tc, rfl⟩ : ∃ tc : Nat, c = tc := ⟨c.toNat, by omega⟩
          have htc : tc < n := by omega
          have tc0 : (0 : Int) ≤ (tc : Int) := by omega
          have tc1 : (tc : Int) < (n : Int) := by omega
          obtain ⟨hb1, bi, ci, rfl, c1, c2⟩ := MC.out wr k tc hBw hk htc
          cases hf : ((prevs blocks n b).take i).any (fun p => dmB blocks k p) with
          | true =>
            have hs := Kp.mk (hnx true (by rw [hf]; rfl))
            replace hown := Kp.mk hown
            replace hf := Kp.mk hf
            replace hnx := Kp.mk hnx
            go_upto_region 9 with fail
            go_region
            go_wp2_with fail
            exact ⟨⟨i + 1, by omega, by rw [hs.out], by go_num, row_kept hown.out (bel_drew wr), hBl.drew⟩, by simp [intOf]; omega⟩
          | false =>
            have hs := Kp.mk (hnx _ (by rw [hf, Bool.false_or]))
            obtain ⟨q, hq⟩ : ∃ q, dmB blocks k tc = q := ⟨_, rfl⟩
            rw [hq] at c2 hs
            replace hq := Kp.mk hq
            replace hown := Kp.mk hown
            replace hf := Kp.mk hf
            replace hnx := Kp.mk hnx
            go_upto_region 9 with fail
            go_region
            go_wp2_with fail
            exact ⟨⟨i + 1, by omega, by rw [hs.out], by go_num, row_kept hown.out (bel_drew wr), hBl.drew⟩, by simp [intOf]; omega⟩
        · obtain rfl : i = (prevs blocks n b).length := by omega
          have hsz := hBl.size
          have hlL : L.length ≤ 1048576 := by omega
          rw [List.take_length]
          have hfr : Kp (frB blocks k b = ((prevs blocks n b).any (fun p => dmB blocks k p) && (!dmB blocks k b || decide (k = b)))) := ⟨by rw [frB, hpb.out]⟩
          obtain ⟨hb1, bi, ci, rfl, c1, c2⟩ := MC.out wr k b hBw hk hlt
          clear hrcs hra hpy hpb
          cases hF : (prevs blocks n b).any (fun p => dmB blocks k p) with
          | false =>
            have hnone : frU (frB blocks k) (b + 1) = L := by rw [frU_no (by rw [hfr.out, hF, Bool.false_and]), hL.out]
            replace hnone := Kp.mk hnone
            replace hown := Kp.mk hown
            replace hF := Kp.mk hF
            go_wp2_with fail
            exact ⟨⟨b + 1, by omega, by go_num, by rw [hnone.out]; exact hown.out, hBl⟩, by simp [intOf]; omega⟩
          | true =>
            cases hD : dmB blocks k b with
            | false =>
              rw [hD] at c2
              have hyes : frU (frB blocks k) (b + 1) = L ++ [(b : Int)] := by rw [frU_yes (by rw [hfr.out, hF, hD]; rfl), hL.out]
              replace hyes := Kp.mk hyes
              replace hown := Kp.mk hown
              replace hF := Kp.mk hF
              replace hD := Kp.mk hD
              go_wp2_with (at_builtin; refine wpList_append_vals _ rfl _ _ 22 rfl W0.heap.size 2 i0 (.int .i64 0) 1 8 Try.underlying22 hi0 hz0 hz1 hz2 rfl (by decide) _ _ _ rfl (hown.out.alloc _) (some ⟨wr.heap.size, 0, none⟩) wr.heap.size 0 1 1 [.int .i64 b] rfl (fun _ => rfl) rfl (one_new wr _ _) one_cell (by unfold maxLen; omega) (by omega) (by simp; omega) ?_; intro v3 w3 hown3 hgrow3)
              have hB3 := own_bel (hBl.alloc hBl.size _) (hown.out.alloc _) hgrow3 (by simp; omega)
              have hown4 : w3.ownsRow W0.heap.size 2 1 v3 (frU (frB blocks k) (b + 1)).length ((frU (frB blocks k) (b + 1)).map (Value.int .i64)) := by
                rw [hyes.out]
                simpa using hown3
              clear hown hown3 hgrow3 hBl y0 y1 c1 c2
              go_wp2_with fail
              exact ⟨⟨b + 1, by omega, by go_num, hown4, hB3⟩, by simp [intOf]; omega⟩
            | true =>
              rw [hD] at c2
              by_cases hkb : k = b
              · have hkb2 : ((k : Int) == (b : Int)) = true := by simp [hkb]
                have hkb3 : decide (k = b) = true := by simp [hkb]
                replace hkb := Kp.mk hkb
                have hyes : frU (frB blocks k) (b + 1) = L ++ [(b : Int)] := by rw [frU_yes (by rw [hfr.out, hF, hD, hkb3]; rfl), hL.out]
                replace hyes := Kp.mk hyes
                replace hown := Kp.mk hown
                replace hF := Kp.mk hF
                replace hD := Kp.mk hD
                go_wp2_with (at_builtin; refine wpList_append_vals _ rfl _ _ 22 rfl W0.heap.size 2 i0 (.int .i64 0) 1 8 Try.underlying22 hi0 hz0 hz1 hz2 rfl (by decide) _ _ _ rfl (hown.out.alloc _) (some ⟨wr.heap.size, 0, none⟩) wr.heap.size 0 1 1 [.int .i64 b] rfl (fun _ => rfl) rfl (one_new wr _ _) one_cell (by unfold maxLen; omega) (by omega) (by simp; omega) ?_; intro v3 w3 hown3 hgrow3)
                have hB3 := own_bel (hBl.alloc hBl.size _) (hown.out.alloc _) hgrow3 (by simp; omega)
                have hown4 : w3.ownsRow W0.heap.size 2 1 v3 (frU (frB blocks k) (b + 1)).length ((frU (frB blocks k) (b + 1)).map (Value.int .i64)) := by
                  rw [hyes.out]
                  simpa using hown3
                clear hown hown3 hgrow3 hBl y0 y1 c1 c2
                go_wp2_with fail
                exact ⟨⟨b + 1, by omega, by go_num, hown4, hB3⟩, by simp [intOf]; omega⟩
              · have hkb2 : ((k : Int) == (b : Int)) = false := by simp; omega
                have hkb3 : decide (k = b) = false := by simp [hkb]
                replace hkb := Kp.mk hkb
                have hnone : frU (frB blocks k) (b + 1) = L := by rw [frU_no (by rw [hfr.out, hF, hD, hkb3]; rfl), hL.out]
                replace hnone := Kp.mk hnone
                replace hown := Kp.mk hown
                replace hF := Kp.mk hF
                replace hD := Kp.mk hD
                go_wp2_with fail
                exact ⟨⟨b + 1, by omega, by go_num, by rw [hnone.out]; exact hown.out, hBl⟩, by simp [intOf]; omega⟩
    · obtain rfl : b = n := by omega
      go_wp2_with fail
      go_ret
      refine ⟨_, rfl, ⟨?_⟩, bel_trans hB0 hBl⟩
      rw [hL.out]
      exact own_base hown hB0.size
end Go.Proofs.Yticoippnglkmbaa
namespace Go.Proofs.Yticoippnglkmbaa
open Go.ChangeShapes Go.WideShapes Go.ChangeAt Go.RowKit
set_option linter.unusedVariables false
set_option linter.unusedSimpArgs false
theorem prevs_fr (blocks : List (List InD)) (hn : blsN blocks ≤ 1048576) : ∀ y : Nat, y < blocks.length → (prevs blocks blocks.length y).length ≤ 1048576 ∧ ∀ x, x ∈ prevs blocks blocks.length y ↔ ∃ i : Nat, x = i ∧ i < blocks.length ∧ (y : Int) ∈ nextL blocks i := fun y hy =>
  ⟨by have h1 := prevs_len blocks blocks.length y; have h2 := nxtN_le blocks blocks.length (Nat.le_refl _); omega, fun x => prevs_mem blocks y x blocks.length⟩
/-- The frontier of a block, rising. -/
noncomputable def frL (bls : List (List InD)) (k : Int) : List Int := if 0 ≤ k ∧ k < bls.length then frU (frB bls k.toNat) bls.length else []
set_option maxRecDepth 100000 in
set_option maxHeartbeats 4000000 in
theorem fronS (d : FnD) (vp vb : Value) (k : Int) (w : World) {lo : Nat} (h : FnAt lo w d vp vb) (hn : fnN d ≤ 1048576) :
    Calls Try.prog 7 #[fnV d vp vb, .int .i64 k] w fun e w' => ∃ v : Value, e = .returned v ∧ OwnI w' w.heap.size v (frL d.blocks k) ∧ Below w.heap.size w w' := by
  have CG : Kp (∀ W, Below w.heap.size w W → Calls Try.prog 24 #[fnV d vp vb] W _) := ⟨fun W hW => graphS d vp vb W (h.keep hW) hn⟩
  unfold fnN at hn
  obtain ⟨name, link, params, res, blocks⟩ := d
  obtain ⟨-, hp, hb⟩ := h
  dsimp only [fnV] at *
  have nn := blsN_nn blocks
  have n2 : (blocks.length : Int) ≤ 1048576 := by omega
  have n3 : blsN blocks ≤ 1048576 := by omega
  have hpo := prevs_fr blocks n3
  obtain ⟨a1, k1, rfl⟩ := hp.shape
  obtain ⟨a2, k2, rfl⟩ := hb.shape
  clear hp hb
  obtain ⟨n, hnl⟩ : ∃ n, Kp (blocks.length = n) := ⟨_, ⟨rfl⟩⟩
  have hnx : ∀ i : Nat, i < n → (nextL blocks i).length ≤ 1048576 ∧ ∀ y ∈ nextL blocks i, 0 ≤ y ∧ y < (n : Int) := fun i hi => ⟨by have := @nextL_len blocks i; omega, fun y hy => by have := nextL_bd hy; rw [hnl.out] at this; exact this⟩
  rw [hnl.out] at CG n2 hpo ⊢
  have hpv : ∀ i : Nat, i < n → (prevs blocks n i).length ≤ 1048576 ∧ ∀ y ∈ prevs blocks n i, 0 ≤ y ∧ y < (n : Int) := fun i hi => ⟨(hpo i hi).1, fun y hy => by obtain ⟨j, rfl, hj, -⟩ := ((hpo i hi).2 y).1 hy; omega⟩
  have hn1 : n ≤ 1048576 := by omega
  replace hnx := Kp.mk hnx
  replace hpv := Kp.mk hpv
  obtain ⟨W0, hW0⟩ : ∃ W0, Kp (W0 = w.alloc (Go.Obj.cells #[.string name, .int .i64 link, .slice a1 params.length k1, .int .i64 res, .slice a2 n k2] 30)) := ⟨_, ⟨rfl⟩⟩
  have hB0 : Below w.heap.size w W0 := by rw [hW0.out]; exact bel_alloc _ _
  have hx0 : W0.heap[w.heap.size]? = some (Go.Obj.cells #[.string name, .int .i64 link, .slice a1 params.length k1, .int .i64 res, .slice a2 n k2] 30 (0, 0)) := by rw [hW0.out]; exact new_cells _ _
  have x0 := at_cells hx0 (j := 0) rfl
  have x1 := at_cells hx0 (j := 1) rfl
  have x2 := at_cells hx0 (j := 2) rfl
  have x3 := at_cells hx0 (j := 3) rfl
  have x4 := at_cells hx0 (j := 4) rfl
  have hs0 : W0.heap.size = w.heap.size + 1 := by rw [hW0.out]; simp
  replace hx0 := Kp.mk hx0
  clear hpo hn nn n3
  by_cases hk0 : k < 0
  · have hg : decide (k < 0) = true := by simp [hk0]
    rw [show frL blocks k = [] from if_neg (by omega)]
    go_enter Try.func7, Try.ntmps7
    go_upto_region 1 with fail
    rw [← hW0.out]
    go_wp2_with fail
    go_ret
    exact ⟨_, rfl, ⟨⟨rfl, .inr ⟨w.heap.size + 1, 0, #[], rfl, by omega, new_at hs0, Nat.le_refl _, by decide, rfl, rfl⟩⟩⟩, bel_trans hB0 (bel_alloc _ _)⟩
  have hg : decide (k < 0) = false := by simp [hk0]
  by_cases hk1 : (n : Int) ≤ k
  · have hg2 : decide ((n : Int) ≤ k) = true := by simp [hk1]
    rw [show frL blocks k = [] from if_neg (by rw [hnl.out]; omega)]
    go_enter Try.func7, Try.ntmps7
    go_upto_region 1 with fail
    rw [← hW0.out]
    go_wp2_with fail
    go_ret
    exact ⟨_, rfl, ⟨⟨rfl, .inr ⟨w.heap.size + 1, 0, #[], rfl, by omega, new_at hs0, Nat.le_refl _, by decide, rfl, rfl⟩⟩⟩, bel_trans hB0 (bel_alloc _ _)⟩
  have hg2 : decide ((n : Int) ≤ k) = false := by simp; omega
  obtain ⟨K, rfl⟩ : ∃ K : Nat, k = K := ⟨k.toNat, by omega⟩
  have hKn : K < n := by omega
  rw [show frL blocks K = frU (frB blocks K) n from by rw [frL, if_pos ⟨by omega, by rw [hnl.out]; omega⟩, Int.toNat_natCast, hnl.out]]
  have CG1 := Kp.mk (CG.out W0 hB0)
  go_enter Try.func7, Try.ntmps7
  go_upto_region 1 with fail
  rw [← hW0.out]
  go_upto_region 3 with fail
  go_wp2_with fail
  refine CG1.out.mono ?_
  rintro e W1 ⟨vN, vP, rfl, hN, hP, hB01⟩
  have hB1 := bel_trans hB0 hB01
  obtain ⟨_, _, ⟨⟨aN, cN, rfl, -, -⟩, -⟩, -, -⟩ := hN.ex
  obtain ⟨_, _, ⟨⟨aP, cP, rfl, -, -⟩, -⟩, -, -⟩ := hP.ex
  clear CG CG1 x0 x1 x2 x3 x4
  have bb := bel_alloc W1 (Go.Obj.cells #[.slice aN n cN, .slice aP n cP] 45)
  have z := new_cells W1 (Go.Obj.cells #[.slice aN n cN, .slice aP n cP] 45)
  have hB2 := bel_trans hB1 bb
  obtain ⟨V, hV⟩ : ∃ V, Kp (V = W1.alloc (Go.Obj.cells #[.slice aN n cN, .slice aP n cP] 45)) := ⟨_, ⟨rfl⟩⟩
  go_upto_region 4 with fail
  rw [← hV.out] at bb z hB2 ⊢
  have hBD := (Below.refl V.heap.size V).drew
  have ZK : Kp (∀ W', Below V.heap.size V W' → W'.heap[W1.heap.size]? = _) := ⟨fun W' h => keep_cells z h⟩
  have C2 : Kp (∀ W', Below V.heap.size V W' → Calls Try.prog 26 #[.agg #[.slice aN n cN, .slice aP n cP]] W' _) := ⟨fun W' h => domsS blocks n _ hnl W' _ _ ((hN.keep bb).keep h) ⟨aP, n, cP, rfl⟩ hn1 hnx.out⟩
  have C3 : Kp (∀ W' vd, Below V.heap.size V W' → Mtx W' vd n (fun i j => dmB blocks i j) → Calls Try.prog 25 #[.agg #[.slice aN n cN, .slice aP n cP], vd, .int .i64 K] W' _) := ⟨fun W' vd h hM => frontS blocks n _ hnl W' _ _ vd ⟨aN, cN, rfl⟩ ((hP.keep bb).keep h) hM hn1 hpv.out K hKn⟩
  have z0 : V.cell? ⟨W1.heap.size, 0, none⟩ = some (.slice aN n cN) := at_cells z rfl
  have z1 : V.cell? ⟨W1.heap.size, 1, none⟩ = some (.slice aP n cP) := at_cells z rfl
  clear hN hP bb z
  go_region_with (first
    | (go_at_call 26; go_fit (C2.out _ hBD); rintro e W3 ⟨v3, rfl, hM, hB3⟩; have hB33 := hBD.trans hB3; have CF := Kp.mk (C3.out W3 v3 hB33 hM); have t0 : W3.cell? ⟨W1.heap.size, 0, none⟩ = some (.slice aN n cN) := at_cells (ZK.out _ hB33) rfl; have t1 : W3.cell? ⟨W1.heap.size, 1, none⟩ = some (.slice aP n cP) := at_cells (ZK.out _ hB33) rfl)
    | (go_at_call 25; go_fit CF.out; rintro e W4 ⟨v4, rfl, hO, hB4⟩))
  all_goals
    have hB5 := bel_trans (bel_trans hB2 hB33) hB4
    have hO5 : OwnI W4 w.heap.size v4 (frU (frB blocks K) n) := ⟨own_base hO.r (bel_trans hB2 hB33).size⟩
    clear hO CF C2 C3 t0 t1 z0 z1 hM
    go_wp2_with fail
    go_ret
    exact ⟨_, rfl, hO5, hB5⟩
end Go.Proofs.Yticoippnglkmbaa
namespace Go.Proofs
open Go.Shelf
def Try.laysSlM5_f56_ren : Go.Shelf.Ren := ⟨fun | 5 => 56 | 8 => 75 | 7 => 74 | 19 => 99 | 20 => 100 | 10 => 90 | 11 => 91 | 12 => 92 | 13 => 93 | 14 => 94 | 15 => 95 | 16 => 96 | 17 => 97 | 18 => 98 | 30 => 109 | 31 => 110 | 32 => 111 | 33 => 112 | 34 => 113 | 35 => 114 | 40 => 118 | n => n, fun | 23 => 22 | 25 => 2 | 3 => 3 | 32 => 125 | 22 => 22 | 0 => 0 | 44 => 151 | 46 => 113 | 4 => 4 | 36 => 161 | 35 => 160 | 41 => 139 | 5 => 5 | 9 => 9 | 53 => 174 | 57 => 178 | 63 => 184 | 64 => 185 | n => n, fun | n => n⟩
theorem Try.laysSlM5_f56 : Go.Proofs.SlLaysM.n5 Try.prog Try.laysSlM5_f56_ren := {
  mixed := by kernel_rfl
  f5 := ⟨Try.f56.name, by decide, Try.func56.trans (congrArg some (by kernel_rfl))⟩
  f7 := ⟨Try.f74.name, by decide, Try.func74.trans (congrArg some (by kernel_rfl))⟩
  f8 := Try.func75.trans (congrArg some (by kernel_rfl))
  f10 := ⟨Try.f90.name, by decide, Try.func90.trans (congrArg some (by kernel_rfl))⟩
  f11 := ⟨Try.f91.name, by decide, Try.func91.trans (congrArg some (by kernel_rfl))⟩
  f12 := ⟨Try.f92.name, by decide, Try.func92.trans (congrArg some (by kernel_rfl))⟩
  f13 := ⟨Try.f93.name, by decide, Try.func93.trans (congrArg some (by kernel_rfl))⟩
  f14 := ⟨Try.f94.name, by decide, Try.func94.trans (congrArg some (by kernel_rfl))⟩
  f15 := ⟨Try.f95.name, by decide, Try.func95.trans (congrArg some (by kernel_rfl))⟩
  f16 := ⟨Try.f96.name, by decide, Try.func96.trans (congrArg some (by kernel_rfl))⟩
  f17 := ⟨Try.f97.name, by decide, Try.func97.trans (congrArg some (by kernel_rfl))⟩
  f18 := ⟨Try.f98.name, by decide, Try.func98.trans (congrArg some (by kernel_rfl))⟩
  f19 := Try.func99.trans (congrArg some (by kernel_rfl))
  f20 := Try.func100.trans (congrArg some (by kernel_rfl))
  f30 := ⟨Try.f109.name, by decide, Try.func109.trans (congrArg some (by kernel_rfl))⟩
  f31 := Try.func110.trans (congrArg some (by kernel_rfl))
  f32 := Try.func111.trans (congrArg some (by kernel_rfl))
  f33 := ⟨Try.f112.name, by decide, Try.func112.trans (congrArg some (by kernel_rfl))⟩
  f34 := ⟨Try.f113.name, by decide, Try.func113.trans (congrArg some (by kernel_rfl))⟩
  f35 := ⟨Try.f114.name, by decide, Try.func114.trans (congrArg some (by kernel_rfl))⟩
  f40 := ⟨Try.f118.name, by decide, Try.func118.trans (congrArg some (by kernel_rfl))⟩
  t0 := Try.underlying0
  a0 := Try.isAgg0
  z0 := Try.sizeOf0
  v0 := Try.zeroValue0
  t3 := Try.underlying3
  a3 := Try.isAgg3
  z3 := Try.sizeOf3
  v3 := Try.zeroValue3
  t4 := Try.underlying4
  a4 := Try.isAgg4
  z4 := Try.sizeOf4
  v4 := Try.zeroValue4
  t5 := Try.underlying5
  a5 := Try.isAgg5
  z5 := Try.sizeOf5
  v5 := Try.zeroValue5
  t9 := Try.underlying9
  a9 := Try.isAgg9
  z9 := Try.sizeOf9
  v9 := Try.zeroValue9
  t22 := Try.underlying22
  a22 := Try.isAgg22
  z22 := Try.sizeOf22
  v22 := Try.zeroValue22
  t23 := Try.underlying22
  a23 := Try.isAgg22
  z23 := Try.sizeOf22
  v23 := Try.zeroValue22
  t25 := Try.underlying2
  a25 := Try.isAgg2
  z25 := Try.sizeOf2
  v25 := Try.zeroValue2
  t32 := Try.underlying125
  a32 := Try.isAgg125
  z32 := Try.sizeOf125
  v32 := Try.zeroValue125
  t35 := Try.underlying160
  a35 := Try.isAgg160
  z35 := Try.sizeOf160
  v35 := Try.zeroValue160
  t36 := Try.underlying161
  a36 := Try.isAgg161
  z36 := Try.sizeOf161
  v36 := Try.zeroValue161
  t41 := Try.underlying139
  a41 := Try.isAgg139
  z41 := Try.sizeOf139
  v41 := Try.zeroValue139
  t44 := Try.underlying151
  a44 := Try.isAgg151
  z44 := Try.sizeOf151
  v44 := Try.zeroValue151
  t46 := Try.underlying113
  a46 := Try.isAgg113
  z46 := Try.sizeOf113
  v46 := Try.zeroValue113
  t53 := Try.underlying174
  a53 := Try.isAgg174
  z53 := Try.sizeOf174
  v53 := Try.zeroValue174
  t57 := Try.underlying178
  a57 := Try.isAgg178
  z57 := Try.sizeOf178
  v57 := Try.zeroValue178
  t63 := Try.underlying184
  a63 := Try.isAgg184
  z63 := Try.sizeOf184
  v63 := Try.zeroValue184
  t64 := Try.underlying185
  a64 := Try.isAgg185
  z64 := Try.sizeOf185
  v64 := Try.zeroValue185 }
open Go.Sort Go.RowKit in
theorem Try.slices_Sort_int (blk off cap : Nat) (zs : List Int) (w : World) (hH : Holds (Value.int .i64) w blk off zs.toArray) (hblk : blk < w.heap.size) (hsz : zs.length < 4611686018427387904) :
    Calls Try.prog 56 #[.slice (some ⟨blk, off, none⟩) zs.length cap] w fun e w' =>
      e = .returned (.tuple #[]) ∧ ∃ n os, w' = grow (putRow (Value.int .i64) (Sort.ahead w n) blk off (zs.mergeSort fun x y => decide (x ≤ y)).toArray) os := AnyM.slices_Sort_int Try.laysSlM5_f56 blk off cap zs w hH hblk hsz
open Go.RowKit Go.Sort in
/-- .. and plain. (LAID AT THE INSTANCE 'slices.Sort[[]int64,int64]': no walk: one application.) -/
theorem Try.slices_Sort_int_none (p : Option Addr) (cap : Nat) (w : World) :
    Calls Try.prog 56 #[.slice p 0 cap] w fun e w' => e = .returned (.tuple #[]) ∧ w' = w := AnyM.slices_Sort_int_none Try.laysSlM5_f56 p cap w
end Go.Proofs
namespace Go.Proofs.Yticoippnglkmbaa
open Go.ChangeShapes Go.WideShapes Go.ChangeAt Go.RowKit
set_option linter.unusedVariables false
set_option linter.unusedSimpArgs false
/-- What has come of a set of whole numbers. -/
def CollI {H : Type} (D0 : DataW H) (left : Lit → Bool) (ss : List Int) : Prop := ss.Nodup ∧ ∀ x : Int, x ∈ ss ↔ (Maps.has D0 (.int .i64 x) = true ∧ left (.int .i64 x) = false)
theorem CollI.start {H : Type} (D0 : DataW H) : CollI D0 (Maps.has D0) [] := ⟨List.nodup_nil, fun x => by cases Maps.has D0 (.int .i64 x) <;> simp⟩
theorem CollI.step {H : Type} {D0 : DataW H} {left : Lit → Bool} {ss : List Int} (h : CollI D0 left ss) {x : Int} {y : DataW H} (hlk : left (.int .i64 x) = true) (hat : ∀ zd, D0.atKey (.int .i64 x) zd = y) : CollI D0 (fun z => left z && !z.sameKey (.int .i64 x)) (ss ++ [x]) := by
  have hhas : Maps.has D0 (.int .i64 x) = true := Maps.has_true_of_atKey hat
  have hnew : x ∉ ss := fun hx => by have := ((h.2 x).1 hx).2; rw [hlk] at this; cases this
  refine ⟨List.nodup_append.2 ⟨h.1, by simp, fun a ha b hb => by simp at hb; subst hb; exact fun e => hnew (e ▸ ha)⟩, fun y => ?_⟩
  by_cases hy : y = x
  · subst hy; simp [hhas, Lit.sameKey]
  · simp [h.2 y, hy, Lit.sameKey]
/-- What is sorted is the one rising list of these numbers. -/
theorem sorted_one {ss L : List Int} (hd : ss.Nodup) (hL : L.Pairwise (· < ·)) (hm : ∀ x, x ∈ ss ↔ x ∈ L) : ss.mergeSort (fun x y => decide (x ≤ y)) = L := by
  have hLd : L.Nodup := hL.imp (fun h e => by subst e; exact absurd h (Int.lt_irrefl _))
  have hp : ss.Perm L := (List.perm_ext_iff_of_nodup hd hLd).2 hm
  have tr : ∀ a b c : Int, decide (a ≤ b) = true → decide (b ≤ c) = true → decide (a ≤ c) = true := fun a b c h1 h2 => by simp only [decide_eq_true_eq] at *; omega
  have tt : ∀ a b : Int, (decide (a ≤ b) || decide (b ≤ a)) = true := fun a b => by simp only [Bool.or_eq_true, decide_eq_true_eq]; omega
  refine List.Perm.eq_of_pairwise (le := fun a b => decide (a ≤ b) = true) (fun a b _ _ h1 h2 => ?_) (List.pairwise_mergeSort tr tt ss) (hL.imp (fun h => by simp only [decide_eq_true_eq]; omega)) ((List.mergeSort_perm ss _).trans hp)
  simp only [decide_eq_true_eq] at h1 h2
  omega
set_option maxRecDepth 100000 in
set_option maxHeartbeats 4000000 in
theorem risingI (b n : Nat) (acc : List Int) (w : World) (h : SetI w b n acc) (hn : n ≤ 1048576) (L : List Int) (hL : L.Pairwise (· < ·)) (hm : ∀ x, x ∈ L ↔ acc.contains x = true) :
    Calls Try.prog 33 #[.map (some b)] w fun e w' => ∃ v, e = .returned v ∧ OwnI w' w.heap.size v L ∧ Below w.heap.size w w' := by
  obtain ⟨D, hown, hhas⟩ := h.ex
  obtain ⟨i0, hi0, hz0, hz1, hz2⟩ := info_parts info64
  have hDn := hown.size_le
  have hbl := hown.lt
  have hend : Kp (∀ (ss : List Int) (left : Lit → Bool), CollI D left ss → (∀ kl, left kl = false) → ss.mergeSort (fun x y => decide (x ≤ y)) = L) := ⟨fun ss left hc hl => sorted_one hc.1 hL (fun x => by rw [hc.2 x, hl, hhas x, hm x]; simp)⟩
  have CS := Kp.mk @Try.slices_Sort_int
  have CN := Kp.mk @Try.slices_Sort_int_none
  clear hL hm hhas h
  obtain ⟨M, hM⟩ : ∃ M, Kp (M = Maps.size D) := ⟨_, ⟨rfl⟩⟩
  have hMn : M ≤ 1048576 := by rw [hM.out]; omega
  clear hDn
  go_enter Try.func33, Try.ntmps33
  go_wp2_with (first
    | (at_range; refine wpList_range_own _ rfl _ 61 rfl 2 96 lawK Try.underlying61 _ b n D rfl hown ?_; intro w0 hrg0 hg0 hs0)
    | go_in)
  go_frame
  have hb0 : Below w.heap.size w w0 := (Below.refl _ _).grown hg0 (Nat.le_refl _) (fun j hj => by cases hj)
  rw [← hM.out] at hrg0
  clear hg0 hown
  go_loopw [3] (fun s wr => ∃ (ss : List Int) (left : Lit → Bool) (cnt : Nat), wr.ranges Try.prog 2 unitElem b w.heap.size n D left cnt ∧ Kp (CollI D left ss) ∧ ss.length + cnt ≤ M ∧ wr.ownsRow (w.heap.size + 1) 2 1 s ss.length (ss.map (Value.int .i64)) ∧ w.heap.size + 1 ≤ wr.heap.size ∧ Below w.heap.size w wr) (fun _ wr => wr.rangeLeft b w.heap.size)
  case atStart => exact ⟨[], _, _, hrg0, ⟨CollI.start D⟩, by simp, World.ownsRow_nil _ _ _ _, by omega, hb0⟩
  case round =>
    clear hrg0 hb0 hs0
    obtain ⟨ss, left, cnt, hrg, hC, hcs, hrow, hsz, hBl⟩ := hrel
    obtain ⟨a3, c3, rfl⟩ := (OwnI.mk hrow).shape
    go_wp2_with (first
      | (at_next; refine wpList_next_ranges _ rfl _ rfl 2 lawK unitElem (Value.int .i64) (fun _ : Unit => Value.agg #[]) (fun key kl hkey => by obtain ⟨x, rfl, _⟩ := Maps.keyOf_int_inv Try.underlying2 hkey; exact ⟨x, rfl⟩) (fun v y hv => by obtain ⟨rfl, _⟩ := unitElem_inv hv; exact ⟨(), rfl⟩) b w.heap.size n _ _ _ rfl hrg ?_ ?_)
      | go_in)
    · intro hc0 hl0
      have hs := hend.out ss left hC.out hl0
      by_cases hl : ss.length = 0
      · obtain rfl : ss = [] := List.eq_nil_of_length_eq_zero hl
        have hLn : L = [] := by rw [← hs]; simp
        have hrow2 : OwnI wr w.heap.size (.slice a3 0 c3) L := by rw [hLn]; exact ⟨Joins_le hrow⟩
        have C0 := Kp.mk (CN.out a3 c3 wr)
        clear hrow hrg hs hLn hC
        dsimp only [List.length_nil]
        go_wp2_with (go_at_call 56; go_fit C0.out; rintro e w2 ⟨rfl, rfl⟩)
        go_ret
        exact ⟨_, rfl, hrow2, hBl⟩
      · rcases hrow.2 with ⟨-, e⟩ | ⟨g, cap, cur, hv, hgb, hg, h1, h2, h3, h4⟩
        · exact absurd (by simpa using e) hl
        cases hv
        have hgl := (Array.getElem?_eq_some_iff.1 hg).1
        have hlen : L.length = ss.length := by rw [← hs]; simp
        have C0 := CS.out g 0 c3 ss wr (Go.holds_of_blockI hg (by simpa using h4)) hgl (by omega)
        rw [hs] at C0
        have hfin : Kp (∀ n os, OwnI (Go.Sort.grow (Go.Sort.putRow (Value.int .i64) (Go.Sort.ahead wr n) g 0 L.toArray) os) w.heap.size (.slice (some ⟨g, 0, none⟩) ss.length c3) L ∧ Below w.heap.size w (Go.Sort.grow (Go.Sort.putRow (Value.int .i64) (Go.Sort.ahead wr n) g 0 L.toArray) os)) := ⟨fun n os => ⟨⟨by
            have q := Go.ownsRow_sortedI (base := w.heap.size) (n := n) (os := os) hlen (by omega) hg h1 h2 h3
            rw [hlen]
            exact q⟩, hBl.grown (Go.grownBy_sortedI L.toArray) hBl.size (fun k hk => by cases hk; omega)⟩⟩
        replace C0 := Kp.mk C0
        clear hrow hrg hs hC hg h3 h4 hlen
        go_wp2_with (go_at_call 56; go_fit C0.out; rintro e w2 ⟨rfl, n2, os2, rfl⟩; have hfin2 := Kp.mk (hfin.out n2 os2); generalize Go.Sort.grow (Go.Sort.putRow (Value.int .i64) (Go.Sort.ahead wr n2) g 0 L.toArray) os2 = w2 at *)
        go_ret
        exact ⟨_, rfl, hfin2.out.1, hfin2.out.2⟩
    · intro x c kl y w1 cnt1 hkey hlk hv hat hrg1 hlt hg1 hs1 hen
      obtain ⟨x', ex, rfl, hwx⟩ := Maps.keyOf_int_inv Try.underlying2 hkey
      cases ex
      have hrow1 := hrow.kept hg1 (Or.inr (own_ne_at hrow (Nat.lt_succ_self _)))
      have hBl1 := hBl.grown hg1 hBl.size (fun k hk => by cases hk; exact Nat.le_refl _)
      have hC1 := Kp.mk (hC.out.step hlk hat)
      have hml := Kp.mk hrg.left_eq
      have hsl : ss.length ≤ 1048576 := by omega
      replace hrg1 := Kp.mk hrg1
      have hs1a : w.heap.size + 1 ≤ w1.heap.size := by omega
      clear hs1
      clear hrow hBl hg1 hkey hlk hv hat hC hrg CS CN hend
      go_wp2_with (first
        | (at_builtin; refine wpList_append_vals _ rfl _ _ 22 rfl (w.heap.size + 1) 2 i0 (.int .i64 0) 1 8 Try.underlying22 hi0 hz0 hz1 hz2 rfl (by decide) _ _ _ rfl (hrow1.alloc _) (some ⟨w1.heap.size, 0, none⟩) w1.heap.size 0 1 1 [.int .i64 x] rfl (fun _ => rfl) rfl (one_new w1 _ _) one_cell (by unfold maxLen; omega) (by omega) (by simp; omega) ?_; intro v3 w3 hrow3 hgrow3)
        | go_in)
      have hrg3 := (hrg1.out.alloc _).kept hgrow3 (fun e => own_ne_at hrow1 (by omega) e.symm) (fun e => own_ne_at hrow1 (by omega) e.symm)
      have hB3 := own_bel (hBl1.alloc hBl1.size _) (Joins_le (hrow1.alloc _)) hgrow3 (by simp; omega)
      have hsz3 : w.heap.size + 1 ≤ w3.heap.size := by have := hgrow3.size; simp at this; omega
      have hrow4 : w3.ownsRow (w.heap.size + 1) 2 1 v3 (ss ++ [x]).length ((ss ++ [x]).map (Value.int .i64)) := by simpa using hrow3
      replace hrg3 := Kp.mk hrg3
      clear hrow1 hrow3 hgrow3 hBl1 hrg1 hen
      go_wp2_with fail
      exact ⟨⟨ss ++ [x], _, cnt1, hrg3.out, hC1, by simp; omega, hrow4, hsz3, hB3⟩, by rw [hrg3.out.left_eq, hml.out]; exact hlt⟩
end Go.Proofs.Yticoippnglkmbaa
namespace Go.Proofs.Yticoippnglkmbaa
open Go.ChangeShapes Go.WideShapes Go.ChangeAt Go.RowKit
set_option linter.unusedVariables false
set_option linter.unusedSimpArgs false
/-- What the program has collected: edges out of the blocks below b, and of the block b the first i. -/
def Edg (bls : List (List InD)) (k : Int) (b i : Nat) (x : Int) : Prop := (x = k ∨ dmB bls k x = false) ∧ ((∃ j : Nat, j < b ∧ dmB bls k j = true ∧ x ∈ nextL bls j) ∨ (dmB bls k b = true ∧ x ∈ (nextL bls b).take i))
theorem Edg.none {bls : List (List InD)} {k : Int} {x : Int} : ¬ Edg bls k 0 0 x := by
  rintro ⟨-, ⟨j, hj, -⟩ | ⟨-, h⟩⟩
  · omega
  · simp at h
theorem Edg.skip {bls : List (List InD)} {k : Int} {b : Nat} {x : Int} (h : dmB bls k b = false) : Edg bls k (b + 1) 0 x ↔ Edg bls k b 0 x := by
  unfold Edg
  simp only [List.take_zero, List.not_mem_nil, and_false, or_false]
  refine and_congr_right fun _ => ⟨?_, ?_⟩
  · rintro ⟨j, hj, h1, h2⟩
    refine ⟨j, ?_, h1, h2⟩
    rcases Nat.lt_succ_iff_lt_or_eq.1 hj with q | rfl
    · exact q
    · rw [h] at h1; cases h1
  · rintro ⟨j, hj, h1, h2⟩
    exact ⟨j, by omega, h1, h2⟩
theorem Edg.next {bls : List (List InD)} {k : Int} {b : Nat} {x : Int} (h : dmB bls k b = true) : Edg bls k (b + 1) 0 x ↔ Edg bls k b (nextL bls b).length x := by
  unfold Edg
  simp only [List.take_zero, List.not_mem_nil, and_false, or_false, List.take_length]
  refine and_congr_right fun _ => ⟨?_, ?_⟩
  · rintro ⟨j, hj, h1, h2⟩
    rcases Nat.lt_succ_iff_lt_or_eq.1 hj with q | rfl
    · exact .inl ⟨j, q, h1, h2⟩
    · exact .inr ⟨h1, h2⟩
  · rintro (⟨j, hj, h1, h2⟩ | ⟨h1, h2⟩)
    · exact ⟨j, by omega, h1, h2⟩
    · exact ⟨b, by omega, h1, h2⟩
theorem Edg.more {bls : List (List InD)} {k : Int} {b i : Nat} {x : Int} (h : dmB bls k b = true) (hi : i < (nextL bls b).length) : Edg bls k b (i + 1) x ↔ Edg bls k b i x ∨ (x = (nextL bls b)[i] ∧ (x = k ∨ dmB bls k x = false)) := by
  unfold Edg
  rw [List.take_add_one, List.getElem?_eq_getElem hi]
  simp only [Option.toList_some, List.mem_append, List.mem_singleton, h, true_and]
  constructor
  · rintro ⟨h1, h2 | h2 | h2⟩
    · exact .inl ⟨h1, .inl h2⟩
    · exact .inl ⟨h1, .inr h2⟩
    · exact .inr ⟨h2, h1⟩
  · rintro (⟨h1, h2 | h2⟩ | ⟨h1, h2⟩)
    · exact ⟨h1, .inl h2⟩
    · exact ⟨h1, .inr (.inl h2)⟩
    · exact ⟨h2, .inr (.inr h1)⟩
theorem frL_mem {bls : List (List InD)} {k : Int} {x : Int} : x ∈ frL bls k ↔ Edg bls k bls.length 0 x := by
  unfold frL Edg
  simp only [List.take_zero, List.not_mem_nil, and_false, or_false]
  split
  · rename_i hk
    obtain ⟨K, rfl⟩ : ∃ K : Nat, k = K := ⟨k.toNat, by omega⟩
    rw [Int.toNat_natCast]
    unfold frU
    rw [List.mem_map]
    constructor
    · rintro ⟨b, hb, rfl⟩
      obtain ⟨hb1, hb2⟩ := List.mem_filter.1 hb
      unfold frB at hb2
      rw [Bool.and_eq_true, List.any_eq_true, Bool.or_eq_true] at hb2
      obtain ⟨⟨p, hp, hd⟩, hc⟩ := hb2
      obtain ⟨j, rfl, hj, he⟩ := (prevs_mem bls b p bls.length).1 hp
      refine ⟨?_, j, hj, hd, he⟩
      rcases hc with hc | hc
      · exact .inr (by simpa using hc)
      · exact .inl (by have := of_decide_eq_true hc; omega)
    · rintro ⟨hc, j, hj, hd, he⟩
      have hb := nextL_bd he
      obtain ⟨b, rfl⟩ : ∃ b : Nat, x = b := ⟨x.toNat, by omega⟩
      refine ⟨b, List.mem_filter.2 ⟨List.mem_range.2 (by omega), ?_⟩, rfl⟩
      unfold frB
      rw [Bool.and_eq_true, List.any_eq_true, Bool.or_eq_true]
      refine ⟨⟨j, (prevs_mem bls b j bls.length).2 ⟨j, rfl, hj, he⟩, hd⟩, ?_⟩
      rcases hc with hc | hc
      · exact .inr (decide_eq_true (by omega))
      · exact .inl (by rw [hc]; rfl)
  · rename_i hk
    constructor
    · intro h; cases h
    · rintro ⟨-, j, -, hd, -⟩
      rw [dmB_out (.inl hk)] at hd
      cases hd
theorem frL_rise {bls : List (List InD)} {k : Int} : (frL bls k).Pairwise (· < ·) := by
  unfold frL
  split
  · unfold frU
    refine List.pairwise_map.2 ?_
    exact (List.pairwise_lt_range.sublist List.filter_sublist).imp (fun h => by omega)
  · exact List.Pairwise.nil
end Go.Proofs.Yticoippnglkmbaa
namespace Go.Proofs.Yticoippnglkmbaa
open Go.ChangeShapes Go.WideShapes Go.ChangeAt Go.RowKit
set_option linter.unusedVariables false
set_option linter.unusedSimpArgs false
set_option maxRecDepth 100000 in
set_option maxHeartbeats 4000000 in
theorem fronI (d : FnD) (vp vb : Value) (k : Int) (w : World) {lo : Nat} (h : FnAt lo w d vp vb) (hn : fnN d ≤ 1048576) :
    Calls Try.prog 9 #[fnV d vp vb, .int .i64 k] w fun e w' => ∃ v : Value, e = .returned v ∧ OwnI w' w.heap.size v (frL d.blocks k) ∧ Below w.heap.size w w' := by
  have CG : Kp (∀ W, Below w.heap.size w W → Calls Try.prog 29 #[fnV d vp vb] W _) := ⟨fun W hW => graphI d vp vb W (h.keep hW) hn⟩
  unfold fnN at hn
  obtain ⟨name, link, params, res, blocks⟩ := d
  obtain ⟨-, hp, hb⟩ := h
  dsimp only [fnV] at *
  have nn := blsN_nn blocks
  have n2 : (blocks.length : Int) ≤ 1048576 := by omega
  have n3 : blsN blocks ≤ 1048576 := by omega
  obtain ⟨a1, k1, rfl⟩ := hp.shape
  obtain ⟨a2, k2, rfl⟩ := hb.shape
  clear hp hb
  obtain ⟨W0, hW0⟩ : ∃ W0, Kp (W0 = w.alloc (Go.Obj.cells #[.string name, .int .i64 link, .slice a1 params.length k1, .int .i64 res, .slice a2 blocks.length k2] 30)) := ⟨_, ⟨rfl⟩⟩
  have hB0 : Below w.heap.size w W0 := by rw [hW0.out]; exact bel_alloc _ _
  have hx0 : W0.heap[w.heap.size]? = some (Go.Obj.cells #[.string name, .int .i64 link, .slice a1 params.length k1, .int .i64 res, .slice a2 blocks.length k2] 30 (0, 0)) := by rw [hW0.out]; exact new_cells _ _
  have x0 := at_cells hx0 (j := 0) rfl
  have x1 := at_cells hx0 (j := 1) rfl
  have x2 := at_cells hx0 (j := 2) rfl
  have x3 := at_cells hx0 (j := 3) rfl
  have x4 := at_cells hx0 (j := 4) rfl
  have hrise := Kp.mk (@frL_rise blocks k)
  have hmem := Kp.mk (@frL_mem blocks k)
  by_cases h0 : blocks.length = 0
  · have hg : ((blocks.length : Int) == 0) = true := by simp [h0]
    have hfl : frL blocks k = [] := if_neg (by omega)
    rw [hfl]
    clear n2
    replace h0 := Kp.mk h0
    replace hx0 := Kp.mk hx0
    go_enter Try.func9, Try.ntmps9
    go_upto_region 1 with fail
    rw [← hW0.out]
    go_wp2_with fail
    go_ret
    exact ⟨_, rfl, ⟨World.ownsRow_nil _ _ _ _⟩, hB0⟩
  · have hpos : 0 < blocks.length := by omega
    obtain ⟨nb, hnb⟩ : ∃ nb, Kp (blocks.length = nb) := ⟨_, ⟨rfl⟩⟩
    have hg : ((nb : Int) == 0) = false := by rw [beq_eq_false_iff_ne]; have := hnb.out; omega
    have CD : Kp (∀ W vN vP lo, Rws lo W vN nb (fun i => nextL blocks i) → Rws lo W vP nb (prevs blocks nb) → Calls Try.prog 30 #[.agg #[vN, vP], .int .i64 0] W fun e w' => ∃ v : Value, e = .returned v ∧ Below W.heap.size W w' ∧ (∃ a1 c1 a2 c2 a3 c3 a4 c4 a5 c5 a6 c6 m1 m2 m3 m4 m5 m6, v = .agg #[.slice a1 m1 c1, .slice a2 m2 c2, .slice a3 m3 c3, .slice a4 m4 c4, .slice a5 m5 c5, .slice a6 m6 c6]) ∧
        Kp (∀ W2 y, Below w'.heap.size w' W2 → Calls Try.prog 31 #[v, .int .i64 k, .int .i64 y] W2 fun e w3 => e = .returned (.bool (dmB blocks k y)) ∧ Below W2.heap.size W2 w3)) := ⟨fun W vN vP lo hN hP => by
      have hpo := prevs_fr blocks n3
      rw [hnb.out] at hpo
      have hnx : ∀ i : Nat, i < nb → (nextL blocks i).length ≤ 1048576 ∧ ∀ y ∈ nextL blocks i, 0 ≤ y ∧ y < nb := fun i hi => ⟨by have := @nextL_len blocks i; omega, fun y hy => by have := nextL_bd hy; rwa [hnb.out] at this⟩
      refine (dominanceI (nextL blocks) nb lo (prevs blocks nb) W vN vP hN hP 0 (by rw [← hnb.out]; exact hpos) (by have := hnb.out; omega) hnx hpo).mono ?_
      rintro e w' ⟨prs, ab, st, sz, v, he, hd, hb, hA, hDv, hnear, hS, htop⟩
      obtain ⟨b1, b2, b3, b4, b5, b6, c1, c2, c3, c4, c5, c6, ev, -⟩ := hd.ex
      refine ⟨v, he, hb, ⟨_, _, _, _, _, _, _, _, _, _, _, _, _, _, _, _, _, _, ev⟩, ⟨fun W2 y hW2 => ?_⟩⟩
      have hh : holdB (numL (prs.map (·.1))) (fun i => (st i : Int)) (fun i => (sz i : Int)) nb k y = dmB blocks k y := by
        symm
        refine dmB_eq ?_
        rw [hold_iff hA hDv hnear hS k y]
        exact ⟨fun q => ⟨hpos, q⟩, fun q => q.2⟩
      rw [← hh]
      exact holdsI _ nb prs.length _ _ _ _ _ _ v k y W2 (hd.keep hW2) (by have := hnb.out; omega) (by have := hA.len; have := hnb.out; omega) (fun k _ => (hA.num k).2.2) (fun k hk => ⟨by omega, by have := htop k hk; have := hA.len; have := hnb.out; omega⟩)⟩
    have htot : ∀ c : Nat, c ≤ nb → nxtN blocks c ≤ 1048576 := fun c hc => by have := nxtN_le blocks c (by rw [hnb.out]; exact hc); omega
    rw [hnb.out] at CG n2 x4 hx0 hmem
    have hnm : nb ≤ 1048576 := by omega
    have hnx : Kp (∀ i : Nat, i < nb → (nextL blocks i).length ≤ 1048576 ∧ ∀ y ∈ nextL blocks i, 0 ≤ y ∧ y < (nb : Int)) := ⟨fun i hi => ⟨by have := @nextL_len blocks i; omega, fun y hy => by have := nextL_bd hy; rwa [hnb.out] at this⟩⟩
    replace hx0 := Kp.mk hx0
    have hW0' := hW0.out
    rw [hnb.out] at hW0'
    replace hW0' := Kp.mk hW0'
    rw [hnb.out]
    replace htot := Kp.mk htot
    have CA : Kp (∀ (b n : Nat) (acc : List Int) (x : Int) (w : World), SetI w b n acc → n < 1099511627776 → (Lit.int .i64 x).wf = true → Calls Try.prog 32 #[.map (some b), .int .i64 x] w _) := ⟨fun b n acc x w h hn hx => addI b n acc x w h hn hx⟩
    have CR : Kp (∀ (b n : Nat) (acc : List Int) (w : World), SetI w b n acc → n ≤ 1048576 → (∀ x, x ∈ frL blocks k ↔ acc.contains x = true) → Calls Try.prog 33 #[.map (some b)] w _) := ⟨fun b n acc w h hn hm => risingI b n acc w h hn (frL blocks k) hrise.out hm⟩
    have hmm := @run_makeMap Try.prog
    clear hW0 nn n3 hpos h0
    go_enter Try.func9, Try.ntmps9
    go_upto_region 1 with fail
    rw [← hW0'.out]
    go_upto_region 3 with fail
    go_wp2_with fail
    refine (CG.out _ hB0).mono ?_
    rintro e W1 ⟨vN, vP, rfl, hN, hP, hB01⟩
    have hB1 := bel_trans hB0 hB01
    obtain ⟨bN, oN, ⟨⟨aN, cN, rfl, l1, l2⟩, l3⟩, lr, lc⟩ := hN.ex
    obtain ⟨_, _, ⟨⟨aP, cP, rfl, -, -⟩, -⟩, -, -⟩ := hP.ex
    have bb := bel_alloc W1 (Go.Obj.cells #[.slice aN nb cN, .slice aP nb cP] 53)
    have z := new_cells W1 (Go.Obj.cells #[.slice aN nb cN, .slice aP nb cP] 53)
    obtain ⟨V, hV⟩ : ∃ V, Kp (V = W1.alloc (Go.Obj.cells #[.slice aN nb cN, .slice aP nb cP] 53)) := ⟨_, ⟨rfl⟩⟩
    clear CG x0 x1 x2 x3 x4
    go_upto_region 4 with fail
    rw [← hV.out] at bb z ⊢
    have CD1 := Kp.mk (CD.out V _ _ _ (hN.keep bb) (hP.keep bb))
    have z0 : V.cell? ⟨W1.heap.size, 0, none⟩ = some (.slice aN nb cN) := at_cells z rfl
    have z1 : V.cell? ⟨W1.heap.size, 1, none⟩ = some (.slice aP nb cP) := at_cells z rfl
    go_wp2_with fail
    refine CD1.out.mono ?_
    rintro e W2 ⟨v, rfl, hB2, ⟨a1', c1', a2', c2', a3', c3', a4', c4', a5', c5', a6', c6', m1, m2, m3, m4, m5, m6, rfl⟩, CH⟩
    clear CD CD1 z0 z1
    have bu := bel_alloc W2 (Go.Obj.cells #[.slice a1' m1 c1', .slice a2' m2 c2', .slice a3' m3 c3', .slice a4' m4 c4', .slice a5' m5 c5', .slice a6' m6 c6'] 58)
    have zd := new_cells W2 (Go.Obj.cells #[.slice a1' m1 c1', .slice a2' m2 c2', .slice a3' m3 c3', .slice a4' m4 c4', .slice a5' m5 c5', .slice a6' m6 c6'] 58)
    obtain ⟨U, hU⟩ : ∃ U, Kp (U = W2.alloc (Go.Obj.cells #[.slice a1' m1 c1', .slice a2' m2 c2', .slice a3' m3 c3', .slice a4' m4 c4', .slice a5' m5 c5', .slice a6' m6 c6'] 58)) := ⟨_, ⟨rfl⟩⟩
    go_upto_region 5 with fail
    rw [← hU.out] at bu zd ⊢
    have hVU := bel_trans hB2 bu
    have h1U := bel_trans bb hVU
    have hwU := bel_trans hB1 h1U
    have GK : Kp (∀ W', Below U.heap.size U W' → W'.cell? ⟨W1.heap.size, 0, none⟩ = some (.slice aN nb cN) ∧ W'.cell? ⟨W1.heap.size, 1, none⟩ = some (.slice aP nb cP)) := ⟨fun W' h => ⟨at_cells (keep_cells (keep_cells z hVU) h) rfl, at_cells (keep_cells (keep_cells z hVU) h) rfl⟩⟩
    have DK : Kp (∀ W', Below U.heap.size U W' → W'.heap[W2.heap.size]? = _) := ⟨fun W' h => keep_cells zd h⟩
    have CH2 : Kp (∀ W' y, Below U.heap.size U W' → Calls Try.prog 31 _ W' _) := ⟨fun W' y h => CH.out W' y (bel_trans bu h)⟩
    have hpos2 : 0 < nb := by have h3 := hg; rw [beq_eq_false_iff_ne] at h3; omega
    obtain rfl := l2 hpos2
    have RC : Kp (∀ (i : Nat), i < nb → ∃ a c b o, (0 < (nextL blocks i).length → a = some ⟨b, o, none⟩) ∧ ∀ (W' : World), Below U.heap.size U W' → W'.cell? ⟨bN, oN + i, none⟩ = some (.slice a (nextL blocks i).length c) ∧ ∀ q (h : q < (nextL blocks i).length), At W' b (o + q) (.int .i64 (nextL blocks i)[q])) := ⟨fun i hi => by
      obtain ⟨u, h1, h2⟩ := lc i hi
      obtain ⟨b, o, ⟨⟨a, c, rfl, s1, s2⟩, s3⟩, hl, hc⟩ := h2.ex
      exact ⟨a, c, b, o, s2, fun W' h => ⟨at_keep h1 (bel_trans h1U h), fun q hq => at_keep (hc q hq) (bel_trans h1U h)⟩⟩⟩
    have hS0 := SetI.made U
    have hBm := bel_alloc U (Go.Obj.map #[] 0)
    clear hN hP bb z CH bu zd hVU h1U lr lc l1 l2 l3 hB2 hB1 hB01 hB0
    go_upto_region 6 with fail
    generalize U.alloc (Go.Obj.map #[] 0) = W3 at *
    have y0 := (GK.out W3 hBm).1
    go_wp2_with fail
    go_loopw [23] (fun s wr => ∃ (b : Nat) (acc : List Int), b ≤ nb ∧ s = .int .i64 b ∧ SetI wr U.heap.size (nxtN blocks b) acc ∧ Kp (∀ x, acc.contains x = true ↔ Edg blocks k b 0 x) ∧ Below U.heap.size U wr) (fun s _ => nb - (intOf s).toNat)
    case atStart => exact ⟨0, [], Nat.zero_le _, rfl, hS0, ⟨fun x => ⟨fun q => by simp at q, fun q => absurd q Edg.none⟩⟩, hBm⟩
    case round =>
      clear hS0 hBm y0
      obtain ⟨b, acc, hbn, rfl, hS, hE, hBl⟩ := hrel
      by_cases hlt : b < nb
      · have hdz := DK.out wr hBl
        have d0 := at_cells hdz (j := 0) rfl
        have d1 := at_cells hdz (j := 1) rfl
        have d2 := at_cells hdz (j := 2) rfl
        have d3 := at_cells hdz (j := 3) rfl
        have d4 := at_cells hdz (j := 4) rfl
        have d5 := at_cells hdz (j := 5) rfl
        have C1 := CH2.out wr b hBl
        cases hD : dmB blocks k b with
        | false =>
          rw [hD] at C1
          replace C1 := Kp.mk C1
          replace hdz := Kp.mk hdz
          go_wp2_with fail
          refine C1.out.mono ?_
          rintro e w1 ⟨rfl, hb1⟩
          have hS1 := (hS.keep hb1).mono (n' := nxtN blocks (b + 1)) (by rw [nxtN]; omega)
          have hBl1 := bel_trans hBl hb1
          have hE1 : Kp (∀ x, acc.contains x = true ↔ Edg blocks k (b + 1) 0 x) := ⟨fun x => by rw [hE.out x, Edg.skip hD]⟩
          replace hD := Kp.mk hD
          clear d0 d1 d2 d3 d4 d5 hS hb1 hBl C1
          go_wp2_with fail
          exact ⟨⟨b + 1, acc, by omega, by go_num, hS1, hE1, hBl1⟩, by simp [intOf]; omega⟩
        | true =>
          rw [hD] at C1
          replace C1 := Kp.mk C1
          replace hdz := Kp.mk hdz
          go_wp2_with fail
          refine C1.out.mono ?_
          rintro e w1 ⟨rfl, hb1⟩
          have hS1 := hS.keep hb1
          have hBl1 := bel_trans hBl hb1
          replace hD := Kp.mk hD
          clear d0 d1 d2 d3 d4 d5 hS hb1 hBl C1 hdz
          obtain ⟨y0, -⟩ := GK.out w1 hBl1
          obtain ⟨ra, rc, rb, ro, hra, hrcs⟩ := RC.out b hlt
          have hrow := (hrcs w1 hBl1).1
          replace hrcs := Kp.mk hrcs
          replace hra := Kp.mk hra
          have hxb := Kp.mk (hnx.out b hlt)
          have hln : (nextL blocks b).length ≤ 1048576 := hxb.out.1
          have hxn : nxtN blocks (b + 1) = nxtN blocks b + (nextL blocks b).length := rfl
          have htb := htot.out (b + 1) (by omega)
          replace hxn := Kp.mk hxn
          go_wp2_with fail
          go_loopw [37] (fun s wz => ∃ (i : Nat) (ac : List Int), i ≤ (nextL blocks b).length ∧ s = .int .i64 i ∧ SetI wz U.heap.size (nxtN blocks b + i) ac ∧ Kp (∀ x, ac.contains x = true ↔ Edg blocks k b i x) ∧ Below U.heap.size U wz) (fun s _ => (nextL blocks b).length - (intOf s).toNat)
          case atStart => exact ⟨0, acc, Nat.zero_le _, rfl, hS1, hE, hBl1⟩
          case round =>
            clear hS1 hBl1 y0 hrow hE
            obtain ⟨i, ac, hi, rfl, hS, hE, hBl⟩ := hrel
            by_cases hil : i < (nextL blocks b).length
            · have cx := (hrcs.out _ hBl).2 i hil
              have hrae := hra.out (by omega)
              clear hrcs hra
              subst hrae
              have hxr := hxb.out.2 _ (List.getElem_mem hil)
              have hmore := Kp.mk (fun x => Edg.more (x := x) hD.out hil)
              generalize (nextL blocks b)[i] = x at *
              have hwf : (Lit.int .i64 x).wf = true := WalkArith.wf_i64 (by omega)
              have hnn : nxtN blocks b + i < 1099511627776 := by have := hxn.out; omega
              have hdz := DK.out wr hBl
              have d0 := at_cells hdz (j := 0) rfl
              have d1 := at_cells hdz (j := 1) rfl
              have d2 := at_cells hdz (j := 2) rfl
              have d3 := at_cells hdz (j := 3) rfl
              have d4 := at_cells hdz (j := 4) rfl
              have d5 := at_cells hdz (j := 5) rfl
              clear hdz
              by_cases hxk : x = k
              · have hq : (x == k) = true := by simp [hxk]
                have hcond : Kp (x = k ∨ dmB blocks k x = false) := ⟨.inl hxk⟩
                replace hxk := Kp.mk hxk
                have C2 := Kp.mk (CA.out _ _ _ _ _ hS hnn hwf)
                go_wp2_with fail
                refine C2.out.mono ?_
                rintro e w2 ⟨rfl, hg2, hS2⟩
                have hB3 := hBl.grown hg2 hBl.size (fun j hj => by cases hj; exact Nat.le_refl _)
                clear hS hBl C2
                have hS3 : SetI w2 U.heap.size (nxtN blocks b + (i + 1)) (addL ac x) := hS2
                have hE3 : Kp (∀ y, (addL ac x).contains y = true ↔ Edg blocks k b (i + 1) y) := ⟨fun y => by
                  rw [addL_at, Bool.or_eq_true, hE.out y, hmore.out y, beq_iff_eq]
                  exact or_congr Iff.rfl ⟨fun h => ⟨h, by rw [h]; exact hcond.out⟩, fun h => h.1⟩⟩
                clear hS2 hg2 d0 d1 d2 d3 d4 d5
                go_wp2_with fail
                exact ⟨⟨i + 1, addL ac x, by omega, by go_num, hS3, hE3, hB3⟩, by simp [intOf]; omega⟩
              · have hq : (x == k) = false := by simp [hxk]
                have C2 := CH2.out wr x hBl
                cases hX : dmB blocks k x with
                | false =>
                  rw [hX] at C2
                  have hcond : Kp (x = k ∨ dmB blocks k x = false) := ⟨.inr hX⟩
                  replace C2 := Kp.mk C2
                  replace hX := Kp.mk hX
                  replace hxk := Kp.mk hxk
                  go_wp2_with fail
                  refine C2.out.mono ?_
                  rintro e w1 ⟨rfl, hb1⟩
                  have hBl1 := bel_trans hBl hb1
                  have C3 := Kp.mk (CA.out _ _ _ _ _ (hS.keep hb1) hnn hwf)
                  clear hS hb1 hBl C2
                  go_wp2_with fail
                  refine C3.out.mono ?_
                  rintro e w2 ⟨rfl, hg2, hS2⟩
                  have hB3 := hBl1.grown hg2 hBl1.size (fun j hj => by cases hj; exact Nat.le_refl _)
                  clear hBl1 C3
                  have hS3 : SetI w2 U.heap.size (nxtN blocks b + (i + 1)) (addL ac x) := hS2
                  have hE3 : Kp (∀ y, (addL ac x).contains y = true ↔ Edg blocks k b (i + 1) y) := ⟨fun y => by
                    rw [addL_at, Bool.or_eq_true, hE.out y, hmore.out y, beq_iff_eq]
                    exact or_congr Iff.rfl ⟨fun h => ⟨h, by rw [h]; exact hcond.out⟩, fun h => h.1⟩⟩
                  clear hS2 hg2 d0 d1 d2 d3 d4 d5
                  go_wp2_with fail
                  exact ⟨⟨i + 1, addL ac x, by omega, by go_num, hS3, hE3, hB3⟩, by simp [intOf]; omega⟩
                | true =>
                  rw [hX] at C2
                  have hE3 : Kp (∀ y, ac.contains y = true ↔ Edg blocks k b (i + 1) y) := ⟨fun y => by
                    rw [hE.out y, hmore.out y]
                    refine ⟨Or.inl, fun h => h.elim id ?_⟩
                    rintro ⟨rfl, c | c⟩
                    · exact absurd c hxk
                    · rw [hX] at c; cases c⟩
                  replace C2 := Kp.mk C2
                  replace hX := Kp.mk hX
                  replace hxk := Kp.mk hxk
                  go_wp2_with fail
                  refine C2.out.mono ?_
                  rintro e w1 ⟨rfl, hb1⟩
                  have hBl1 := bel_trans hBl hb1
                  have hS3 := (hS.keep hb1).mono (n' := nxtN blocks b + (i + 1)) (by omega)
                  clear hS hb1 hBl C2 d0 d1 d2 d3 d4 d5
                  go_wp2_with fail
                  exact ⟨⟨i + 1, ac, by omega, by go_num, hS3, hE3, hBl1⟩, by simp [intOf]; omega⟩
            · obtain rfl : i = (nextL blocks b).length := by omega
              have hS3 : SetI wr U.heap.size (nxtN blocks (b + 1)) ac := by rw [hxn.out]; exact hS
              have hE3 : Kp (∀ y, ac.contains y = true ↔ Edg blocks k (b + 1) 0 y) := ⟨fun y => by rw [hE.out y, Edg.next hD.out]⟩
              clear hS
              go_wp2_with fail
              exact ⟨⟨b + 1, ac, by omega, by go_num, hS3, hE3, hBl⟩, by simp [intOf]; omega⟩
      · obtain rfl : b = nb := by omega
        have hm2 : ∀ x, x ∈ frL blocks k ↔ acc.contains x = true := fun x => by rw [hE.out x, hmem.out]
        have C1 := Kp.mk (CR.out _ _ _ _ hS (htot.out _ (Nat.le_refl _)) hm2)
        go_wp2_with fail
        refine C1.out.mono ?_
        rintro e w1 ⟨v, rfl, hO, hb1⟩
        have hO2 : OwnI w1 w.heap.size v (frL blocks k) := ⟨own_base hO.r (bel_trans hwU hBl).size⟩
        have hB9 := bel_trans (bel_trans hwU hBl) hb1
        clear hO
        go_wp2_with fail
        go_ret
        exact ⟨_, rfl, hO2, hB9⟩
end Go.Proofs.Yticoippnglkmbaa
namespace Go.Proofs.Yticoippnglkmbaa
open Go.ChangeShapes Go.WideShapes Go.ChangeAt Go.RowKit
set_option linter.unusedVariables false
set_option linter.unusedSimpArgs false
theorem OwnI.mkd {w w' : World} {lo E base : Nat} {v : Value} {xs : List Int} (h : OwnI w base v xs) (m : Mk lo E w w') (hb : E ≤ base) : OwnI w' base v xs := by
  refine ⟨h.r.1, ?_⟩
  rcases h.r.2 with h0 | ⟨g, cap, cur, rfl, hb1, hg, rest⟩
  · exact .inl h0
  · exact .inr ⟨g, cap, cur, rfl, hb1, (m.hi g (by omega)).trans hg, rest⟩
/-- The copied function, marked: what lies ahead of it is as it was, and so is what a later call owns. -/
structure Mkd (lo E : Nat) (w w' : World) : Prop where
  bel : Below lo w w'
  own : ∀ base v xs, OwnI w base v xs → E ≤ base → base ≤ w.heap.size → OwnI w' base v xs
theorem mkd_of {lo E : Nat} {w W w' : World} (h : Below w.heap.size w W) (m : Mk lo E W w') (hl : lo ≤ w.heap.size) : Mkd lo E w w' :=
  ⟨(h.mono hl).trans m.bel, fun base v xs o hb _ => (o.keep h).mkd m hb⟩
end Go.Proofs.Yticoippnglkmbaa
namespace Go.Proofs.Yticoippnglkmbaa
open Go.ChangeShapes Go.WideShapes Go.ChangeAt Go.RowKit
set_option linter.unusedVariables false
set_option linter.unusedSimpArgs false
set_option maxRecDepth 100000 in
set_option maxHeartbeats 4000000 in
theorem fron_law (d : FnD) (vp vb : Value) (t : Int) (W : World) {lo : Nat} (h : FnAt lo W d vp vb) :
    Calls Try.prog 3 #[fnV d vp vb, .int .i64 t] W fun e w' => e = .returned (.bool true) ∧ Below W.heap.size W w' := by
  have C1 : Kp (∀ w, FnAt lo w d vp vb → Calls Try.prog 6 _ w _) := ⟨fun w h => szFn d vp vb 1048576 w h (by decide) (by decide)⟩
  have hnm := fnN_small d
  have H := Kp.mk h
  by_cases hq : less 1048576 (fnN d) < 0
  · obtain ⟨⟨a1, c1, rfl⟩, ⟨a2, c2, rfl⟩⟩ := h.shapes
    clear h hnm
    generalize less 1048576 (fnN d) = r at *
    go_enter Try.func3, Try.ntmps3
    go_wp2_with fail
    refine (C1.out _ (H.out.keep (bel_alloc _ _))).mono ?_
    rintro e w1 ⟨rfl, hb1⟩
    go_wp2_with fail
    go_ret
    exact ⟨rfl, bel_trans (bel_alloc _ _) hb1⟩
  have hn := hnm (by omega)
  have C2 : Kp (∀ w, FnAt lo w d vp vb → Calls Try.prog 8 _ w _) := ⟨fun w h => toFn d vp vb w h hn⟩
  have C3 : Kp (∀ w l p q, FnAt l w d p q → Calls Try.prog 7 _ w _) := ⟨fun w l p q h => fronS d p q t w h hn⟩
  have C4 : Kp (∀ w l p q, FnAt l w d p q → Calls Try.prog 9 _ w _) := ⟨fun w l p q h => fronI d p q t w h hn⟩
  have C5 : Kp (∀ w l l2 p q p2 q2, FnAt l w d p q → FnAt l2 w d p2 q2 → Calls Try.prog 11 _ w _) := ⟨fun w l l2 p q p2 q2 h k => eqFn d p q p2 q2 w h k hn⟩
  have C6 : Kp (∀ w lo E p q, FnS lo E w d p q → UnfE lo E w → E ≤ w.heap.size → lo ≤ w.heap.size → Calls Try.prog 12 #[fnV d p q, .int .i64 1] w fun e w' => ∃ r, e = .returned (.int .i64 r) ∧ 1 ≤ r ∧ r ≤ 16777216 ∧ Mkd lo E w w') := ⟨fun w lo E p q h hu hE hl => by
    refine (mkFn lo E d p q 1 w h hu hE hl hn (by decide) (by decide)).mono ?_
    rintro e w' ⟨r, W, rfl, h1, h2, hb, hm⟩
    exact ⟨r, rfl, h1, by omega, mkd_of hb hm hl⟩⟩
  obtain ⟨R, hR⟩ : ∃ R : List Int, R = frL d.blocks t := ⟨_, rfl⟩
  have hRl : R.length ≤ 1048576 := by
    rw [hR]
    have h1 : (frL d.blocks t).length ≤ d.blocks.length := (by unfold frL; split; exact frU_len _ _; exact Nat.zero_le _); have h2 := blsN_nn d.blocks; unfold fnN at hn; omega
  rw [← hR] at C3 C4
  have C7 : Kp (∀ w b1 b2 v u, OwnI w b1 v R → OwnI w b2 u R → Calls Try.prog 10 #[v, u] w _) := ⟨fun w b1 b2 v u h k => eqInts v u R w (h.ints hRl) (k.ints hRl) hRl⟩
  have C8 : Kp (∀ w b v, OwnI w b v R → Calls Try.prog 13 #[v, .int .i64 1] w _) := ⟨fun w b v h => markI v R b 1 w h hRl (by decide) (by decide)⟩
  have C9 : Kp (∀ w v b o, Sl v R.length b o → (∀ i, i < R.length → At w b (o + i) (.int .i64 (1 + i))) → Calls Try.prog 14 #[v, .int .i64 1] w _) := ⟨fun w v b o s c => heldInts v R.length b o 1 w s c hRl (by decide) (by decide)⟩
  obtain ⟨⟨a1, c1, rfl⟩, ⟨a2, c2, rfl⟩⟩ := h.shapes
  clear h hnm hn hR
  obtain ⟨name, link, params, res, blocks⟩ := d
  dsimp only [fnV] at *
  generalize less 1048576 (fnN ⟨name, link, params, res, blocks⟩) = r at *
  go_enter Try.func3, Try.ntmps3
  go_wp2_with fail
  refine (C1.out _ (H.out.keep (bel_alloc _ _))).mono ?_
  rintro e w1 ⟨rfl, hb1⟩
  have B1 := bel_trans (bel_alloc _ _) hb1
  have H1 := H.out.keep B1
  have x1 := keep_cells (new_cells W _) hb1
  have x10 : w1.cell? ⟨W.heap.size, 0, none⟩ = _ := at_cells x1 rfl
  have x11 : w1.cell? ⟨W.heap.size, 1, none⟩ = _ := at_cells x1 rfl
  have x12 : w1.cell? ⟨W.heap.size, 2, none⟩ = _ := at_cells x1 rfl
  have x13 : w1.cell? ⟨W.heap.size, 3, none⟩ = _ := at_cells x1 rfl
  have x14 : w1.cell? ⟨W.heap.size, 4, none⟩ = _ := at_cells x1 rfl
  go_wp2_with fail
  refine (C2.out _ H1).mono ?_
  rintro e w2 ⟨vp2, vb2, rfl, H2, hb2, -⟩
  have H2' := Kp.mk (C3.out _ _ _ _ H2)
  go_wp2_with fail
  refine H2'.out.mono ?_
  rintro e w3 ⟨v3, rfl, O3, hb3⟩
  have B3 := bel_trans (bel_trans B1 hb2) hb3
  have H3 := H.out.keep B3
  have x3 := keep_cells (keep_cells x1 hb2) hb3
  have x30 : w3.cell? ⟨W.heap.size, 0, none⟩ = _ := at_cells x3 rfl
  have x31 : w3.cell? ⟨W.heap.size, 1, none⟩ = _ := at_cells x3 rfl
  have x32 : w3.cell? ⟨W.heap.size, 2, none⟩ = _ := at_cells x3 rfl
  have x33 : w3.cell? ⟨W.heap.size, 3, none⟩ = _ := at_cells x3 rfl
  have x34 : w3.cell? ⟨W.heap.size, 4, none⟩ = _ := at_cells x3 rfl
  clear x10 x11 x12 x13 x14
  go_wp2_with fail
  refine (C2.out _ H3).mono ?_
  rintro e w4 ⟨vp4, vb4, rfl, H4, hb4, hU4⟩
  have F4 := H4.s
  have U4 := hU4.e
  obtain ⟨⟨a4, c4, rfl⟩, ⟨b4, d4, rfl⟩⟩ := H4.shapes
  have bb := bel_alloc w4 (Go.Obj.cells #[.string name, .int .i64 link, .slice a4 params.length c4, .int .i64 res, .slice b4 blocks.length d4] 30)
  have B4 := bel_trans (bel_trans B3 hb4) bb
  have H5 := H4.keep bb
  have H5' := Kp.mk (C4.out _ _ _ _ H5)
  have z4 := new_cells w4 (Go.Obj.cells #[.string name, .int .i64 link, .slice a4 params.length c4, .int .i64 res, .slice b4 blocks.length d4] 30)
  have x4 := keep_cells (keep_cells x3 hb4) bb
  have s4 : w3.heap.size ≤ w4.heap.size := hb4.size
  -- from w3 on nothing of w3 turns; from the box on nothing of the copy turns
  have N4 : Below w3.heap.size w3 (w4.alloc (Go.Obj.cells #[.string name, .int .i64 link, .slice a4 params.length c4, .int .i64 res, .slice b4 blocks.length d4] 30)) := bel_trans hb4 bb
  clear x30 x31 x32 x33 x34
  go_wp2_with fail
  refine H5'.out.mono ?_
  rintro e w5 ⟨v5, rfl, O5, hb5⟩
  have B5 := bel_trans B4 hb5
  have N5 := bel_trans N4 hb5
  have M5 : Below w4.heap.size w4 w5 := bel_trans bb hb5
  have x5 := keep_cells x4 hb5
  have z5 := keep_cells z4 hb5
  have H6 := H5.keep hb5
  rw [World.size_alloc] at O5
  have hs5 : w4.heap.size + 1 ≤ w5.heap.size := by have := hb5.size; simpa using this
  have E5 := Kp.mk (C7.out _ _ _ _ _ O5 (O3.keep N5))
  go_wp2_with fail
  refine E5.out.mono ?_
  rintro e w6 ⟨rfl, hb6⟩
  have B6 := bel_trans B5 hb6
  have N6 := bel_trans N5 hb6
  have M6 : Below w4.heap.size w4 w6 := bel_trans M5 hb6
  have x6 := keep_cells x5 hb6
  have z6 := keep_cells z5 hb6
  have O6 := O5.keep hb6
  have H7 := H.out.keep B6
  have H8 := H6.keep hb6
  have x60 : w6.cell? ⟨W.heap.size, 0, none⟩ = _ := at_cells x6 rfl
  have x61 : w6.cell? ⟨W.heap.size, 1, none⟩ = _ := at_cells x6 rfl
  have x62 : w6.cell? ⟨W.heap.size, 2, none⟩ = _ := at_cells x6 rfl
  have x63 : w6.cell? ⟨W.heap.size, 3, none⟩ = _ := at_cells x6 rfl
  have x64 : w6.cell? ⟨W.heap.size, 4, none⟩ = _ := at_cells x6 rfl
  have z60 : w6.cell? ⟨w4.heap.size, 0, none⟩ = _ := at_cells z6 rfl
  have z61 : w6.cell? ⟨w4.heap.size, 1, none⟩ = _ := at_cells z6 rfl
  have z62 : w6.cell? ⟨w4.heap.size, 2, none⟩ = _ := at_cells z6 rfl
  have z63 : w6.cell? ⟨w4.heap.size, 3, none⟩ = _ := at_cells z6 rfl
  have z64 : w6.cell? ⟨w4.heap.size, 4, none⟩ = _ := at_cells z6 rfl
  go_wp2_with fail
  have HK : Kp (∀ w', Below w6.heap.size w6 w' → FnAt lo w' ⟨name, link, params, res, blocks⟩ (.slice a1 params.length c1) (.slice a2 blocks.length c2)) := ⟨fun w' h => H7.keep h⟩
  obtain ⟨l4, H8⟩ : ∃ l4, FnAt l4 w6 ⟨name, link, params, res, blocks⟩ (.slice a4 params.length c4) (.slice b4 blocks.length d4) := ⟨_, H8⟩
  have HZ : Kp (∀ w', Below w6.heap.size w6 w' → FnAt l4 w' ⟨name, link, params, res, blocks⟩ (.slice a4 params.length c4) (.slice b4 blocks.length d4)) := ⟨fun w' h => H8.keep h⟩
  have ZK : Kp (∀ w', Below w6.heap.size w6 w' → w'.heap[w4.heap.size]? = _) := ⟨fun w' h => keep_cells z6 h⟩
  have hBD := (Below.refl w6.heap.size w6).drew
  go_region_with (first
    | (go_at_call 8; refine (C2.out _ (HK.out _ hBD)).mono ?_; rintro e w7 ⟨vp7, vb7, rfl, H9, hb7, -⟩; have hb77 := hBD.trans hb7; have q0 : w7.cell? ⟨w4.heap.size, 0, none⟩ = _ := at_cells (ZK.out _ hb77) rfl; have q1 : w7.cell? ⟨w4.heap.size, 1, none⟩ = _ := at_cells (ZK.out _ hb77) rfl; have q2 : w7.cell? ⟨w4.heap.size, 2, none⟩ = _ := at_cells (ZK.out _ hb77) rfl; have q3 : w7.cell? ⟨w4.heap.size, 3, none⟩ = _ := at_cells (ZK.out _ hb77) rfl; have q4 : w7.cell? ⟨w4.heap.size, 4, none⟩ = _ := at_cells (ZK.out _ hb77) rfl)
    | (go_at_call 11; refine (C5.out _ _ _ _ _ _ _ (HZ.out _ hb77) H9).mono ?_; rintro e w8 ⟨rfl, hb8⟩))
  all_goals
    have B8 := bel_trans (bel_trans B6 hb77) hb8
    have N8 := bel_trans (bel_trans N6 hb77) hb8
    have M8 := bel_trans (bel_trans M6 hb77) hb8
    have O8 := (O6.keep hb77).keep hb8
    have z8 := keep_cells (ZK.out _ hb77) hb8
    have x8 := keep_cells (keep_cells x6 hb77) hb8
    have F8 := F4.keep M8
    have U8 := U4.keep M8
    have s8 : w4.heap.size + 1 ≤ w8.heap.size := by have := hb6.size; have := hb77.size; have := hb8.size; omega
    have z80 : w8.cell? ⟨w4.heap.size, 0, none⟩ = _ := at_cells z8 rfl
    have z81 : w8.cell? ⟨w4.heap.size, 1, none⟩ = _ := at_cells z8 rfl
    have z82 : w8.cell? ⟨w4.heap.size, 2, none⟩ = _ := at_cells z8 rfl
    have z83 : w8.cell? ⟨w4.heap.size, 3, none⟩ = _ := at_cells z8 rfl
    have z84 : w8.cell? ⟨w4.heap.size, 4, none⟩ = _ := at_cells z8 rfl
    have G8 := Kp.mk (C6.out w8 _ _ _ _ F8 U8 (by omega) (by omega))
    clear q0 q1 q2 q3 q4 x60 x61 x62 x63 x64 z60 z61 z62 z63 z64 HK HZ ZK hb6 H9 H8 x4 x5 x6 z4 z5 z6 O6 H7 H4 H5 H5' E5 hBD
    go_wp2_with fail
    refine G8.out.mono ?_
    rintro e w9 ⟨r9, rfl, r90, r91, K9⟩
    have B9 := B8.trans (K9.bel.mono (by have := B3.size; omega))
    have N9 := N8.trans K9.bel
    have O9 := K9.own _ _ _ O8 (by omega) (by omega)
    have x9 : w9.heap[W.heap.size]? = _ := (K9.bel.block W.heap.size (by have := (Array.getElem?_eq_some_iff.1 x3).1; omega)).trans x8
    have E9 := Kp.mk (C7.out _ _ _ _ _ O9 (O3.keep N9))
    have s9 : w4.heap.size + 1 ≤ w9.heap.size := by have := K9.bel.size; omega
    have s3 : w2.heap.size ≤ w3.heap.size := hb3.size
    have s2 : W.heap.size + 1 ≤ w2.heap.size := by have h1 := hb1.size; rw [World.size_alloc] at h1; have := hb2.size; omega
    clear z80 z81 z82 z83 z84 z8 F8 U8 M8 O8 N8 x8 G8
    go_wp2_with fail
    refine E9.out.mono ?_
    rintro e w10 ⟨rfl, hb10⟩
    have B10 := bel_trans B9 hb10
    have N10 := bel_trans N9 hb10
    have O10 := O9.keep hb10
    have x10 := keep_cells x9 hb10
    have s10 : w4.heap.size + 1 ≤ w10.heap.size := by have := hb10.size; omega
    have G10 := Kp.mk (C8.out _ _ _ O10)
    clear E9 x9 O9 hb10
    go_wp2_with fail
    refine G10.out.mono ?_
    rintro e w11 ⟨rfl, hb11, gb, go, gs, gc⟩
    have B11 := B10.trans (hb11.mono (by have := B3.size; omega))
    have N11 := N10.trans (hb11.mono (by omega))
    have x11 := (hb11.block W.heap.size (by omega)).trans x10
    have G11 := Kp.mk (C9.out w11 _ _ _ gs gc)
    clear G10 O10
    go_wp2_with fail
    refine G11.out.mono ?_
    rintro e w12 ⟨rfl, hb12⟩
    have B12 := bel_trans B11 hb12
    have N12 := bel_trans N11 hb12
    have x12 := keep_cells x11 hb12
    have gc12 : ∀ i, i < R.length → At w12 gb (go + i) (.int .i64 (1 + i)) := fun i hi => at_keep (gc i hi) hb12
    have y0 : w12.cell? ⟨W.heap.size, 0, none⟩ = _ := at_cells x12 rfl
    have y1 : w12.cell? ⟨W.heap.size, 1, none⟩ = _ := at_cells x12 rfl
    have y2 : w12.cell? ⟨W.heap.size, 2, none⟩ = _ := at_cells x12 rfl
    have y3 : w12.cell? ⟨W.heap.size, 3, none⟩ = _ := at_cells x12 rfl
    have y4 : w12.cell? ⟨W.heap.size, 4, none⟩ = _ := at_cells x12 rfl
    have G12 := Kp.mk (C2.out _ (H.out.keep B12))
    clear G11 gc x11 x10 hb11
    go_wp2_with fail
    refine G12.out.mono ?_
    rintro e w13 ⟨vp13, vb13, rfl, H13, hb13, -⟩
    have N13 := bel_trans N12 hb13
    have B13 := bel_trans B12 hb13
    have gc13 : ∀ i, i < R.length → At w13 gb (go + i) (.int .i64 (1 + i)) := fun i hi => at_keep (gc12 i hi) hb13
    have G13 := Kp.mk (C4.out _ _ _ _ H13)
    clear G12 gc12 y0 y1 y2 y3 y4 x12
    go_wp2_with fail
    refine G13.out.mono ?_
    rintro e w14 ⟨v14, rfl, O14, hb14⟩
    have N14 := bel_trans N13 hb14
    have B14 := bel_trans B13 hb14
    have gc14 : ∀ i, i < R.length → At w14 gb (go + i) (.int .i64 (1 + i)) := fun i hi => at_keep (gc13 i hi) hb14
    have G14 := Kp.mk (C7.out _ _ _ _ _ O14 (O3.keep N14))
    clear G13 gc13
    go_wp2_with fail
    refine G14.out.mono ?_
    rintro e w15 ⟨rfl, hb15⟩
    have B15 := bel_trans B14 hb15
    have G15 := Kp.mk (C9.out w15 _ _ _ gs (fun i hi => at_keep (gc14 i hi) hb15))
    clear G14 gc14
    go_wp2_with fail
    refine G15.out.mono ?_
    rintro e w16 ⟨rfl, hb16⟩
    go_wp2_with fail
    go_ret
    exact ⟨rfl, bel_trans B15 hb16⟩
end Go.Proofs.Yticoippnglkmbaa
