/- Frontier: the specification's search. -/
import Derived.Test.YtbfpfjkjeekbdaaId2
import Derived.BigRegion
import Derived.Test.YtbfpfjkjeekbdaaGs1
namespace Go.Proofs.Ytbfpfjkjeekbdaa
open Go.ChangeShapes Go.WideShapes Go.ChangeAt Go.RowKit
set_option linter.unusedVariables false
set_option linter.unusedSimpArgs false
/-- The blocks below b that are told, rising. -/
def frU (fr : Nat → Bool) (b : Nat) : List Int := ((List.range b).filter fr).map (fun i : Nat => (i : Int))
theorem frU_yes {fr : Nat → Bool} {b : Nat} (h : fr b = true) : frU fr (b + 1) = frU fr b ++ [(b : Int)] := by
  simp [frU, List.range_succ, List.filter_append, List.filter_cons, h]
theorem frU_no {fr : Nat → Bool} {b : Nat} (h : fr b = false) : frU fr (b + 1) = frU fr b := by
  simp [frU, List.range_succ, List.filter_append, List.filter_cons, h]
theorem frU_len (fr : Nat → Bool) (b : Nat) : (frU fr b).length ≤ b := by
  have := List.length_filter_le fr (List.range b)
  simpa [frU] using this
/-- What is in the frontier of k. -/
noncomputable def frB (bls : List (List InD)) (k b : Nat) : Bool := (prevs bls bls.length b).any (fun p => dmB bls k p) && (!dmB bls k b || decide (k = b))
set_option maxRecDepth 100000 in
set_option maxHeartbeats 4000000 in
theorem frontS (blocks : List (List InD)) (n lo : Nat) (hnl : Kp (blocks.length = n)) (w : World) (vN vP vd : Value) (hN : ∃ a c, vN = .slice a n c) (G : Rws lo w vP n (prevs blocks n)) (H : Mtx w vd n (fun i j => dmB blocks i j)) (hn : n ≤ 1048576)
    (hpv : ∀ i : Nat, i < n → (prevs blocks n i).length ≤ 1048576 ∧ ∀ y ∈ prevs blocks n i, 0 ≤ y ∧ y < (n : Int)) (k : Nat) (hk : k < n) :
    Calls Try.prog 25 #[.agg #[vN, vP], vd, .int .i64 k] w fun e w' => ∃ v', e = .returned v' ∧ OwnI w' w.heap.size v' (frU (frB blocks k) n) ∧ Below w.heap.size w w' := by
  obtain ⟨aN, cN, rfl⟩ := hN
  obtain ⟨a0, c0, rfl, hx⟩ := H.ex
  obtain ⟨hb, ho, ⟨⟨an, cn, rfl, g1, g2⟩, g3⟩, -, gc⟩ := G.ex
  obtain ⟨i0, hi0, hz0, hz1, hz2⟩ := info_parts info64
  obtain rfl := g2 (by omega)
  have GC : Kp (∀ (W : World) (i : Nat), Below w.heap.size w W → i < n → ∃ a c b o, W.cell? ⟨hb, ho + i, none⟩ = some (.slice a (prevs blocks n i).length c) ∧ (0 < (prevs blocks n i).length → a = some ⟨b, o, none⟩) ∧ ∀ q (h : q < (prevs blocks n i).length), At W b (o + q) (.int .i64 (prevs blocks n i)[q])) := ⟨fun W i hW hi => by
    obtain ⟨u, h1, h2⟩ := gc i hi
    obtain ⟨b, o, ⟨⟨a, c, rfl, s1, s2⟩, s3⟩, hl, hc⟩ := h2.ex
    exact ⟨a, c, b, o, at_keep h1 hW, s2, fun q hq => at_keep (hc q hq) hW⟩⟩
  have MC : Kp (∀ W i j, Below w.heap.size w W → i < n → j < n → ∃ hb bi ci, a0 = some ⟨hb, 0, none⟩ ∧ W.cell? ⟨hb, i, none⟩ = some (.slice (some ⟨bi, 0, none⟩) n ci) ∧ W.cell? ⟨bi, j, none⟩ = some (.bool (dmB blocks i j))) := ⟨fun W i j hW hi hj => by
    obtain ⟨g, bi, ci, h1, h2, h3⟩ := hx i hi
    exact ⟨g, bi, ci, h1, at_keep h2 hW, at_keep (h3 j hj) hW⟩⟩
  clear H hx G gc g1 g3 g2
  have k0 : (0 : Int) ≤ (k : Int) := by omega
  have k1 : (k : Int) < (n : Int) := by omega
  obtain ⟨Bo, hBo⟩ : ∃ Bo, Kp (Bo = Go.Obj.cells #[.slice aN n cN, .slice (some ⟨hb, ho, none⟩) n cn] 45 (0, 0)) := ⟨_, ⟨rfl⟩⟩
  obtain ⟨W0, hW0⟩ : ∃ W0, Kp (W0 = w.alloc (Go.Obj.cells #[.slice aN n cN, .slice (some ⟨hb, ho, none⟩) n cn] 45)) := ⟨_, ⟨rfl⟩⟩
  have hB0 : Below w.heap.size w W0 := by rw [hW0.out]; exact bel_alloc _ _
  have hg0 : W0.heap[w.heap.size]? = some Bo := by rw [hW0.out, hBo.out]; exact new_cells _ _
  have SK : Kp (∀ W' : World, W'.heap[w.heap.size]? = some Bo → W'.cell? ⟨w.heap.size, 0, none⟩ = some (.slice aN n cN) ∧ W'.cell? ⟨w.heap.size, 1, none⟩ = some (.slice (some ⟨hb, ho, none⟩) n cn)) := ⟨fun W' h1 => by
    rw [hBo.out] at h1
    exact ⟨at_cells h1 rfl, at_cells h1 rfl⟩⟩
  replace hpv := Kp.mk hpv
  go_enter Try.func25, Try.ntmps25
  go_upto_region 1 with fail
  rw [← hW0.out]
  go_wp2_with fail
  go_loopw [7, 8] (fun vo s wr => ∃ b : Nat, b ≤ n ∧ s = .int .i64 b ∧ wr.ownsRow W0.heap.size 2 1 vo (frU (frB blocks k) b).length ((frU (frB blocks k) b).map (Value.int .i64)) ∧ Below W0.heap.size W0 wr) (fun _ s _ => n - (intOf s).toNat)
  case atStart => exact ⟨0, Nat.zero_le _, rfl, ⟨rfl, .inr ⟨W0.heap.size, 0, #[], rfl, Nat.le_refl _, new_cells W0 _, Nat.le_refl _, by decide, rfl, rfl⟩⟩, bel_alloc _ _⟩
  case round =>
    obtain ⟨b, hbn, rfl, hown, hBl⟩ := hrel
    have hlen := frU_len (frB blocks k) b
    obtain ⟨L, hL⟩ : ∃ L, Kp (frU (frB blocks k) b = L) := ⟨_, ⟨rfl⟩⟩
    rw [hL.out] at hown hlen
    obtain ⟨a8, c8, rfl⟩ := (OwnI.mk hown).shape
    have b0 : (0 : Int) ≤ (b : Int) := by omega
    obtain ⟨y0, y1⟩ := SK.out wr (keep_cells hg0 hBl)
    by_cases hlt : b < n
    · have b1 : (b : Int) < (n : Int) := by omega
      obtain ⟨hpl, hpy⟩ := hpv.out b hlt
      go_wp2_with fail
      go_loopw [9, 10] (fun s6 s7 wz => ∃ i : Nat, i ≤ (prevs blocks n b).length ∧ s6 = .bool (((prevs blocks n b).take i).any (fun p => dmB blocks k p)) ∧ s7 = .int .i64 i ∧ wz.ownsRow W0.heap.size 2 1 (.slice a8 L.length c8) L.length (L.map (Value.int .i64)) ∧ Below W0.heap.size W0 wz) (fun _ s7 _ => (prevs blocks n b).length - (intOf s7).toNat)
      case atStart => exact ⟨0, Nat.zero_le _, by simp, rfl, hown, hBl⟩
      case round =>
        clear hown hBl y0 y1
        obtain ⟨i, hi, rfl, rfl, hown, hBl⟩ := hrel
        obtain ⟨y0, y1⟩ := SK.out wr (keep_cells hg0 hBl)
        have hBw := bel_trans hB0 hBl
        obtain ⟨ra, rc, rb, ro, hrow, hra, hrcs⟩ := GC.out wr b hBw hlt
        have hpb := Kp.mk (show prevs blocks blocks.length b = prevs blocks n b by rw [hnl.out])
        have i00 : (0 : Int) ≤ (i : Int) := by omega
        by_cases hil : i < (prevs blocks n b).length
        · have i01 : (i : Int) < ((prevs blocks n b).length : Int) := by omega
          have hc := hrcs i hil
          obtain rfl := hra (by omega)
          have hyb := hpy _ (List.getElem_mem hil)
          have hnx : ∀ x, (((prevs blocks n b).take i).any (fun p => dmB blocks k p) || dmB blocks k (prevs blocks n b)[i]) = x → ((prevs blocks n b).take (i + 1)).any (fun p => dmB blocks k p) = x := fun x h => by
            rw [List.take_add_one, List.getElem?_eq_getElem hil, List.any_append, ← h]
            simp
          clear hrcs hra
          generalize (prevs blocks n b)[i] = c at *
          generalize (prevs blocks n b).length = pl at *
          obtain ⟨tc, rfl⟩ : ∃ tc : Nat, c = tc := ⟨c.toNat, by omega⟩
          have htc : tc < n := by omega
          have tc0 : (0 : Int) ≤ (tc : Int) := by omega
          have tc1 : (tc : Int) < (n : Int) := by omega
          obtain ⟨hb1, bi, ci, rfl, c1, c2⟩ := MC.out wr k tc hBw hk htc
          cases hf : ((prevs blocks n b).take i).any (fun p => dmB blocks k p) with
          | true =>
            have hs := Kp.mk (hnx true (by rw [hf]; rfl))
            replace hown := Kp.mk hown
            replace hf := Kp.mk hf
            replace hnx := Kp.mk hnx
            go_upto_region 9 with fail
            go_region
            go_wp2_with fail
            exact ⟨⟨i + 1, by omega, by rw [hs.out], by go_num, row_kept hown.out (bel_drew wr), hBl.drew⟩, by simp [intOf]; omega⟩
          | false =>
            have hs := Kp.mk (hnx _ (by rw [hf, Bool.false_or]))
            obtain ⟨q, hq⟩ : ∃ q, dmB blocks k tc = q := ⟨_, rfl⟩
            rw [hq] at c2 hs
            replace hq := Kp.mk hq
            replace hown := Kp.mk hown
            replace hf := Kp.mk hf
            replace hnx := Kp.mk hnx
            go_upto_region 9 with fail
            go_region
            go_wp2_with fail
            exact ⟨⟨i + 1, by omega, by rw [hs.out], by go_num, row_kept hown.out (bel_drew wr), hBl.drew⟩, by simp [intOf]; omega⟩
        · obtain rfl : i = (prevs blocks n b).length := by omega
          have hsz := hBl.size
          have hlL : L.length ≤ 1048576 := by omega
          rw [List.take_length]
          have hfr : Kp (frB blocks k b = ((prevs blocks n b).any (fun p => dmB blocks k p) && (!dmB blocks k b || decide (k = b)))) := ⟨by rw [frB, hpb.out]⟩
          obtain ⟨hb1, bi, ci, rfl, c1, c2⟩ := MC.out wr k b hBw hk hlt
          clear hrcs hra hpy hpb
          cases hF : (prevs blocks n b).any (fun p => dmB blocks k p) with
          | false =>
            have hnone : frU (frB blocks k) (b + 1) = L := by rw [frU_no (by rw [hfr.out, hF, Bool.false_and]), hL.out]
            replace hnone := Kp.mk hnone
            replace hown := Kp.mk hown
            replace hF := Kp.mk hF
            go_wp2_with fail
            exact ⟨⟨b + 1, by omega, by go_num, by rw [hnone.out]; exact hown.out, hBl⟩, by simp [intOf]; omega⟩
          | true =>
            cases hD : dmB blocks k b with
            | false =>
              rw [hD] at c2
              have hyes : frU (frB blocks k) (b + 1) = L ++ [(b : Int)] := by rw [frU_yes (by rw [hfr.out, hF, hD]; rfl), hL.out]
              replace hyes := Kp.mk hyes
              replace hown := Kp.mk hown
              replace hF := Kp.mk hF
              replace hD := Kp.mk hD
              go_wp2_with (at_builtin; refine wpList_append_vals _ rfl _ _ 22 rfl W0.heap.size 2 i0 (.int .i64 0) 1 8 Try.underlying22 hi0 hz0 hz1 hz2 rfl (by decide) _ _ _ rfl (hown.out.alloc _) (some ⟨wr.heap.size, 0, none⟩) wr.heap.size 0 1 1 [.int .i64 b] rfl (fun _ => rfl) rfl (one_new wr _ _) one_cell (by unfold maxLen; omega) (by omega) (by simp; omega) ?_; intro v3 w3 hown3 hgrow3)
              have hB3 := own_bel (hBl.alloc hBl.size _) (hown.out.alloc _) hgrow3 (by simp; omega)
              have hown4 : w3.ownsRow W0.heap.size 2 1 v3 (frU (frB blocks k) (b + 1)).length ((frU (frB blocks k) (b + 1)).map (Value.int .i64)) := by
                rw [hyes.out]
                simpa using hown3
              clear hown hown3 hgrow3 hBl y0 y1 c1 c2
              go_wp2_with fail
              exact ⟨⟨b + 1, by omega, by go_num, hown4, hB3⟩, by simp [intOf]; omega⟩
            | true =>
              rw [hD] at c2
              by_cases hkb : k = b
              · have hkb2 : ((k : Int) == (b : Int)) = true := by simp [hkb]
                have hkb3 : decide (k = b) = true := by simp [hkb]
                replace hkb := Kp.mk hkb
                have hyes : frU (frB blocks k) (b + 1) = L ++ [(b : Int)] := by rw [frU_yes (by rw [hfr.out, hF, hD, hkb3]; rfl), hL.out]
                replace hyes := Kp.mk hyes
                replace hown := Kp.mk hown
                replace hF := Kp.mk hF
                replace hD := Kp.mk hD
                go_wp2_with (at_builtin; refine wpList_append_vals _ rfl _ _ 22 rfl W0.heap.size 2 i0 (.int .i64 0) 1 8 Try.underlying22 hi0 hz0 hz1 hz2 rfl (by decide) _ _ _ rfl (hown.out.alloc _) (some ⟨wr.heap.size, 0, none⟩) wr.heap.size 0 1 1 [.int .i64 b] rfl (fun _ => rfl) rfl (one_new wr _ _) one_cell (by unfold maxLen; omega) (by omega) (by simp; omega) ?_; intro v3 w3 hown3 hgrow3)
                have hB3 := own_bel (hBl.alloc hBl.size _) (hown.out.alloc _) hgrow3 (by simp; omega)
                have hown4 : w3.ownsRow W0.heap.size 2 1 v3 (frU (frB blocks k) (b + 1)).length ((frU (frB blocks k) (b + 1)).map (Value.int .i64)) := by
                  rw [hyes.out]
                  simpa using hown3
                clear hown hown3 hgrow3 hBl y0 y1 c1 c2
                go_wp2_with fail
                exact ⟨⟨b + 1, by omega, by go_num, hown4, hB3⟩, by simp [intOf]; omega⟩
              · have hkb2 : ((k : Int) == (b : Int)) = false := by simp; omega
                have hkb3 : decide (k = b) = false := by simp [hkb]
                replace hkb := Kp.mk hkb
                have hnone : frU (frB blocks k) (b + 1) = L := by rw [frU_no (by rw [hfr.out, hF, hD, hkb3]; rfl), hL.out]
                replace hnone := Kp.mk hnone
                replace hown := Kp.mk hown
                replace hF := Kp.mk hF
                replace hD := Kp.mk hD
                go_wp2_with fail
                exact ⟨⟨b + 1, by omega, by go_num, by rw [hnone.out]; exact hown.out, hBl⟩, by simp [intOf]; omega⟩
    · obtain rfl : b = n := by omega
      go_wp2_with fail
      go_ret
      refine ⟨_, rfl, ⟨?_⟩, bel_trans hB0 hBl⟩
      rw [hL.out]
      exact own_base hown hB0.size
end Go.Proofs.Ytbfpfjkjeekbdaa
