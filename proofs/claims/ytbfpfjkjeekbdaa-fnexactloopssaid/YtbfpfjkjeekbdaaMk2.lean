/- Marks set in every cell of instructions, blocks and functions. -/
import Derived.Test.YtbfpfjkjeekbdaaMk1
namespace Go.Proofs.Ytbfpfjkjeekbdaa
open Go.ChangeShapes Go.WideShapes Go.ChangeAt Go.RowKit
open Go.Sort (grow)
set_option linter.unusedVariables false
set_option linter.unusedSimpArgs false
set_option maxRecDepth 100000 in
set_option maxHeartbeats 2000000 in
theorem mkIns (lo E : Nat) (v : Value) (xs : List InD) (k : Int) (w : World) (h : InsS lo E w v xs) (hu : UnfE lo E w) (hE : E ≤ w.heap.size) (hn : blN xs ≤ 1048576) (k0 : 0 ≤ k) (k1 : k ≤ 549755813888) :
    Calls Try.prog 58 #[v, .int .i64 k] w fun e w' => ∃ r, e = .returned (.int .i64 r) ∧ k ≤ r ∧ r ≤ k + 6 * blN xs ∧ Mk lo E w w' := by
  obtain ⟨b, o, ⟨⟨a, cap, rfl, h1, h2⟩, h3⟩, hc⟩ := h.ex
  have nn := insN_nn xs
  unfold blN at hn ⊢
  have g1 : (xs.length : Int) ≤ 1048576 := by omega
  have HS : Kp (∀ i (h : i < xs.length), insN (xs.take (i + 1)) = insN (xs.take i) + inN xs[i] ∧ insN (xs.take (i + 1)) ≤ insN xs ∧ 0 ≤ insN (xs.take i)) := ⟨fun i h => ⟨insN_snoc xs i h, insN_le xs (i + 1), insN_nn _⟩⟩
  have HI : Kp (∀ i, insN (xs.take i) ≤ insN xs ∧ 0 ≤ insN (xs.take i)) := ⟨fun i => ⟨insN_le xs i, insN_nn _⟩⟩
  replace h2 := Kp.mk h2
  replace hc := Kp.mk hc
  clear h
  go_enter Try.func58, Try.ntmps58
  go_wp2_with fail
  go_loopw [1, 5] (fun r s wr => ∃ (i : Nat) (q : Int), i ≤ xs.length ∧ s = .int .i64 i ∧ r = .int .i64 q ∧ k ≤ q ∧ q ≤ k + (6 * i + 4 * insN (xs.take i)) ∧ Mk lo E w wr) (fun _ s _ => xs.length - (intOf s).toNat)
  case atStart => exact ⟨0, k, Nat.zero_le _, rfl, rfl, Int.le_refl _, by simp [insN], Mk.refl _ _ _⟩
  case round =>
    obtain ⟨i, r, hi, rfl, rfl, r0, r1, hM⟩ := hrel
    by_cases hlt : i < xs.length
    · obtain rfl := h2.out (by omega)
      obtain ⟨l1, l2, va, vb, vw, Q⟩ := hc.out i hlt
      obtain ⟨s1, s2, s3⟩ := HS.out i hlt
      have hIN := s1
      unfold inN at hIN
      have d0 : xs[i].args.length ≤ 1048576 := by omega
      have d1 : xs[i].bl.length ≤ 1048576 := by omega
      have d2 : xs[i].ws.length ≤ 1048576 := by omega
      have d3 : (xs[i].args.length : Int) + xs[i].bl.length + xs[i].ws.length = insN (xs.take (i + 1)) - insN (xs.take i) := by omega
      clear s1 hIN
      have QK : Kp _ := ⟨Q⟩
      obtain ⟨a1, k1', rfl⟩ := Q.a.slc
      obtain ⟨a2, k2', rfl⟩ := Q.b.slc
      obtain ⟨a3, k3', rfl⟩ := Q.w.slc
      generalize xs[i] = d at *
      obtain ⟨⟨x0, c0⟩, ⟨x1, c1⟩, ⟨x2, c2⟩, ⟨x3, c3⟩, ⟨x4, c4⟩, ⟨x5, c5⟩, c6, -, -, -, -, -⟩ := Q.mkd hM
      clear Q
      have fz := fun j => (hu.mkd hM).out b j l1 l2
      have f0 := fz (o + i * 9)
      have f1 := fz (o + i * 9 + 1)
      have f2 := fz (o + i * 9 + 2)
      have f3 := fz (o + i * 9 + 3)
      have f4 := fz (o + i * 9 + 4)
      have f5 := fz (o + i * 9 + 5)
      clear fz
      obtain ⟨n0, n1⟩ := HI.out i
      obtain ⟨n2, n3⟩ := HI.out (i + 1)
      have kb : r ≤ 1099511627776 - 8388608 := by omega
      have hS := ((((((hM.set c0 l1 l2 r).set (set_other c1 (by omega)) l1 l2 (r + 1)).set (set_other (set_other c2 (by omega)) (by omega)) l1 l2 (r + 1 + 1)).set (set_other (set_other (set_other c3 (by omega)) (by omega)) (by omega)) l1 l2 (r + 1 + 1 + 1)).set (set_other (set_other (set_other (set_other c4 (by omega)) (by omega)) (by omega)) (by omega)) l1 l2 (r + 1 + 1 + 1 + 1)).set (set_other (set_other (set_other (set_other (set_other c5 (by omega)) (by omega)) (by omega)) (by omega)) (by omega)) l1 l2 (r + 1 + 1 + 1 + 1 + 1))
      replace hM := Kp.mk hM
      go_wp2_with fail
      refine (mkOps lo E _ _ _ _ (QK.out.mkd hS).a (hu.mkd hS) (by rw [hS.sz]; exact hE) d0 (by omega) (by omega)).mono ?_
      rintro e w1 ⟨rfl, hM1⟩
      have hT1 := hS.trans hM1
      have c7 := (QK.out.mkd hT1).c7
      clear c0 c1 c2 c3 c4 c5 c6 f0 f1 f2 f3 f4 f5 hS hM1 hM
      go_wp2_with fail
      refine (mkInts lo E _ _ _ _ (QK.out.mkd hT1).b (hu.mkd hT1) (by rw [hT1.sz]; exact hE) d1 (by omega) (by omega)).mono ?_
      rintro e w2 ⟨rfl, hM2⟩
      have hT2 := hT1.trans hM2
      have c8 := (QK.out.mkd hT2).c8
      clear c7 hM2 hT1
      go_wp2_with fail
      refine (mkWords lo E _ _ _ _ (QK.out.mkd hT2).w (hu.mkd hT2) (by rw [hT2.sz]; exact hE) d2 (by omega) (by omega)).mono ?_
      rintro e w3 ⟨rfl, hM3⟩
      have hT3 := hT2.trans hM3
      clear c8 hM3 hT2
      go_wp2_with fail
      exact ⟨⟨i + 1, _, by omega, by go_num, rfl, by omega, by omega, hT3⟩, by simp [intOf]; omega⟩
    · obtain rfl : i = xs.length := by omega
      rw [List.take_length] at r1
      go_wp2_with fail
      go_ret
      exact ⟨r, rfl, r0, by omega, hM⟩
set_option maxRecDepth 100000 in
set_option maxHeartbeats 2000000 in
theorem mkBls (lo E : Nat) (v : Value) (xs : List (List InD)) (k : Int) (w : World) (h : BlsS lo E w v xs) (hu : UnfE lo E w) (hE : E ≤ w.heap.size) (hn : xs.length + blsN xs ≤ 1048576) (k0 : 0 ≤ k) (k1 : k ≤ 274877906944) :
    Calls Try.prog 35 #[v, .int .i64 k] w fun e w' => ∃ r, e = .returned (.int .i64 r) ∧ k ≤ r ∧ r ≤ k + 6 * blsN xs ∧ Mk lo E w w' := by
  obtain ⟨b, o, ⟨⟨a, cap, rfl, h1, h2⟩, h3⟩, hc⟩ := h.ex
  have nn := blsN_nn xs
  have g1 : (xs.length : Int) ≤ 1048576 := by omega
  have Hn := blsN_of xs
  have HS : Kp (∀ i (h : i < xs.length), blsN (xs.take (i + 1)) = blsN (xs.take i) + blN xs[i] ∧ blN xs[i] ≤ 1048576) := ⟨fun i h => ⟨blsN_snoc xs i h, by have := Hn.1 i h; omega⟩⟩
  have HI : Kp (∀ i, blsN (xs.take i) ≤ blsN xs ∧ 0 ≤ blsN (xs.take i)) := ⟨fun i => ⟨blsN_le xs i, blsN_nn _⟩⟩
  replace h2 := Kp.mk h2
  replace hc := Kp.mk hc
  clear h Hn
  go_enter Try.func35, Try.ntmps35
  go_wp2_with fail
  go_loopw [1, 5] (fun r s wr => ∃ (i : Nat) (q : Int), i ≤ xs.length ∧ s = .int .i64 i ∧ r = .int .i64 q ∧ k ≤ q ∧ q ≤ k + 6 * blsN (xs.take i) ∧ Mk lo E w wr) (fun _ s _ => xs.length - (intOf s).toNat)
  case atStart => exact ⟨0, k, Nat.zero_le _, rfl, rfl, Int.le_refl _, by simp [blsN], Mk.refl _ _ _⟩
  case round =>
    obtain ⟨i, r, hi, rfl, rfl, r0, r1, hM⟩ := hrel
    by_cases hlt : i < xs.length
    · obtain rfl := h2.out (by omega)
      obtain ⟨l1, l2, vi, q, Q⟩ := hc.out i hlt
      obtain ⟨s1, s2⟩ := HS.out i hlt
      have Q1 := Q.mkd hM
      obtain ⟨ai, ki, rfl⟩ := Q.slc
      have c0 := hM.slc _ _ _ _ _ q
      generalize xs[i] = ys at *
      obtain ⟨n0, n1⟩ := HI.out i
      have C := Kp.mk (mkIns lo E _ ys r wr Q1 (hu.mkd hM) (by rw [hM.sz]; exact hE) s2 (by omega) (by omega))
      clear q Q Q1
      go_wp2_with fail
      refine C.out.mono ?_
      rintro e w1 ⟨r', rfl, p1, p2, hM1⟩
      go_wp2_with fail
      exact ⟨⟨i + 1, r', by omega, by go_num, rfl, by omega, by omega, hM.trans hM1⟩, by simp [intOf]; omega⟩
    · obtain rfl : i = xs.length := by omega
      rw [List.take_length] at r1
      go_wp2_with fail
      go_ret
      exact ⟨r, rfl, r0, r1, hM⟩
/-- The shape is kept where the blocks below E are. -/
theorem IntsS.keep {lo E : Nat} {k : IntKind} {w w' : World} {v : Value} {n : Nat} (h : IntsS lo E k w v n) (m : Below E w w') : IntsS lo E k w' v n := by
  obtain ⟨b, o, s, c⟩ := h.ex
  exact ⟨b, o, s, fun i hi => by obtain ⟨h1, h2, x, q⟩ := c i hi; exact ⟨h1, h2, x, (m.cell (p := ⟨_, _, none⟩) h2).trans q⟩⟩
theorem Op4.keep {E b o : Nat} {w w' : World} (h : Op4 w b o) (m : Below E w w') (hb : b < E) : Op4 w' b o := by
  have t : ∀ o v, At w b o v → At w' b o v := fun o v q => (m.cell (p := ⟨_, _, none⟩) hb).trans q
  obtain ⟨⟨x0, h0⟩, ⟨x1, h1⟩, ⟨x2, h2⟩, ⟨x3, h3⟩⟩ := h
  exact ⟨⟨_, t _ _ h0⟩, ⟨_, t _ _ h1⟩, ⟨_, t _ _ h2⟩, ⟨_, t _ _ h3⟩⟩
theorem OpsS.keep {lo E : Nat} {w w' : World} {v : Value} {n : Nat} (h : OpsS lo E w v n) (m : Below E w w') : OpsS lo E w' v n := by
  obtain ⟨b, o, s, c⟩ := h.ex
  exact ⟨b, o, s, fun i hi => by obtain ⟨h1, h2, q⟩ := c i hi; exact ⟨h1, h2, q.keep m h2⟩⟩
theorem In9.keep {lo E b o : Nat} {w w' : World} {d : InD} {va vb vw : Value} (h : In9 lo E w b o d va vb vw) (m : Below E w w') (hb : b < E) : In9 lo E w' b o d va vb vw := by
  have t : ∀ o v, At w b o v → At w' b o v := fun o v q => (m.cell (p := ⟨_, _, none⟩) hb).trans q
  obtain ⟨⟨x0, h0⟩, ⟨x1, h1⟩, ⟨x2, h2⟩, ⟨x3, h3⟩, ⟨x4, h4⟩, ⟨x5, h5⟩, h6, h7, h8, ha, hb, hw⟩ := h
  exact ⟨⟨_, t _ _ h0⟩, ⟨_, t _ _ h1⟩, ⟨_, t _ _ h2⟩, ⟨_, t _ _ h3⟩, ⟨_, t _ _ h4⟩, ⟨_, t _ _ h5⟩, t _ _ h6, t _ _ h7, t _ _ h8, ha.keep m, hb.keep m, hw.keep m⟩
theorem InsS.keep {lo E : Nat} {w w' : World} {v : Value} {xs : List InD} (h : InsS lo E w v xs) (m : Below E w w') : InsS lo E w' v xs := by
  obtain ⟨b, o, s, c⟩ := h.ex
  exact ⟨b, o, s, fun i hi => by obtain ⟨h1, h2, va, vb, vw, q⟩ := c i hi; exact ⟨h1, h2, va, vb, vw, q.keep m h2⟩⟩
theorem BlsS.keep {lo E : Nat} {w w' : World} {v : Value} {xs : List (List InD)} (h : BlsS lo E w v xs) (m : Below E w w') : BlsS lo E w' v xs := by
  obtain ⟨b, o, s, c⟩ := h.ex
  exact ⟨b, o, s, fun i hi => by obtain ⟨h1, h2, vi, q, r⟩ := c i hi; exact ⟨h1, h2, vi, (m.cell (p := ⟨_, _, none⟩) h2).trans q, r.keep m⟩⟩
theorem FnS.keep {lo E : Nat} {w w' : World} {d : FnD} {vp vb : Value} (h : FnS lo E w d vp vb) (m : Below E w w') : FnS lo E w' d vp vb := ⟨h.p.keep m, h.b.keep m⟩
theorem BlsS.slc {lo E : Nat} {w : World} {v : Value} {xs : List (List InD)} (h : BlsS lo E w v xs) : ∃ a c, v = .slice a xs.length c := by
  obtain ⟨b, o, ⟨⟨a, c, rfl, _⟩, _⟩, _⟩ := h.ex
  exact ⟨a, c, rfl⟩
set_option maxRecDepth 100000 in
set_option maxHeartbeats 2000000 in
theorem mkFn (lo E : Nat) (d : FnD) (vp vb : Value) (k : Int) (w : World) (h : FnS lo E w d vp vb) (hu : UnfE lo E w) (hE : E ≤ w.heap.size) (hl : lo ≤ w.heap.size) (hn : fnN d ≤ 1048576) (k0 : 0 ≤ k) (k1 : k ≤ 1048576) :
    Calls Try.prog 12 #[fnV d vp vb, .int .i64 k] w fun e w' => ∃ r W, e = .returned (.int .i64 r) ∧ k ≤ r ∧ r ≤ k + 8388608 ∧ Below w.heap.size w W ∧ Mk lo E W w' := by
  unfold fnN at hn
  obtain ⟨name, link, params, res, blocks⟩ := d
  obtain ⟨hp, hb⟩ := h
  dsimp only [fnV] at *
  have nn := blsN_nn blocks
  have n1 : params.length ≤ 1048576 := by omega
  have n2 : (blocks.length : Int) + blsN blocks ≤ 1048576 := by omega
  have n3 : blsN blocks ≤ 1048576 := by omega
  clear hn
  obtain ⟨a1, c1, rfl⟩ := hp.slc
  obtain ⟨a2, c2, rfl⟩ := hb.slc
  obtain ⟨W, hW⟩ : ∃ W, W = w.alloc (Go.Obj.cells #[.string name, .int .i64 link, .slice a1 params.length c1, .int .i64 res, .slice a2 blocks.length c2] 30) := ⟨_, rfl⟩
  have hB : Below w.heap.size w W := by rw [hW]; exact bel_alloc _ _
  have HP := hp.keep (hB.mono hE)
  have HB := hb.keep (hB.mono hE)
  have hU : UnfE lo E W := hu.keep (hB.mono hE)
  have hz : E ≤ W.heap.size := Nat.le_trans hE hB.size
  have C1 := Kp.mk (mkInts lo E _ _ k W HP hU hz n1 k0 (by omega))
  have C2 : Kp (∀ w1, Mk lo E W w1 → _) := ⟨fun w1 hM => mkBls lo E _ blocks (k + params.length) w1 (HB.mkd hM) (hU.mkd hM) (by rw [hM.sz]; exact hz) n2 (by omega) (by omega)⟩
  have hc : Kp (∀ w1, Mk lo E W w1 → At w1 w.heap.size 4 (.slice a2 blocks.length c2)) := ⟨fun w1 hM => hM.slc _ _ _ _ _ (by rw [hW]; exact at_cells (MapKept.heap_alloc w _).1 rfl)⟩
  go_enter Try.func12, Try.ntmps12
  go_wp2_with fail
  rw [← hW]
  refine C1.out.mono ?_
  rintro e w1 ⟨rfl, hM1⟩
  have x4 := hc.out _ hM1
  clear hW
  go_wp2_with fail
  refine (C2.out _ hM1).mono ?_
  rintro e w2 ⟨r, rfl, r0, r1, hM2⟩
  go_wp2_with fail
  go_ret
  exact ⟨r, W, rfl, by omega, by omega, hB, hM1.trans hM2⟩
end Go.Proofs.Ytbfpfjkjeekbdaa
