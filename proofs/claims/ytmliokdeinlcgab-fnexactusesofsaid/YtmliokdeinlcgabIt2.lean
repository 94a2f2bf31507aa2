/- The program's walk through the instructions: its contract. -/
import Derived.Test.YtmliokdeinlcgabIt1
namespace Go.Proofs.Ytmliokdeinlcgab
open Go.ChangeShapes Go.WideShapes Go.ChangeAt Go.RowKit
attribute [local go_sem] Oper.semAt_some
set_option linter.unusedVariables false
set_option linter.unusedSimpArgs false
set_option maxRecDepth 100000 in
set_option maxHeartbeats 2000000 in
theorem instrs_seq (F : Fence) (n : Nat) (hF : F.fn 28) (hro : F.round = none) (hn : 1 ≤ n) (S : Nat → Prop) (n0 Bx : Nat) (w0 : World) (vb : Value) (Y : List (List ItD)) (hY : ItBls n0 w0 vb Y)
    (hc : At w0 Bx 4 vb) (hS : ∀ k, k < n0 → S k) (hB : S Bx) (hSw : ∀ k, S k → k < w0.heap.size) :
    SeqL F n Try.prog 28 #[.pointer (some ⟨Bx, 0, none⟩)] itE S Y.flatten w0 := by
  intro l J Jx W hW hJ hJx hR h0
  have K0 : Kq S w0 W := Kq.below hW hSw
  obtain ⟨⟨b, o, ⟨⟨a, cap, rfl, h1, h2⟩, h3⟩, hk⟩, ix⟩ := hY
  replace hc := K0.at hB hc
  refine callsIn_of_wp Try.func28 rfl hF ?_ hro
  simp only [Try.ntmps28, List.size_toArray, List.length_cons, List.length_nil, Nat.reduceAdd, Nat.reduceSub, Array.replicate_succ, Array.replicate_zero, List.push_toArray, List.append_toArray, List.nil_append, List.cons_append]
  replace h2 := Kp.mk h2
  replace hk := Kp.mk hk
  replace ix := Kp.mk ix
  replace hR := Kp.mk hR
  replace hS := Kp.mk hS
  gi_wp2
  gi_loopw [10] (fun i wr => ∃ k : Nat, k ≤ Y.length ∧ i = .int .i64 k ∧ J (offY Y k) wr ∧ Kq S W wr) (fun i _ => Y.length - (intOf i).toNat)
  case atStart => exact ⟨0, Nat.zero_le _, rfl, h0, Kq.refl _ _⟩
  case round =>
    obtain ⟨k, hkl, rfl, hJk, KW⟩ := hrel
    by_cases hlt : k < Y.length
    · obtain rfl := h2.out (by omega)
      obtain ⟨hb, vi, c0, hins⟩ := hk.out k hlt
      replace c0 := KW.at (hS.out _ hb) (K0.at (hS.out _ hb) c0)
      obtain ⟨⟨bi, oi, ⟨⟨ai, capi, rfl, i1, i2⟩, i3⟩, hi⟩⟩ := hins
      obtain ⟨ys, hys⟩ : ∃ ys, Kp (Y[k] = ys) := ⟨_, ⟨rfl⟩⟩
      rw [hys.out] at hi i3 i1 i2 c0
      have hR2 : Kp (∀ j (hj : j < ys.length) W1, J (offY Y k + j) W1 → W.heap.size ≤ W1.heap.size → YieldAt F (n - 1) Try.prog l #[.agg #[.int .i64 k, .int .i64 j], inV ys[j].d ys[j].va ys[j].vb ys[j].vw] W1 fun e W' =>
          e = Ending.returned (Value.bool true) ∧ J (offY Y k + (j + 1)) W' ∧ Kd S W.heap.size W1 W' ∨ e = Ending.returned (Value.bool false) ∧ (∃ m, m < Y.flatten.length ∧ Jx (m + 1) W') ∧ Kd S W.heap.size W1 W') := ⟨fun j hj W1 hJ1 hs1 => by
        obtain ⟨q, e⟩ := flat_at Y k j hlt (by rw [hys.out]; exact hj)
        have r := hR.out _ q W1 hJ1 hs1
        have x := ix.out k hlt j (by rw [hys.out]; exact hj)
        rw [e] at r
        simp only [hys.out] at x
        simp only [itE, hys.out, x.1, x.2] at r
        refine r.mono ?_
        rintro e w' (⟨h1, h2, h3⟩ | ⟨h1, h2, h3⟩)
        · exact .inl ⟨h1, h2, h3⟩
        · exact .inr ⟨h1, ⟨_, q, h2⟩, h3⟩⟩
      have hoff : Kp (offY Y (k + 1) = offY Y k + ys.length) := ⟨by rw [offY_succ Y k hlt, hys.out]⟩
      replace hi := Kp.mk hi
      replace i2 := Kp.mk i2
      replace c0 : At wr b (o + k) (.slice ai ys.length capi) := c0
      have HJ := Kp.mk hJk
      have hbl := Lib.lt_of_cell c0
      clear hR ix hk hys
      generalize offY Y k = O at *
      gi_wp2
      gi_loopw [18] (fun i wq => ∃ j : Nat, j ≤ ys.length ∧ i = .int .i64 j ∧ J (O + j) wq ∧ Kq S W wq) (fun i _ => ys.length - (intOf i).toNat)
      case atStart =>
        exact ⟨0, Nat.zero_le _, rfl, hJ _ _ _ HJ.out KW.size ((bel_alloc _ _).mono KW.size), KW.trans (Kq.below (bel_alloc _ _) (fun k hk => by have := hSw k hk; have := hW.size; have := KW.size; omega))⟩
      case round =>
        obtain ⟨j, hjl, rfl, hJj, KQ⟩ := hrel
        by_cases hlt2 : j < ys.length
        · obtain rfl := i2.out (by omega)
          obtain ⟨hb2, sh, c9⟩ := hi.out j hlt2
          replace c9 := KQ.i9 (hS.out _ hb2) (K0.i9 (hS.out _ hb2) c9)
          have hR3 := hR2.out j hlt2
          generalize ys[j] = y at *
          obtain ⟨yb, yi, d, va, vb, vw⟩ := y
          obtain ⟨⟨p1, m1, g1, rfl⟩, ⟨p2, m2, g2, rfl⟩, ⟨p3, m3, g3, rfl⟩⟩ := sh
          obtain ⟨q0, q1, q2, q3, q4, q5, q6, q7, q8⟩ := c9
          have hwl : W.heap.size ≤ wr.heap.size := KQ.size
          have hsl : ∀ k, S k → k < W.heap.size := fun k hk => by have := hSw k hk; have := hW.size; omega
          obtain ⟨fn, tmps, assign, body, hy, hRR⟩ := hR3 (wr.alloc (Go.Obj.cells #[.int .i64 d.op, .int .i64 d.ty, .int .i64 d.fl, .int .i64 d.pr, .int .i64 d.ca, .int .i64 d.sz, .slice p1 m1 g1, .slice p2 m2 g2, .slice p3 m3 g3] 47))
            (hJ _ _ _ hJj hwl ((bel_alloc _ _).mono hwl)) (by simp; omega)
          have KA : Kq S W (wr.alloc (Go.Obj.cells #[.int .i64 d.op, .int .i64 d.ty, .int .i64 d.fl, .int .i64 d.pr, .int .i64 d.ca, .int .i64 d.sz, .slice p1 m1 g1, .slice p2 m2 g2, .slice p3 m3 g3] 47)) :=
            KQ.trans (Kq.below (bel_alloc _ _) (fun k hk => by have := hsl k hk; omega))
          dsimp only at hy
          gi_wp2
          refine hRR.mono ?_
          rintro e W3 (⟨rfl, hJ3, hk3⟩ | ⟨rfl, ⟨m, hm, hJx3⟩, hk3⟩)
          · gi_wp2
            exact ⟨⟨j + 1, by omega, by go_num, hJ3, KA.trans hk3.kq⟩, by simp [intOf]; omega⟩
          · gi_wp2
            refine bodyPost_ret (results_none rfl _ _ _) rfl ?_
            exact ⟨⟨_, rfl⟩, .inr ⟨m, hm, hJx3⟩⟩
        · obtain rfl : j = ys.length := by omega
          gi_wp2
          refine ⟨⟨k + 1, by omega, by go_num, ?_, KQ⟩, by simp [intOf]; omega⟩
          rw [hoff.out]
          exact hJj
    · obtain rfl : k = Y.length := by omega
      gi_wp2
      go_end0
      exact ⟨⟨_, rfl⟩, .inl (by rw [← offY_end]; exact hJk)⟩
end Go.Proofs.Ytmliokdeinlcgab
