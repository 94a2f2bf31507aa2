/- The program's walk through the instructions, for rounds that turn blocks of their own: its contract. -/
import Derived.Test.YtbfpfjkjeekbdaaIt1
import Derived.Test.YtbfpfjkjeekbdaaRa
namespace Go.Proofs.Ytbfpfjkjeekbdaa
open Go.ChangeShapes Go.WideShapes Go.ChangeAt Go.RowKit
attribute [local go_sem] Oper.semAt_some
set_option linter.unusedVariables false
set_option linter.unusedSimpArgs false
theorem KdT.kq {S T : Nat → Prop} {L : Nat} {A B : World} (h : KdT S T L A B) : Kq S A B := ⟨h.size, h.low⟩
set_option maxRecDepth 100000 in
set_option maxHeartbeats 2000000 in
theorem instrs_seqF (F : Fence) (n : Nat) (hF : F.fn 82) (hro : F.round = none) (hn : 1 ≤ n) (S : Nat → Prop) (n0 Bx : Nat) (w0 : World) (vb : Value) (Y : List (List ItD)) (hY : ItBls n0 w0 vb Y)
    (hc : At w0 Bx 4 vb) (hS : ∀ k, k < n0 → S k) (hB : S Bx) (hSw : ∀ k, S k → k < w0.heap.size) :
    SeqF F n Try.prog 82 #[.pointer (some ⟨Bx, 0, none⟩)] itE S Y.flatten w0 := by
  intro l J Jx W T0 hW hJ hJx hR h0
  have K0 : Kq S w0 W := Kq.below hW hSw
  obtain ⟨⟨b, o, ⟨⟨a, cap, rfl, h1, h2⟩, h3⟩, hk⟩, ix⟩ := hY
  replace hc := K0.at hB hc
  refine callsIn_of_wp Try.func82 rfl hF ?_ hro
  simp only [Try.ntmps82, List.size_toArray, List.length_cons, List.length_nil, Nat.reduceAdd, Nat.reduceSub, Array.replicate_succ, Array.replicate_zero, List.push_toArray, List.append_toArray, List.nil_append, List.cons_append]
  replace h2 := Kp.mk h2
  replace hk := Kp.mk hk
  replace ix := Kp.mk ix
  replace hR := Kp.mk hR
  replace hS := Kp.mk hS
  gi_wp2
  gi_loopw [10] (fun i wr => ∃ (k : Nat) (T : Nat → Prop), k ≤ Y.length ∧ i = .int .i64 k ∧ J (offY Y k) T wr ∧ Kq S W wr) (fun i _ => Y.length - (intOf i).toNat)
  case atStart => exact ⟨0, T0, Nat.zero_le _, rfl, h0, Kq.refl _ _⟩
  case round =>
    obtain ⟨k, T1, hkl, rfl, hJk, KW⟩ := hrel
    by_cases hlt : k < Y.length
    · obtain rfl := h2.out (by omega)
      obtain ⟨hb, vi, c0, hins⟩ := hk.out k hlt
      replace c0 := KW.at (hS.out _ hb) (K0.at (hS.out _ hb) c0)
      obtain ⟨⟨bi, oi, ⟨⟨ai, capi, rfl, i1, i2⟩, i3⟩, hi⟩⟩ := hins
      obtain ⟨ys, hys⟩ : ∃ ys, Kp (Y[k] = ys) := ⟨_, ⟨rfl⟩⟩
      rw [hys.out] at hi i3 i1 i2 c0
      have hR2 : Kp (∀ j (hj : j < ys.length) T W1, J (offY Y k + j) T W1 → W.heap.size ≤ W1.heap.size → YieldAt F (n - 1) Try.prog l #[.agg #[.int .i64 k, .int .i64 j], inV ys[j].d ys[j].va ys[j].vb ys[j].vw] W1 fun e W' =>
          ∃ T', Grew T T' W1 ∧ KdT S T W.heap.size W1 W' ∧ (e = Ending.returned (Value.bool true) ∧ J (offY Y k + (j + 1)) T' W' ∨ e = Ending.returned (Value.bool false) ∧ (∃ m, m < Y.flatten.length ∧ Jx (m + 1) T' W'))) := ⟨fun j hj T W1 hJ1 hs1 => by
        obtain ⟨q, e⟩ := flat_at Y k j hlt (by rw [hys.out]; exact hj)
        have r := hR.out _ q T W1 hJ1 hs1
        have x := ix.out k hlt j (by rw [hys.out]; exact hj)
        rw [e] at r
        simp only [hys.out] at x
        simp only [itE, hys.out, x.1, x.2] at r
        refine r.mono ?_
        rintro e w' ⟨T', g1, g2, (⟨h1, h2⟩ | ⟨h1, h2⟩)⟩
        · exact ⟨T', g1, g2, .inl ⟨h1, h2⟩⟩
        · exact ⟨T', g1, g2, .inr ⟨h1, _, q, h2⟩⟩⟩
      have hoff : Kp (offY Y (k + 1) = offY Y k + ys.length) := ⟨by rw [offY_succ Y k hlt, hys.out]⟩
      replace hi := Kp.mk hi
      replace i2 := Kp.mk i2
      replace c0 : At wr b (o + k) (.slice ai ys.length capi) := c0
      have HJ := Kp.mk hJk
      have hbl := Lib.lt_of_cell c0
      clear hR ix hk hys
      generalize offY Y k = O at *
      gi_wp2
      gi_loopw [18] (fun i wq => ∃ (j : Nat) (T : Nat → Prop), j ≤ ys.length ∧ i = .int .i64 j ∧ J (O + j) T wq ∧ Kq S W wq) (fun i _ => ys.length - (intOf i).toNat)
      case atStart =>
        exact ⟨0, T1, Nat.zero_le _, rfl, hJ.ab _ _ _ _ HJ.out KW.size (Kept.of_below (bel_alloc _ _) KW.size (hJ.lt _ _ _ HJ.out)), KW.trans (Kq.below (bel_alloc _ _) (fun k hk => by have := hSw k hk; have := hW.size; have := KW.size; omega))⟩
      case round =>
        obtain ⟨j, T2, hjl, rfl, hJj, KQ⟩ := hrel
        by_cases hlt2 : j < ys.length
        · obtain rfl := i2.out (by omega)
          obtain ⟨hb2, sh, c9⟩ := hi.out j hlt2
          replace c9 := KQ.i9 (hS.out _ hb2) (K0.i9 (hS.out _ hb2) c9)
          have hR3 := hR2.out j hlt2
          generalize ys[j] = y at *
          obtain ⟨yb, yi, d, va, vb, vw⟩ := y
          obtain ⟨⟨p1, m1, g1, rfl⟩, ⟨p2, m2, g2, rfl⟩, ⟨p3, m3, g3, rfl⟩⟩ := sh
          obtain ⟨q0, q1, q2, q3, q4, q5, q6, q7, q8⟩ := c9
          have hwl : W.heap.size ≤ wr.heap.size := KQ.size
          have hsl : ∀ k, S k → k < W.heap.size := fun k hk => by have := hSw k hk; have := hW.size; omega
          obtain ⟨fn, tmps, assign, body, hy, hRR⟩ := hR3 T2 (wr.alloc (Go.Obj.cells #[.int .i64 d.op, .int .i64 d.ty, .int .i64 d.fl, .int .i64 d.pr, .int .i64 d.ca, .int .i64 d.sz, .slice p1 m1 g1, .slice p2 m2 g2, .slice p3 m3 g3] 112))
            (hJ.ab _ _ _ _ hJj hwl (Kept.of_below (bel_alloc _ _) hwl (hJ.lt _ _ _ hJj))) (by simp; omega)
          have KA : Kq S W (wr.alloc (Go.Obj.cells #[.int .i64 d.op, .int .i64 d.ty, .int .i64 d.fl, .int .i64 d.pr, .int .i64 d.ca, .int .i64 d.sz, .slice p1 m1 g1, .slice p2 m2 g2, .slice p3 m3 g3] 112)) :=
            KQ.trans (Kq.below (bel_alloc _ _) (fun k hk => by have := hsl k hk; omega))
          dsimp only at hy
          gi_wp2
          refine hRR.mono ?_
          rintro e W3 ⟨T3, hg3, hk3, (⟨rfl, hJ3⟩ | ⟨rfl, ⟨m, hm, hJx3⟩⟩)⟩
          · gi_wp2
            exact ⟨⟨j + 1, T3, by omega, by go_num, hJ3, KA.trans hk3.kq⟩, by simp [intOf]; omega⟩
          · gi_wp2
            refine bodyPost_ret (results_none rfl _ _ _) rfl ?_
            exact ⟨⟨_, rfl⟩, T3, .inr ⟨m, hm, hJx3⟩⟩
        · obtain rfl : j = ys.length := by omega
          gi_wp2
          refine ⟨⟨k + 1, T2, by omega, by go_num, ?_, KQ⟩, by simp [intOf]; omega⟩
          rw [hoff.out]
          exact hJj
    · obtain rfl : k = Y.length := by omega
      gi_wp2
      go_end0
      exact ⟨⟨_, rfl⟩, T1, .inl (by rw [← offY_end]; exact hJk)⟩
end Go.Proofs.Ytbfpfjkjeekbdaa
namespace Go.Proofs.Ytbfpfjkjeekbdaa
open Go.ChangeShapes Go.WideShapes Go.ChangeAt Go.RowKit
attribute [local go_sem] Oper.semAt_some
set_option linter.unusedVariables false
set_option linter.unusedSimpArgs false
theorem KdT.setC {S S2 T : Nat → Prop} {L M : Nat} {A B : World} (h : KdT S T L A B) {b : Nat} (hLM : L ≤ M) (hS2 : ∀ k, S2 k → k ≠ b ∧ (S k ∨ (L ≤ k ∧ k < A.heap.size ∧ ¬ T k))) (hb : b < M) (v : Value) : KdT S2 T M A (B.setCell ⟨b, 0, none⟩ v) :=
  ⟨h.os, h.tape, h.output, by simpa [World.setCell] using h.size, fun k hk => (Below.heap_setCell _ _ _ _ (hS2 k hk).1).trans ((hS2 k hk).2.elim (h.low k) (fun q => h.high k q.1 q.2.1 q.2.2)), fun k hk hs hT => (Below.heap_setCell _ _ _ _ (show k ≠ b by omega)).trans (h.high k (by omega) hs hT)⟩
theorem KdT.wide {S S2 T : Nat → Prop} {L M : Nat} {A B : World} (h : KdT S T L A B) (hLM : L ≤ M) (hS2 : ∀ k, S2 k → S k ∨ (L ≤ k ∧ k < A.heap.size ∧ ¬ T k)) : KdT S2 T M A B :=
  ⟨h.os, h.tape, h.output, h.size, fun k hk => (hS2 k hk).elim (h.low k) (fun q => h.high k q.1 q.2.1 q.2.2), fun k hk hs hT => h.high k (by omega) hs hT⟩
theorem Kept.low' {B M : Nat} {T : Nat → Prop} {A C : World} (h : Kept M T A C) (hB : B ≤ M) : Kept B T A C := ⟨h.os, h.tape, h.output, h.size, fun k hk => h.low k (by omega), h.mine⟩
set_option maxRecDepth 100000 in
set_option maxHeartbeats 2000000 in
theorem defs_seqF (n : Nat) (S : Nat → Prop) (n0 Bf : Nat) (w0 : World) (name : ByteArray) (link res : Int) (vp vb : Value) (np : Nat) (hp : ∃ a c, vp = .slice a np c) (hb : ∃ a n c, vb = .slice a n c) (Y : List (List ItD)) (hY : ItBls n0 w0 vb Y)
    (hx : Below n0 w0 w0) (h0 : At w0 Bf 0 (.string name)) (h1 : At w0 Bf 1 (.int .i64 link)) (h2 : At w0 Bf 2 vp) (h3 : At w0 Bf 3 (.int .i64 res)) (h4 : At w0 Bf 4 vb) (hS : ∀ k, k < n0 → S k) (hB : S Bf) (hSw : ∀ k, S k → k < w0.heap.size)
    (hbd : np + Y.flatten.length ≤ 1099511627776) :
    SeqF Fence.wide n Try.prog 81 #[.pointer (some ⟨Bf, 0, none⟩)] dfE S (defL np Y.flatten) w0 := by
  intro l J Jx W T0 hW hJ hJx hR hJ0
  have hT0 := hJ.lt _ _ _ hJ0
  have K0 : Kq S w0 W := Kq.below hW hSw
  obtain ⟨a1, c1, rfl⟩ := hp
  obtain ⟨a2, n2, c2, rfl⟩ := hb
  replace h0 := K0.at hB h0
  replace h1 := K0.at hB h1
  replace h2 := K0.at hB h2
  replace h3 := K0.at hB h3
  replace h4 := K0.at hB h4
  replace hY := Kp.mk hY
  replace hR := Kp.mk hR
  replace hS := Kp.mk hS
  refine callsIn_wide.2 ((callsIn_wide (n := 9)).1 ?_)
  refine callsIn_of_wp_marks Try.func81 rfl trivial ?_ rfl
  simp only [Try.ntmps81, List.size_toArray, List.length_cons, List.length_nil, Nat.reduceAdd, Nat.reduceSub, Array.replicate_succ, Array.replicate_zero, List.push_toArray, List.append_toArray, List.nil_append, List.cons_append]
  have C : Kp (∀ w, CallsIn Fence.wide 8 Try.prog _ _ w _) := ⟨fun w => callsIn_wide.2 (instrsOf_c name link res (.slice a1 np c1) (.slice a2 n2 c2) ⟨_, _, _, rfl⟩ ⟨_, _, _, rfl⟩ w)⟩
  have q2 := at_keep h2 (bel_alloc W (Go.Obj.cells #[.func (.yield l) #[] #[]] 105))
  have hW2 : Below W.heap.size W ((W.alloc (Go.Obj.cells #[.func (.yield l) #[] #[]] 105)).alloc (Go.Obj.cells #[.int .i64 np] 2)) := bel_trans (bel_alloc _ _) (bel_alloc _ _)
  replace h0 := at_keep h0 hW2
  replace h1 := at_keep h1 hW2
  replace h2 := at_keep h2 hW2
  replace h3 := at_keep h3 hW2
  replace h4 := at_keep h4 hW2
  gi_wp2
  refine ⟨trivial, ?_⟩
  refine (C.out _).mono ?_
  rintro e w' ⟨rfl, rfl⟩
  obtain ⟨W3, hW3⟩ : ∃ W3, W3 = ((W.alloc (Go.Obj.cells #[.func (.yield l) #[] #[]] 105)).alloc (Go.Obj.cells #[.int .i64 np] 2)).alloc (Go.Obj.cells #[.string name, .int .i64 link, .slice a1 np c1, .int .i64 res, .slice a2 n2 c2] 30) := ⟨_, rfl⟩
  have hz3 : W3.heap.size = W.heap.size + 3 := by rw [hW3]; simp
  have hB3 : Below W.heap.size W W3 := by rw [hW3]; exact bel_trans hW2 (bel_alloc _ _)
  have y0 : W3.heap[W.heap.size]? = some (Go.Obj.cells #[.func (.yield l) #[] #[]] 105 (0, 0)) := by
    rw [hW3, (MapKept.heap_alloc _ _).2 _ (by simp; omega), (MapKept.heap_alloc _ _).2 _ (by simp)]; exact (MapKept.heap_alloc W _).1
  have v0 : W3.heap[W.heap.size + 1]? = some (Go.Obj.cells #[.int .i64 np] 2 (0, 0)) := by
    rw [hW3, (MapKept.heap_alloc _ _).2 _ (by simp)]
    have := (MapKept.heap_alloc (W.alloc (Go.Obj.cells #[.func (.yield l) #[] #[]] 105)) (Go.Obj.cells #[.int .i64 np] 2)).1
    rwa [World.size_alloc] at this
  have f4 : At W3 (W.heap.size + 2) 4 (.slice a2 n2 c2) := by
    have := al_at ((W.alloc (Go.Obj.cells #[.func (.yield l) #[] #[]] 105)).alloc (Go.Obj.cells #[.int .i64 np] 2)) #[.string name, .int .i64 link, .slice a1 np c1, .int .i64 res, .slice a2 n2 c2] 30 (j := 4) (v := .slice a2 n2 c2) rfl
    rw [hW3]
    simpa using this
  simp only [World.size_alloc] at *
  rw [← hW3]
  clear hW3 q2 hW2 h0 h1 h2 h3 h4 C
  have hsW : ∀ k, S k → k < W.heap.size := fun k hk => by have := hSw k hk; have := hW.size; omega
  have KW3 : Kq S W W3 := Kq.below hB3 hsW
  have hY3 := hY.out.kq (K0.trans KW3) hS.out
  obtain ⟨S2, hS2⟩ : ∃ S2 : Nat → Prop, S2 = fun k => S k ∨ k = W.heap.size + 1 + 1 := ⟨_, rfl⟩
  have hs2 : ∀ k, S2 k → k < W3.heap.size := fun k hk => by
    rw [hS2] at hk
    rcases hk with hk | hk
    · have := hsW k hk; omega
    · omega
  have L0 : Kp (defL np Y.flatten = defL np Y.flatten) := ⟨rfl⟩
  gi_wp2
  refine wpIn_rangeF rfl (by decide) (gf := 82) (lb := #[.pointer (some ⟨W.heap.size + 1 + 1, 0, none⟩)]) rfl trivial (enters_of Try.func82 (by kernel_rfl) rfl)
    (instrs_seqF Fence.wide (9 - 1) trivial rfl (by decide) S2 n0 (W.heap.size + 1 + 1) W3 (.slice a2 n2 c2) Y hY3 f4 (fun k hk => by rw [hS2]; exact .inl (hS.out k hk)) (by rw [hS2]; exact .inr rfl) hs2) (Below.refl _ _) hs2 (fun _ => rfl)
    (fun k T X => J (cntD (Y.flatten.take k)) T X ∧ X.heap[W.heap.size]? = some (Go.Obj.cells #[.func (.yield l) #[] #[]] 105 (0, 0)) ∧ X.heap[W.heap.size + 1]? = some (Go.Obj.cells #[.int .i64 (np + cntD (Y.flatten.take k) : Nat)] 2 (0, 0)) ∧ Kq S W X ∧ ∀ b, T b → b < W.heap.size ∨ W.heap.size + 3 ≤ b)
    (fun c k T X => c = .ret ∧ ∃ m, m < (defL np Y.flatten).length ∧ Jx (m + 1) T X) ?hI ?hIx T0 ?h0
    (fun x a' X => ∃ B1 B2, W3.heap.size ≤ B1 ∧ W3.heap.size ≤ B2 ∧ X.heap[B1]? = some (Go.Obj.cells #[.int .i64 x.b, .int .i64 x.i] 82 (0, 0)) ∧ At X B2 1 (.int .i64 x.d.ty) ∧ ∃ u11 u12,
      a' = { tmps := #[.func (.yield l) #[] #[], .pointer (some ⟨Bf, 0, none⟩), .pointer (some ⟨W.heap.size, 0, none⟩), .pointer (some ⟨W.heap.size + 1, 0, none⟩), .pointer (some ⟨B1, 0, none⟩), .pointer (some ⟨B2, 0, none⟩), .pointer (some ⟨Bf, 2, none⟩), .slice a1 np c1, .int .i64 np,
        .agg #[.string name, .int .i64 link, .slice a1 np c1, .int .i64 res, .slice a2 n2 c2], .func (.func 82) #[] #[.pointer (some ⟨W.heap.size + 1 + 1, 0, none⟩)], u11, u12, undef, undef, undef, undef, undef, undef, undef, undef, undef, undef], defers := [] }) ?hAx ?assign ?body ?done ?stop
  case hI =>
    refine ⟨?_, fun k T A h => hJ.lt _ _ _ h.1⟩
    rintro k T A C ⟨s1, s2, s3, s4, s5⟩ hA hB
    exact ⟨hJ.ab _ _ A C s1 (by omega) (hB.low' (by omega)), (hB.low _ (by omega)).trans s2, (hB.low _ (by omega)).trans s3, s4.trans ⟨hB.size, fun j hj => hB.low j (by have := hsW j hj; omega)⟩, s5⟩
  case hIx =>
    intro c
    refine ⟨?_, fun k T A h => by obtain ⟨-, m, -, h⟩ := h; exact hJx.lt _ _ _ h⟩
    rintro k T A C ⟨s1, m, s2, s3⟩ hA hB
    exact ⟨s1, m, s2, hJx.ab (m + 1) _ A C s3 (by omega) (hB.low' (by omega))⟩
  case h0 => exact ⟨hJ.ab 0 T0 W W3 hJ0 (Nat.le_refl _) (Kept.of_below hB3 (Nat.le_refl _) hT0), y0, by simpa [cntD] using v0, KW3, fun b hb => .inl (hT0 b hb)⟩
  case hAx =>
    rintro x a' u A C row ⟨B1, B2, b1, b2, p1, p2, p3⟩ hg hr
    refine ⟨B1, B2, b1, b2, (hg.block B1 (Array.getElem?_eq_some_iff.1 p1).1 (fun e => ?_)).trans p1, cell_kept p2 hg (fun r e => (hr r e).2), p3⟩
    obtain ⟨-, o, ho, hc⟩ := hr B1 e.symm
    rw [p1] at ho
    cases ho
    cases hc
  case assign =>
    intro lr k hk X K hX hK
    have sh := hY.out.sh (List.getElem_mem hk)
    generalize Y.flatten[k] = y at *
    obtain ⟨yb, yi, d, va, vb, vw⟩ := y
    obtain ⟨⟨p1, m1, g1, rfl⟩, ⟨p2, m2, g2, rfl⟩, ⟨p3, m3, g3, rfl⟩⟩ := sh
    simp only [itE, List.zip_toArray, List.zip_cons_cons, List.zip_nil_right, List.foldl_toArray', List.foldl_cons, List.foldl_nil, List.setIfInBounds_toArray, List.set_cons_succ, List.set_cons_zero, Array.zip, List.toList_toArray]
    gi_wp2
    refine hK _ _ (bel_trans (bel_alloc _ _) (bel_alloc _ _)) ⟨X.heap.size, X.heap.size + 1, hX, by omega, ?_, ?_, _, _, rfl⟩
    · rw [(MapKept.heap_alloc _ _).2 _ (by simp)]; exact (MapKept.heap_alloc X _).1
    · have := al_at (X.alloc (Go.Obj.cells #[.int .i64 yb, .int .i64 yi] 82)) #[.int .i64 d.op, .int .i64 d.ty, .int .i64 d.fl, .int .i64 d.pr, .int .i64 d.ca, .int .i64 d.sz, .slice p1 m1 g1, .slice p2 m2 g2, .slice p3 m3 g3] 112 (j := 1) (v := .int .i64 d.ty) rfl
      simpa using this
  case body =>
    rintro lr k hk a' T X hX ⟨i1, i2, i3, i4, i5⟩ ⟨B1, B2, b1, b2, p1, p2, u11, u12, rfl⟩
    have hcb : X.cell? ⟨W.heap.size, 0, none⟩ = some (.func (.yield l) #[] #[]) := by simp [World.cell?, i2]
    have hcv : X.cell? ⟨W.heap.size + 1, 0, none⟩ = some (.int .i64 (np + cntD (Y.flatten.take k) : Nat)) := by simp [World.cell?, i3]
    have hp0 : X.cell? ⟨B1, 0, none⟩ = some (.int .i64 Y.flatten[k].b) := by simp [World.cell?, p1]
    have hp1 : X.cell? ⟨B1, 1, none⟩ = some (.int .i64 Y.flatten[k].i) := by simp [World.cell?, p1]
    have hct := cnt_take Y.flatten k hk
    have hle := cnt_le Y.flatten k
    by_cases ht : Y.flatten[k].d.ty = 0
    · rw [ht] at p2
      rw [if_pos ht, Nat.add_zero] at hct
      replace hct := Kp.mk hct
      gi_wp2
      exact ⟨T, fun _ h => .inl h, KdT.refl _ _ _ _, by rw [hct.out]; exact i1, i2, by rw [hct.out]; exact i3, i4, i5⟩
    · obtain ⟨hq, hdf⟩ := defL_at np Y.flatten k hk ht
      have hR2 := hR.out _ hq T X i1 (by omega)
      rw [hdf] at hR2
      rw [if_neg ht] at hct
      have hb0 : (Y.flatten[k].d.ty == 0) = false := beq_eq_false_iff_ne.2 ht
      replace hct := Kp.mk hct
      replace hq := Kp.mk hq
      clear hdf ht
      generalize Y.flatten[k] = y at *
      generalize cntD (Y.flatten.take k) = m at *
      obtain ⟨fn, tmps, assign, body, hy, hRR⟩ := yield_any rfl 6 hR2
      dsimp only [dfE] at hy
      have hzX : W.heap.size + 1 < X.heap.size := by omega
      gi_wp2
      refine RoundIn.mono (show RoundIn (Fence.wide.inRound lr) 6 _ _ _ _ _ _ _ _ from hRR) ?_
      have nT : ¬ T W.heap.size ∧ ¬ T (W.heap.size + 1) ∧ ¬ T (W.heap.size + 1 + 1) := ⟨fun q => by rcases i5 _ q with q | q <;> omega, fun q => by rcases i5 _ q with q | q <;> omega, fun q => by rcases i5 _ q with q | q <;> omega⟩
      rintro e X3 ⟨T3, hg3, hk3, (⟨rfl, hJ3⟩ | ⟨rfl, hJx3⟩)⟩
      · have j2 : X3.heap[W.heap.size]? = _ := (hk3.high W.heap.size (Nat.le_refl _) (by omega) nT.1).trans i2
        have j3 : X3.heap[W.heap.size + 1]? = _ := (hk3.high (W.heap.size + 1) (by omega) (by omega) nT.2.1).trans i3
        have hcv3 : X3.cell? ⟨W.heap.size + 1, 0, none⟩ = some (.int .i64 (np + m : Nat)) := by simp [World.cell?, j3]
        have hfv3 : X3.frozen? ⟨W.heap.size + 1, 0, none⟩ = false := by simp [World.frozen?, j3]
        have i5' : ∀ b, T3 b → b < W.heap.size ∨ W.heap.size + 3 ≤ b := fun b hb => by
          rcases hg3 b hb with q | q
          · exact i5 b q
          · exact .inr (by omega)
        replace i5 := Kp.mk i5
        replace i5' := Kp.mk i5'
        replace nT := Kp.mk nT
        replace hg3 := Kp.mk hg3
        gi_wp2
        refine ⟨T3, hg3.out, ?_, ?_, ?_, ?_, ?_, i5'.out⟩
        · exact hk3.setC (M := W3.heap.size) (by omega) (fun j hj => by
            rw [hS2] at hj
            rcases hj with hj | hj
            · exact ⟨by have := hsW _ hj; omega, .inl hj⟩
            · exact ⟨by omega, .inr ⟨by omega, by omega, by rw [hj]; exact nT.out.2.2⟩⟩) (by omega) _
        · rw [hct.out]
          exact hJ.ab _ _ _ _ hJ3 (by have := hk3.size; omega) ⟨rfl, rfl, rfl, by simp [World.setCell], fun k hk => Below.heap_setCell _ _ _ _ (show k ≠ W.heap.size + 1 by omega), fun k hk => Below.heap_setCell _ _ _ _ (show k ≠ W.heap.size + 1 from fun e => by rcases i5'.out _ (e ▸ hk) with q | q <;> omega)⟩
        · exact (Below.heap_setCell _ _ _ _ (by simp)).trans j2
        · rw [hct.out, ← Nat.add_assoc]
          have := Boxed.set (.int .i64 ((np : Int) + m + 1)) (show Boxed X3 (W.heap.size + 1) _ _ from j3)
          simpa [Boxed] using this
        · exact i4.trans (hk3.kq.trans (Kq.below (bel_set (Below.refl W.heap.size _) (by omega) _) hsW))
      · gi_wp2
        refine ⟨T3, hg3, ?_, rfl, m, hq.out, hJx3⟩
        exact hk3.wide (M := W3.heap.size) (by omega) (fun j hj => by
            rw [hS2] at hj
            rcases hj with hj | hj
            · exact .inl hj
            · exact .inr ⟨by omega, by omega, by rw [hj]; exact nT.2.2⟩)
  case done =>
    rintro D T X hD ⟨i1, i2, i3, i4, i5⟩ hK hnT
    rw [List.take_length, ← defL_len np Y.flatten] at i1
    gi_wp2
    refine ⟨by simp, .inl ⟨_, _, rfl, run_takeDeferred hK, ?_⟩⟩
    refine ⟨_, results_none rfl _ _ _, ⟨_, rfl⟩, T, .inl ?_⟩
    have hDl := (Array.getElem?_eq_some_iff.1 hK).1
    exact hJ.ab _ _ _ _ i1 (by omega) (Kept.putObj _ _ (by omega) hnT (hJ.lt _ _ _ i1) (by omega))
  case stop =>
    rintro D c k T X hD hk ⟨rfl, m, hm, hx⟩ hK hnT
    gi_wp2
    refine ⟨by simp, .inl ⟨_, _, rfl, run_takeDeferred hK, ?_⟩⟩
    refine ⟨_, results_none rfl _ _ _, ⟨_, rfl⟩, T, .inr ⟨m, hm, ?_⟩⟩
    have hDl := (Array.getElem?_eq_some_iff.1 hK).1
    exact hJx.ab _ _ _ _ hx (by omega) (Kept.putObj _ _ (by omega) hnT (hJx.lt _ _ _ hx) (by omega))
end Go.Proofs.Ytbfpfjkjeekbdaa
