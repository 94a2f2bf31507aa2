/- Contracts of the laws' helpers that copy the instructions of a block, a block, the blocks, a function. -/
import Derived.Test.YtbfpfjkjeekbdaaDp5
namespace Go.Proofs.Ytbfpfjkjeekbdaa
open Go.ChangeShapes Go.WideShapes Go.ChangeAt Go.RowKit
set_option linter.unusedVariables false
set_option linter.unusedSimpArgs false
theorem insN_of (xs : List InD) : (∀ i (h : i < xs.length), inN xs[i] ≤ insN xs) ∧ 0 ≤ insN xs := by
  induction xs with
  | nil => exact ⟨fun i h => absurd h (Nat.not_lt_zero _), Int.le_refl _⟩
  | cons x r ih =>
    have e : insN (x :: r) = inN x + insN r := by simp [insN]
    have := inN_nn x
    have := ih.2
    refine ⟨fun i h => ?_, by omega⟩
    cases i with
    | zero => simp only [List.getElem_cons_zero]; omega
    | succ i => simp only [List.getElem_cons_succ]; have := ih.1 i (by simpa using h); omega
theorem InV.shape {lo : Nat} {w : World} {va vb vw : Value} {d : InD} (h : InV lo w va vb vw d) : ∃ a1 k1 a2 k2 a3 k3, va = .slice a1 d.args.length k1 ∧ vb = .slice a2 d.bl.length k2 ∧ vw = .slice a3 d.ws.length k3 := by
  obtain ⟨_, _, s1, -, -⟩ := h.a.ex
  obtain ⟨_, _, s2, -, -⟩ := h.b.ex
  obtain ⟨_, _, s3, -, -⟩ := h.c.ex
  obtain ⟨a1, k1, e1, -, -⟩ := s1.ex
  obtain ⟨a2, k2, e2, -, -⟩ := s2.ex
  obtain ⟨a3, k3, e3, -, -⟩ := s3.ex
  exact ⟨a1, k1, a2, k2, a3, k3, e1, e2, e3⟩
set_option maxRecDepth 100000 in
set_option maxHeartbeats 2000000 in
theorem toInss (v : Value) (xs : List InD) (w : World) {lo : Nat} (h : Ins lo w v xs) (hn : blN xs ≤ 1048576) :
    Calls Try.prog 69 #[v] w fun e w' => ∃ v', e = .returned v' ∧ Ins w.heap.size w' v' xs ∧ Below w.heap.size w w' ∧ Unf w.heap.size w' := by
  obtain ⟨b, o, ⟨⟨a, cap, rfl, h1, h2⟩, h3⟩, -, hc⟩ := h.ex
  unfold blN at hn
  have Hn := insN_of xs
  have hnn := Hn.2
  have hN : Kp (∀ i (h : i < xs.length), inN xs[i] ≤ 1048576) := ⟨fun i h => by have := Hn.1 i h; omega⟩
  have g1 : (xs.length : Int) ≤ 1048576 := by omega
  clear Hn hn hnn
  obtain ⟨O, hmk, hrw⟩ := mk_row 89 112 (.agg #[.int .i64 0, .int .i64 0, .int .i64 0, .int .i64 0, .int .i64 0, .int .i64 0, .slice none 0 0, .slice none 0 0, .slice none 0 0]) 9 120 Try.underlying89 (by kernel_rfl) xs.length (by omega) (by omega)
  have HR : Kp (∀ W : World, Rw (W.alloc O) W.heap.size (xs.length * 9)) := ⟨hrw⟩
  clear hrw
  go_enter Try.func69, Try.ntmps69
  go_wp2_with fail
  go_loopw [4] (fun s wr => ∃ i : Nat, i ≤ xs.length ∧ s = .int .i64 i ∧ Below w.heap.size w wr ∧ Unf w.heap.size wr ∧ Rw wr w.heap.size (xs.length * 9) ∧ ∀ j (hj : j < xs.length), j < i → ∃ va vb vw, InAt (w.heap.size + 1) wr w.heap.size (j * 9) xs[j] va vb vw) (fun s _ => xs.length - (intOf s).toNat)
  case atStart => exact ⟨0, Nat.zero_le _, rfl, bel_alloc _ _, Unf.new (HR.out w), HR.out w, fun j _ hj => absurd hj (Nat.not_lt_zero _)⟩
  case round =>
    obtain ⟨i, hi, rfl, hB, hU, hR, hd⟩ := hrel
    have HD : Kp _ := ⟨hd⟩
    clear hd
    by_cases hlt : i < xs.length
    · have ha := h2 (by omega)
      subst ha
      obtain ⟨va, vb, vw, hq⟩ := hc i hlt
      have hl := Kp.mk hlt
      have nd := hN.out i hlt
      obtain ⟨c0, c1, c2, c3, c4, c5, c6, c7, c8, hv⟩ := hq.keep hB
      clear hq
      obtain ⟨d, hd⟩ : ∃ d, Kp (xs[i] = d) := ⟨_, ⟨rfl⟩⟩
      rw [hd.out] at c0 c1 c2 c3 c4 c5 hv nd
      obtain ⟨a1, k1, a2, k2, a3, k3, rfl, rfl, rfl⟩ := hv.shape
      have hV := Kp.mk (toIn d _ _ _ wr hv nd)
      clear hc hv nd
      go_wp2_with fail
      refine hV.out.mono ?_
      rintro e w1 ⟨va', vb', vw', rfl, hv, hb1, hu1⟩
      have hU1 := hU.call hb1 hu1
      obtain ⟨a1', k1', a2', k2', a3', k3', rfl, rfl, rfl⟩ := hv.shape
      have HV := Kp.mk hv
      have hR1 := hR.keep hb1
      clear hv hV c0 c1 c2 c3 c4 c5 c6 c7 c8
      obtain ⟨_, z0, f0⟩ := hR1.at (j := i * 9) (by omega)
      obtain ⟨_, z1, f1⟩ := hR1.at (j := i * 9 + 1) (by omega)
      obtain ⟨_, z2, f2⟩ := hR1.at (j := i * 9 + 2) (by omega)
      obtain ⟨_, z3, f3⟩ := hR1.at (j := i * 9 + 3) (by omega)
      obtain ⟨_, z4, f4⟩ := hR1.at (j := i * 9 + 4) (by omega)
      obtain ⟨_, z5, f5⟩ := hR1.at (j := i * 9 + 5) (by omega)
      obtain ⟨_, z6, f6⟩ := hR1.at (j := i * 9 + 6) (by omega)
      obtain ⟨_, z7, f7⟩ := hR1.at (j := i * 9 + 7) (by omega)
      obtain ⟨_, z8, f8⟩ := hR1.at (j := i * 9 + 8) (by omega)
      go_wp2_with fail
      have P := put9 hR1 (i := i * 9) (by omega) (.int .i64 d.op) (.int .i64 d.ty) (.int .i64 d.fl) (.int .i64 d.pr) (.int .i64 d.ca) (.int .i64 d.sz) (.slice a1' d.args.length k1') (.slice a2' d.bl.length k2') (.slice a3' d.ws.length k3')
      have hlr := hR.lt
      refine ⟨⟨i + 1, by omega, by go_num, ?_, ((((((((hU1.set _ _ _).set _ _ _).set _ _ _).set _ _ _).set _ _ _).set _ _ _).set _ _ _).set _ _ _).set _ _ _, P.2.1, fun j hj hji => ?_⟩, by simp [intOf]; omega⟩
      · have l := Nat.le_refl w.heap.size
        have PB := bel_trans hB hb1
        exact bel_set (bel_set (bel_set (bel_set (bel_set (bel_set (bel_set (bel_set (bel_set PB l _) l _) l _) l _) l _) l _) l _) l _) l _
      · by_cases e : j = i
        · subst e
          rw [hd.out]
          obtain ⟨p0, p1, p2, p3, p4, p5, p6, p7, p8⟩ := P.1
          exact ⟨_, _, _, p0, p1, p2, p3, p4, p5, p6, p7, p8, HV.out.mono (by omega) (fun b o v l q => P.2.2 b o v q (by omega))⟩
        · obtain ⟨ua, ub, uw, q⟩ := HD.out j hj (by omega)
          have q := q.keep hb1
          exact ⟨_, _, _, P.2.2 _ _ _ q.c0 (by omega), P.2.2 _ _ _ q.c1 (by omega), P.2.2 _ _ _ q.c2 (by omega), P.2.2 _ _ _ q.c3 (by omega), P.2.2 _ _ _ q.c4 (by omega), P.2.2 _ _ _ q.c5 (by omega), P.2.2 _ _ _ q.c6 (by omega), P.2.2 _ _ _ q.c7 (by omega), P.2.2 _ _ _ q.c8 (by omega), q.l.mono (Nat.le_refl _) (fun b o v l q => P.2.2 b o v q (by omega))⟩
    · clear h2 hc hmk
      go_wp2_with fail
      go_ret
      exact ⟨_, rfl, ⟨w.heap.size, 0, ⟨⟨_, _, rfl, Nat.le_refl _, fun _ => rfl⟩, h3⟩, Nat.le_refl _, fun j hj => by
        rw [Nat.zero_add]
        obtain ⟨va, vb, vw, q⟩ := HD.out j hj (by omega)
        exact ⟨va, vb, vw, q.c0, q.c1, q.c2, q.c3, q.c4, q.c5, q.c6, q.c7, q.c8, q.l.mono (by omega) (fun _ _ _ _ h => h)⟩⟩, hB, hU⟩
end Go.Proofs.Ytbfpfjkjeekbdaa
