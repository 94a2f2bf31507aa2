/- The program's look whether a block dominates another one. -/
import Derived.Test.YtbfpfjkjeekbdaaRn1
import Derived.BigQuiet
import Derived.Lib.QuietBelow
namespace Go.Proofs.Ytbfpfjkjeekbdaa
open Go.ChangeShapes Go.WideShapes Go.ChangeAt Go.RowKit
set_option linter.unusedVariables false
set_option linter.unusedSimpArgs false
/-- The program comes to a block. -/
def isC (num : Nat → Int) (nb : Nat) (t : Int) : Bool := decide (0 ≤ t) && decide (t < (nb : Int)) && decide (0 ≤ num t.toNat)
set_option maxRecDepth 100000 in
set_option maxHeartbeats 2000000 in
theorem comesI (a1 a2 : Option Addr) (n1 c1 n2 c2 b3 nb c3 : Nat) (num : Nat → Int) (t : Int) (w : World) (h : RowI w b3 nb num) (hn : nb ≤ 1048576) :
    Calls Try.prog 46 #[.agg #[.slice a1 n1 c1, .slice a2 n2 c2, .slice (some ⟨b3, 0, none⟩) nb c3], .int .i64 t] w fun e w' => e = .returned (.bool (isC num nb t)) ∧ Below w.heap.size w w' := by
  have CI : Kp (∀ w, Calls Try.prog 43 #[.int .i64 t, .int .i64 nb] w _) := ⟨fun w => isIx t nb w⟩
  by_cases h09 : 0 ≤ t ∧ t < nb
  · obtain ⟨h0, h1⟩ := h09
    obtain ⟨k, rfl⟩ : ∃ k : Nat, t = k := ⟨t.toNat, by omega⟩
    have hI : Kp (∀ w, Calls Try.prog 43 #[.int .i64 (k : Int), .int .i64 nb] w fun e w' => e = .returned (.bool true) ∧ w' = w) := ⟨fun w => by
      have := CI.out w
      rwa [show (decide (0 ≤ (k : Int)) && decide ((k : Int) < (nb : Int))) = true by simp; omega] at this⟩
    have hc := at_keep (h.at (i := k) (by omega)) (bel_alloc w (Go.Obj.cells #[.slice a1 n1 c1, .slice a2 n2 c2, .slice (some ⟨b3, 0, none⟩) nb c3] 56))
    have he : isC num nb (k : Int) = decide (0 ≤ num k) := by
      unfold isC
      rw [show (decide (0 ≤ (k : Int)) && decide ((k : Int) < (nb : Int))) = true by simp; omega, Bool.true_and, Int.toNat_natCast]
    rw [he]
    generalize num k = x at *
    clear CI h he
    go_enter Try.func46, Try.ntmps46
    go_wp2_with fail
    refine (hI.out _).mono ?_
    rintro e w2 ⟨rfl, rfl⟩
    go_wp2_with fail
    go_ret
    exact ⟨rfl, bel_alloc _ _⟩
  · have hf : (decide (0 ≤ t) && decide (t < (nb : Int))) = false := by
      rw [Bool.eq_false_iff]
      intro q
      simp only [Bool.and_eq_true, decide_eq_true_eq] at q
      exact h09 q
    have hI : Kp (∀ w, Calls Try.prog 43 #[.int .i64 t, .int .i64 nb] w fun e w' => e = .returned (.bool false) ∧ w' = w) := ⟨fun w => by
      have := CI.out w
      rwa [hf] at this⟩
    have he : isC num nb t = false := by unfold isC; rw [hf, Bool.false_and]
    rw [he]
    clear CI h he hf
    go_enter Try.func46, Try.ntmps46
    go_wp2_with fail
    refine (hI.out _).mono ?_
    rintro e w2 ⟨rfl, rfl⟩
    go_wp2_with fail
    go_ret
    exact ⟨rfl, bel_alloc _ _⟩
/-- What dominance is made of: rows from lo on. -/
structure Domi (w : World) (lo nb M : Nat) (num arr fr ab st sz : Nat → Int) (v : Value) : Prop where
  ex : ∃ b1 b2 b3 b4 b5 b6 c1 c2 c3 c4 c5 c6 : Nat, v = .agg #[.slice (some ⟨b1, 0, none⟩) M c1, .slice (some ⟨b2, 0, none⟩) M c2, .slice (some ⟨b3, 0, none⟩) nb c3, .slice (some ⟨b4, 0, none⟩) M c4, .slice (some ⟨b5, 0, none⟩) M c5, .slice (some ⟨b6, 0, none⟩) M c6] ∧
    RowI w b1 M arr ∧ RowI w b2 M fr ∧ RowI w b3 nb num ∧ RowI w b4 M ab ∧ RowI w b5 M st ∧ RowI w b6 M sz ∧ M ≤ c1
theorem Domi.keep {w w' : World} {lo nb M : Nat} {num arr fr ab st sz : Nat → Int} {v : Value} (h : Domi w lo nb M num arr fr ab st sz v) (hb : Below w.heap.size w w') : Domi w' lo nb M num arr fr ab st sz v := by
  obtain ⟨b1, b2, b3, b4, b5, b6, c1, c2, c3, c4, c5, c6, e, h1, h2, h3, h4, h5, h6, h7⟩ := h.ex
  exact ⟨b1, b2, b3, b4, b5, b6, c1, c2, c3, c4, c5, c6, e, h1.keep hb, h2.keep hb, h3.keep hb, h4.keep hb, h5.keep hb, h6.keep hb, h7⟩
/-- Whether a dominates b, as the program reckons it. -/
def holdB (num st sz : Nat → Int) (nb : Nat) (a b : Int) : Bool := isC num nb a && (isC num nb b && (decide (0 ≤ st (num b.toNat).toNat - st (num a.toNat).toNat) && decide (st (num b.toNat).toNat - st (num a.toNat).toNat < sz (num a.toNat).toNat)))
theorem isC_true {num : Nat → Int} {nb : Nat} {t : Int} (h : isC num nb t = true) : ∃ k : Nat, t = k ∧ k < nb ∧ 0 ≤ num k := by
  unfold isC at h
  simp only [Bool.and_eq_true, decide_eq_true_eq] at h
  obtain ⟨⟨h0, h1⟩, h2⟩ := h
  obtain ⟨k, rfl⟩ : ∃ k : Nat, t = k := ⟨t.toNat, by omega⟩
  exact ⟨k, rfl, by omega, by simpa using h2⟩
set_option maxRecDepth 100000 in
set_option maxHeartbeats 8000000 in
theorem holdsI (lo nb M : Nat) (num arr fr ab st sz : Nat → Int) (v : Value) (a b : Int) (w : World) (h : Domi w lo nb M num arr fr ab st sz v) (hn : nb ≤ 1048576) (hM : M ≤ 1048576) (hnum : ∀ k, k < nb → num k < M)
    (hst : ∀ k, k < M → 0 ≤ st k ∧ st k ≤ 1048576) :
    Calls Try.prog 31 #[v, .int .i64 a, .int .i64 b] w fun e w' => e = .returned (.bool (holdB num st sz nb a b)) ∧ Below w.heap.size w w' := by
  obtain ⟨b1, b2, b3, b4, b5, b6, c1, c2, c3, c4, c5, c6, rfl, -, -, h3, -, h5, h6, -⟩ := h.ex
  clear h
  obtain ⟨W0, hW⟩ : ∃ W0, Kp (W0 = w.alloc (Go.Obj.cells #[.slice (some ⟨b1, 0, none⟩) M c1, .slice (some ⟨b2, 0, none⟩) M c2, .slice (some ⟨b3, 0, none⟩) nb c3, .slice (some ⟨b4, 0, none⟩) M c4, .slice (some ⟨b5, 0, none⟩) M c5, .slice (some ⟨b6, 0, none⟩) M c6] 58)) := ⟨_, ⟨rfl⟩⟩
  have hB0 : Below w.heap.size w W0 := by rw [hW.out]; exact bel_alloc _ _
  have hx0 : W0.heap[w.heap.size]? = some (Go.Obj.cells #[.slice (some ⟨b1, 0, none⟩) M c1, .slice (some ⟨b2, 0, none⟩) M c2, .slice (some ⟨b3, 0, none⟩) nb c3, .slice (some ⟨b4, 0, none⟩) M c4, .slice (some ⟨b5, 0, none⟩) M c5, .slice (some ⟨b6, 0, none⟩) M c6] 58 (0, 0)) := by rw [hW.out]; exact new_cells w _
  have XC : Kp (∀ W : World, W.heap[w.heap.size]? = some (Go.Obj.cells #[.slice (some ⟨b1, 0, none⟩) M c1, .slice (some ⟨b2, 0, none⟩) M c2, .slice (some ⟨b3, 0, none⟩) nb c3, .slice (some ⟨b4, 0, none⟩) M c4, .slice (some ⟨b5, 0, none⟩) M c5, .slice (some ⟨b6, 0, none⟩) M c6] 58 (0, 0)) →
      W.cell? ⟨w.heap.size, 0, none⟩ = some (.slice (some ⟨b1, 0, none⟩) M c1) ∧ W.cell? ⟨w.heap.size, 1, none⟩ = some (.slice (some ⟨b2, 0, none⟩) M c2) ∧ W.cell? ⟨w.heap.size, 2, none⟩ = some (.slice (some ⟨b3, 0, none⟩) nb c3) ∧ W.cell? ⟨w.heap.size, 4, none⟩ = some (.slice (some ⟨b5, 0, none⟩) M c5) ∧ W.cell? ⟨w.heap.size, 5, none⟩ = some (.slice (some ⟨b6, 0, none⟩) M c6)) := ⟨fun W h => ⟨at_cells h rfl, at_cells h rfl, at_cells h rfl, at_cells h rfl, at_cells h rfl⟩⟩
  have CC : Kp (∀ W t, RowI W b3 nb num → Calls Try.prog 46 #[.agg #[.slice (some ⟨b1, 0, none⟩) M c1, .slice (some ⟨b2, 0, none⟩) M c2, .slice (some ⟨b3, 0, none⟩) nb c3], .int .i64 t] W fun e w' => e = .returned (.bool (isC num nb t)) ∧ Below W.heap.size W w') := ⟨fun W t h => comesI _ _ _ _ _ _ b3 nb c3 num t W h hn⟩
  have CI : Kp (∀ (x y : Int) w, Calls Try.prog 43 #[.int .i64 x, .int .i64 y] w fun e w' => e = .returned (.bool (decide (0 ≤ x) && decide (x < y))) ∧ w' = w) := ⟨fun x y w => isIx x y w⟩
  obtain ⟨x0, x1, x2, -, -⟩ := XC.out W0 hx0
  replace h3 := h3.keep hB0
  replace h5 := h5.keep hB0
  replace h6 := h6.keep hB0
  unfold holdB
  cases hca : isC num nb a with
  | false =>
    have C1 := Kp.mk (CC.out W0 a h3)
    rw [hca] at C1
    rw [Bool.false_and]
    clear hx0 h5 h6 CI CC
    go_enter Try.func31, Try.ntmps31
    go_upto_region 1 with fail
    rw [← hW.out]
    go_wp2_with fail
    refine C1.out.mono ?_
    rintro e w2 ⟨rfl, hb2⟩
    go_wp2_with fail
    go_ret
    exact ⟨rfl, bel_trans hB0 hb2⟩
  | true =>
    have C1 := Kp.mk (CC.out W0 a h3)
    rw [hca] at C1
    rw [Bool.true_and]
    cases hcb : isC num nb b with
    | false =>
      rw [Bool.false_and]
      go_enter Try.func31, Try.ntmps31
      go_upto_region 1 with fail
      rw [← hW.out]
      go_wp2_with fail
      refine C1.out.mono ?_
      rintro e w2 ⟨rfl, hb2⟩
      obtain ⟨y0, y1, y2, -, -⟩ := XC.out w2 (keep_cells hx0 hb2)
      have C2 := Kp.mk (CC.out w2 b (h3.keep hb2))
      rw [hcb] at C2
      clear x0 x1 x2
      go_wp2_with fail
      refine C2.out.mono ?_
      rintro e w3 ⟨rfl, hb3⟩
      go_wp2_with fail
      go_ret
      exact ⟨rfl, bel_trans (bel_trans hB0 hb2) hb3⟩
    | true =>
      rw [Bool.true_and]
      obtain ⟨ka, rfl, ka1, ka2⟩ := isC_true hca
      obtain ⟨kb, rfl, kb1, kb2⟩ := isC_true hcb
      rw [Int.toNat_natCast, Int.toNat_natCast]
      have hna := hnum ka ka1
      have hnb := hnum kb kb1
      have q3a : Kp (∀ W, Below W0.heap.size W0 W → At W b3 ka (.int .i64 (num ka))) := ⟨fun W hW => (h3.keep hW).at ka1⟩
      have q3b : Kp (∀ W, Below W0.heap.size W0 W → At W b3 kb (.int .i64 (num kb))) := ⟨fun W hW => (h3.keep hW).at kb1⟩
      replace hcb := Kp.mk hcb
      replace hca := Kp.mk hca
      have CC2 : Kp (∀ w2, Below W0.heap.size W0 w2 → Calls Try.prog 46 #[.agg #[.slice (some ⟨b1, 0, none⟩) M c1, .slice (some ⟨b2, 0, none⟩) M c2, .slice (some ⟨b3, 0, none⟩) nb c3], .int .i64 kb] w2 fun e w' => e = .returned (.bool true) ∧ Below w2.heap.size w2 w') := ⟨fun w2 hb2 => by
        have := CC.out w2 kb (h3.keep hb2)
        rwa [hcb.out] at this⟩
      generalize num ka = na at *
      generalize num kb = nq at *
      obtain ⟨ia, rfl⟩ : ∃ i : Nat, na = i := ⟨na.toNat, by omega⟩
      obtain ⟨ib, rfl⟩ : ∃ i : Nat, nq = i := ⟨nq.toNat, by omega⟩
      rw [Int.toNat_natCast, Int.toNat_natCast]
      have sa := hst ia (by omega)
      have sb := hst ib (by omega)
      have q5a : Kp (∀ W, Below W0.heap.size W0 W → At W b5 ia (.int .i64 (st ia))) := ⟨fun W hW => (h5.keep hW).at (by omega)⟩
      have q5b : Kp (∀ W, Below W0.heap.size W0 W → At W b5 ib (.int .i64 (st ib))) := ⟨fun W hW => (h5.keep hW).at (by omega)⟩
      have q6a : Kp (∀ W, Below W0.heap.size W0 W → At W b6 ia (.int .i64 (sz ia))) := ⟨fun W hW => (h6.keep hW).at (by omega)⟩
      generalize st ia = xa at *
      generalize st ib = xb at *
      generalize sz ia = xs at *
      have hwr : IntKind.i64.wrap (xb - xa) = xb - xa := by rw [IntKind.wrap_i64]; omega
      have CI2 := Kp.mk (fun w => CI.out (IntKind.i64.wrap (xb - xa)) xs w)
      rw [hwr] at CI2
      have CI3 : Kp (∀ (W : World), Calls Try.prog 43 #[.int .i64 (IntKind.i64.wrap (xb - xa)), .int .i64 xs] W fun e w' => e = .returned (.bool (decide (0 ≤ xb - xa) && decide (xb - xa < xs))) ∧ Below W.heap.size W w') := ⟨fun W => by rw [hwr]; exact (CI2.out W).mono (fun e w' ⟨h1, h2⟩ => ⟨h1, h2 ▸ Below.refl _ _⟩)⟩
      clear CI2 hwr
      have p0 : (0 : Int) ≤ (ka : Int) := by omega
      have p1 : (ka : Int) < (nb : Int) := by omega
      have p2 : (0 : Int) ≤ (kb : Int) := by omega
      have p3 : (kb : Int) < (nb : Int) := by omega
      have p4 : (0 : Int) ≤ (ia : Int) := by omega
      have p6 : (0 : Int) ≤ (ib : Int) := by omega
      obtain ⟨r, hr⟩ : ∃ r, r = (decide (0 ≤ xb - xa) && decide (xb - xa < xs)) := ⟨_, rfl⟩
      rw [← hr] at CI3 ⊢
      clear hr hst hnum h3 h5 h6 CI CC hca hcb
      go_enter Try.func31, Try.ntmps31
      go_upto_region 1 with fail
      rw [← hW.out]
      go_wp2_with fail
      refine C1.out.mono ?_
      rintro e w2 ⟨rfl, hb2⟩
      obtain ⟨y0, y1, y2, -, -⟩ := XC.out w2 (keep_cells hx0 hb2)
      have C2 := Kp.mk (CC2.out w2 hb2)
      clear x0 x1 x2
      go_wp2_with fail
      refine C2.out.mono ?_
      rintro e w3 ⟨rfl, hb3⟩
      have hb03 := bel_trans hb2 hb3
      obtain ⟨z0, z1, z2, z4, z5⟩ := XC.out w3 (keep_cells hx0 hb03)
      have d3a := q3a.out w3 hb03
      have d3b := q3b.out w3 hb03
      have d5a := q5a.out w3 hb03
      have d5b := q5b.out w3 hb03
      have d6a := q6a.out w3 hb03
      have hbe := bel_trans hB0 hb03
      clear y0 y1 y2 C1 C2 CC2 hx0 hB0
      go_wp2_with fail
      go_region
      go_wp2_with fail
      have CQ := Kp.mk (fun dq osq => Calls.regrown_of (CI3.out (Go.Sort.grow (redrawn w3.drew dq) osq)))
      have m4 := cell_regrown (at_keep z4 (bel_drew w3))
      have m5 := cell_regrown (at_keep z5 (bel_drew w3))
      have n5a := cell_regrown (at_keep d5a (bel_drew w3))
      have n5b := cell_regrown (at_keep d5b (bel_drew w3))
      have n6a := cell_regrown (at_keep d6a (bel_drew w3))
      refine wp_region_quiet_below (by kernel_rfl) (by kernel_rfl) ?_
      repeat (quiet_step (fail))
      quiet_step (exact CQ.out _ _)
      repeat (quiet_step (fail))
      refine wpQuiet_nil ?_
      intro _ hw'
      obtain ⟨⟨dq, osq⟩, hw''⟩ := hw'
      subst hw''
      go_wp2_with fail
      go_ret
      exact ⟨rfl, bel_trans hbe.drew (below_regrown w3.drew dq osq)⟩
end Go.Proofs.Ytbfpfjkjeekbdaa
