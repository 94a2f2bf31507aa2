/- Contracts of the laws' helpers that copy a block, the blocks, a function. -/
import Derived.Test.YtbfpfjkjeekbdaaDp6
namespace Go.Proofs.Ytbfpfjkjeekbdaa
open Go.ChangeShapes Go.WideShapes Go.ChangeAt Go.RowKit
set_option linter.unusedVariables false
set_option linter.unusedSimpArgs false
/-- Three objects of a call's own. -/
theorem three (w : World) (X Y Z : Array Value) (tx ty tz : TypeId) {W : World} (h : W = ((w.alloc (Obj.cells X tx)).alloc (Obj.cells Y ty)).alloc (Obj.cells Z tz)) :
    Below w.heap.size w W ∧ W.heap.size = w.heap.size + 1 + 1 + 1 ∧ Rw W (w.heap.size + 1) Y.size ∧ Rw W (w.heap.size + 1 + 1) Z.size ∧ Unf w.heap.size W ∧ (∀ j v, X[j]? = some v → At W w.heap.size j v) ∧ (∀ j v, Z[j]? = some v → At W (w.heap.size + 1 + 1) j v) := by
  have s1 : (w.alloc (Obj.cells X tx)).heap.size = w.heap.size + 1 := World.size_alloc ..
  have s2 : ((w.alloc (Obj.cells X tx)).alloc (Obj.cells Y ty)).heap.size = w.heap.size + 1 + 1 := by rw [World.size_alloc, s1]
  have q := al_rw (w.alloc (Obj.cells X tx)) Y ty
  have r := al_rw ((w.alloc (Obj.cells X tx)).alloc (Obj.cells Y ty)) Z tz
  rw [s1] at q
  rw [s2] at r
  subst h
  refine ⟨bel_trans (bel_trans (bel_alloc _ _) (bel_alloc _ _)) (bel_alloc _ _), by rw [World.size_alloc, s2], q.keep (bel_alloc _ _), r, (((Unf.top w).cells _ _).cells _ _).cells _ _, fun j v e => at_keep (at_keep (al_at _ _ _ e) (bel_alloc _ _)) (bel_alloc _ _), fun j v e => ?_⟩
  have := al_at ((w.alloc (Obj.cells X tx)).alloc (Obj.cells Y ty)) Z tz e
  rw [s2] at this
  exact this
theorem blsN_of (xs : List (List InD)) : (∀ i (h : i < xs.length), blN xs[i] ≤ blsN xs) ∧ 0 ≤ blsN xs := by
  induction xs with
  | nil => exact ⟨fun i h => absurd h (Nat.not_lt_zero _), Int.le_refl _⟩
  | cons x r ih =>
    have e : blsN (x :: r) = blN x + blsN r := by simp [blsN]
    have := blN_nn x
    have := ih.2
    refine ⟨fun i h => ?_, by omega⟩
    cases i with
    | zero => simp only [List.getElem_cons_zero]; omega
    | succ i => simp only [List.getElem_cons_succ]; have := ih.1 i (by simpa using h); omega
theorem Bls.shape {lo : Nat} {w : World} {v : Value} {xs : List (List InD)} (h : Bls lo w v xs) : ∃ a k, v = .slice a xs.length k := by
  obtain ⟨_, _, s, -, -⟩ := h.ex
  obtain ⟨a, k, e, -, -⟩ := s.ex
  exact ⟨a, k, e⟩
theorem Ints.shape {lo : Nat} {k : IntKind} {w : World} {v : Value} {xs : List Int} (h : Ints lo k w v xs) : ∃ a k, v = .slice a xs.length k := by
  obtain ⟨_, _, s, -, -⟩ := h.ex
  obtain ⟨a, k, e, -, -⟩ := s.ex
  exact ⟨a, k, e⟩
theorem Ins.shape {lo : Nat} {w : World} {v : Value} {xs : List InD} (h : Ins lo w v xs) : ∃ a k, v = .slice a xs.length k := by
  obtain ⟨_, _, s, -, -⟩ := h.ex
  obtain ⟨a, k, e, -, -⟩ := s.ex
  exact ⟨a, k, e⟩
set_option maxRecDepth 100000 in
set_option maxHeartbeats 2000000 in
theorem toBl (xs : List InD) (vi : Value) (w : World) {lo : Nat} (h : Ins lo w vi xs) (hn : blN xs ≤ 1048576) :
    Calls Try.prog 51 #[.agg #[vi]] w fun e w' => ∃ vi', e = .returned (.agg #[vi']) ∧ Ins w.heap.size w' vi' xs ∧ Below w.heap.size w w' ∧ Unf w.heap.size w' := by
  obtain ⟨a0, k0, rfl⟩ := h.shape
  have HA : Kp (∀ W, Below w.heap.size w W → Ins lo W (.slice a0 xs.length k0) xs) := ⟨fun W q => h.keep q⟩
  clear h
  go_enter Try.func51, Try.ntmps51
  go_wp2_with fail
  obtain ⟨W0, hW⟩ : ∃ W0 : World, W0 = (((w.alloc (Obj.cells #[.slice a0 xs.length k0] 87)).alloc (Obj.cells #[.slice none 0 0] 91)).alloc (Obj.cells #[.slice none 0 0] 91)) := ⟨_, rfl⟩
  rw [← hW]
  obtain ⟨B0, z0, r1, r2, u0, -, -⟩ := three w _ _ _ _ _ _ hW
  clear hW
  refine (toInss _ xs W0 (HA.out _ B0) hn).mono ?_
  rintro e w1 ⟨v', rfl, hA, hb1, hu1⟩
  have U1 := Kp.mk (u0.call hb1 hu1)
  clear u0 hu1
  rw [z0] at hA
  obtain ⟨a1, k1, rfl⟩ := hA.shape
  have q1 := r1.keep hb1
  have q2 := r2.keep hb1
  have B1 := Kp.mk (bel_trans B0 hb1)
  have HA1 := Kp.mk hA
  obtain ⟨_, c1, f1⟩ := q1.at (j := 0) (by simp)
  obtain ⟨_, c2, f2⟩ := q2.at (j := 0) (by simp)
  clear hA r1 r2 z0 B0 hb1 HA
  go_wp2_with fail
  have K1 : Keeps (w.heap.size + 1 + 1 + 1) w1 ((w1.setCell ⟨w.heap.size + 1 + 1, 0, none⟩ (.slice a1 xs.length k1)).setCell ⟨w.heap.size + 1, 0, none⟩ (.slice a1 xs.length k1)) := (keeps_set (by omega)).trans (keeps_set (by omega))
  have B2 := bel_set (k := 0) (bel_set (k := 0) B1.out (show w.heap.size ≤ w.heap.size + 1 + 1 by omega) (.slice a1 xs.length k1)) (show w.heap.size ≤ w.heap.size + 1 by omega) (.slice a1 xs.length k1)
  refine bodyPost_ret (v := .agg #[.slice a1 xs.length k1]) ?_ rfl ⟨_, rfl, HA1.out.mono (by omega) K1, B2, (U1.out.set _ _ _).set _ _ _⟩
  clear B2 K1 HA1
  simp [results, Try.results51, go_sem, c1, c2]
set_option maxRecDepth 100000 in
set_option maxHeartbeats 2000000 in
theorem toBls (v : Value) (xs : List (List InD)) (w : World) {lo : Nat} (h : Bls lo w v xs) (hn : xs.length + blsN xs ≤ 1048576) :
    Calls Try.prog 28 #[v] w fun e w' => ∃ v', e = .returned v' ∧ Bls w.heap.size w' v' xs ∧ Below w.heap.size w w' ∧ Unf w.heap.size w' := by
  obtain ⟨b, o, ⟨⟨a, cap, rfl, h1, h2⟩, h3⟩, -, hc⟩ := h.ex
  have Hn := blsN_of xs
  have hnn := Hn.2
  have hN : Kp (∀ i (h : i < xs.length), blN xs[i] ≤ 1048576) := ⟨fun i h => by have := Hn.1 i h; omega⟩
  have g1 : (xs.length : Int) ≤ 1048576 := by omega
  clear Hn hn hnn
  obtain ⟨O, hmk, hrw⟩ := mk_row 28 91 (.agg #[.slice none 0 0]) 1 24 Try.underlying28 (by kernel_rfl) xs.length (by omega) (by omega)
  have HR : Kp (∀ W : World, Rw (W.alloc O) W.heap.size (xs.length * 1)) := ⟨hrw⟩
  clear hrw
  go_enter Try.func28, Try.ntmps28
  go_wp2_with fail
  go_loopw [4] (fun s wr => ∃ i : Nat, i ≤ xs.length ∧ s = .int .i64 i ∧ Below w.heap.size w wr ∧ Unf w.heap.size wr ∧ Rw wr w.heap.size (xs.length * 1) ∧ ∀ j (hj : j < xs.length), j < i → ∃ vi, At wr w.heap.size j vi ∧ Ins (w.heap.size + 1) wr vi xs[j]) (fun s _ => xs.length - (intOf s).toNat)
  case atStart => exact ⟨0, Nat.zero_le _, rfl, bel_alloc _ _, Unf.new (HR.out w), HR.out w, fun j _ hj => absurd hj (Nat.not_lt_zero _)⟩
  case round =>
    obtain ⟨i, hi, rfl, hB, hU, hR, hd⟩ := hrel
    have HD : Kp _ := ⟨hd⟩
    clear hd
    by_cases hlt : i < xs.length
    · have ha := h2 (by omega)
      subst ha
      obtain ⟨vi, c0, hv⟩ := hc i hlt
      have nd := hN.out i hlt
      have c0 := at_keep c0 hB
      have hv := hv.keep hB
      obtain ⟨d, hd⟩ : ∃ d, Kp (xs[i] = d) := ⟨_, ⟨rfl⟩⟩
      rw [hd.out] at hv nd
      obtain ⟨a1, k1, rfl⟩ := hv.shape
      have hV := Kp.mk (toBl d _ wr hv nd)
      clear hc hv nd
      go_wp2_with fail
      refine hV.out.mono ?_
      rintro e w1 ⟨vi', rfl, hv, hb1, hu1⟩
      have hU1 := hU.call hb1 hu1
      obtain ⟨a1', k1', rfl⟩ := hv.shape
      have HV := Kp.mk hv
      have hR1 := hR.keep hb1
      clear hv hV c0
      obtain ⟨_, z0, f0⟩ := hR1.at (j := i) (by omega)
      go_wp2_with fail
      have hlr := hR.lt
      refine ⟨⟨i + 1, by omega, by go_num, bel_set (bel_trans hB hb1) (Nat.le_refl _) _, hU1.set _ _ _, hR1.set _ _, fun j hj hji => ?_⟩, by simp [intOf]; omega⟩
      by_cases e : j = i
      · subst e
        rw [hd.out]
        exact ⟨_, set_same hR1 (by omega) _, HV.out.mono (by omega) (keeps_set (by omega))⟩
      · obtain ⟨u, q, r⟩ := HD.out j hj (by omega)
        exact ⟨_, set_other (at_keep q hb1) (.inr e), (r.keep hb1).mono (Nat.le_refl _) (keeps_set (by omega))⟩
    · clear h2 hc hmk
      go_wp2_with fail
      go_ret
      exact ⟨_, rfl, ⟨w.heap.size, 0, ⟨⟨_, _, rfl, Nat.le_refl _, fun _ => rfl⟩, h3⟩, Nat.le_refl _, fun j hj => by
        rw [Nat.zero_add]
        obtain ⟨u, q, r⟩ := HD.out j hj (by omega)
        exact ⟨_, q, r.mono (by omega) (fun _ _ _ _ h => h)⟩⟩, hB, hU⟩
end Go.Proofs.Ytbfpfjkjeekbdaa
