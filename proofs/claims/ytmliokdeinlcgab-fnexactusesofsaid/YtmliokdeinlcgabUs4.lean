/- Rows of places: compared, marked, looked at again. -/
import Derived.Test.YtmliokdeinlcgabUs3
namespace Go.Proofs.Ytmliokdeinlcgab
open Go.ChangeShapes Go.WideShapes Go.ChangeAt Go.RowKit
open Go.Sort (grow)
set_option linter.unusedVariables false
set_option linter.unusedSimpArgs false
set_option maxRecDepth 100000 in
set_option maxHeartbeats 2000000 in
theorem eqPls (v u : Value) (ps : List (Nat × Nat)) (w : World) (h : Pls w v ps) (k : Pls w u ps) (hn : ps.length ≤ 1048576) :
    Calls Try.prog 8 #[v, u] w fun e w' => e = .returned (.bool true) ∧ Below w.heap.size w w' := by
  obtain ⟨b, o, ⟨⟨a, cap, rfl, h1, h2⟩, h3⟩, hc⟩ := h.ex
  obtain ⟨b', o', ⟨⟨a', cap', rfl, h1', h2'⟩, h3'⟩, hc'⟩ := k.ex
  have g1 : (ps.length : Int) ≤ 1048576 := by omega
  have HC : Kp (∀ i (h : i < ps.length), (At w b (o + i * 2) (.int .i64 ps[i].1) ∧ At w b (o + i * 2 + 1) (.int .i64 ps[i].2)) ∧ At w b' (o' + i * 2) (.int .i64 ps[i].1) ∧ At w b' (o' + i * 2 + 1) (.int .i64 ps[i].2)) := ⟨fun i h => ⟨hc i h, hc' i h⟩⟩
  have H2 : Kp (0 < ps.length → a = some ⟨b, o, none⟩ ∧ a' = some ⟨b', o', none⟩) := ⟨fun q => ⟨h2 q, h2' q⟩⟩
  clear hc hc' h k h2 h2'
  go_enter Try.func8, Try.ntmps8
  go_wp2_with fail
  go_loopw [5] (fun s wr => ∃ i : Nat, i ≤ ps.length ∧ s = .int .i64 i ∧ Below w.heap.size w wr) (fun s _ => ps.length - (intOf s).toNat)
  case atStart => exact ⟨0, Nat.zero_le _, rfl, Below.refl _ _⟩
  case round =>
    obtain ⟨i, hi, rfl, hB⟩ := hrel
    by_cases hlt : i < ps.length
    · obtain ⟨rfl, rfl⟩ := H2.out (by omega)
      obtain ⟨⟨c0, c1⟩, d0, d1⟩ := HC.out i hlt
      replace c0 := at_keep c0 hB
      replace c1 := at_keep c1 hB
      replace d0 := at_keep d0 hB
      replace d1 := at_keep d1 hB
      generalize ps[i] = q at c0 c1 d0 d1
      obtain ⟨q1, q2⟩ := q
      dsimp only at c0 c1 d0 d1
      go_upto_region 6 with fail
      have k0 := cell_regrown c0
      have k1 := cell_regrown c1
      have m0 := cell_regrown d0
      have m1 := cell_regrown d1
      have C := Kp.mk (fun dq osq => Calls.regrown_of (eqPl q1 q2 (grow (redrawn wr dq) osq)))
      refine wp_region_quiet_below (by kernel_rfl) (by kernel_rfl) ?_
      repeat (quiet_step (fail))
      quiet_step (exact C.out _ _)
      repeat (quiet_step (fail))
      refine wpQuiet_nil ?_
      intro _ hw'
      obtain ⟨⟨dq, osq⟩, hw''⟩ := hw'
      subst hw''
      have hB2 := bel_trans hB (below_regrown wr dq osq)
      clear k0 k1 m0 m1 c0 c1 d0 d1 C
      generalize grow (redrawn wr dq) osq = V at *
      go_wp2_with fail
      exact ⟨⟨i + 1, by omega, by go_num, hB2⟩, by simp [intOf]; omega⟩
    · go_wp2_with fail
      go_ret
      exact ⟨rfl, hB⟩
set_option maxRecDepth 100000 in
set_option maxHeartbeats 2000000 in
theorem markP (v : Value) (ps : List (Nat × Nat)) (base : Nat) (k : Int) (w : World) (h : OwnP w base v ps) (hn : ps.length ≤ 1048576) (k0 : 0 ≤ k) (k1 : k ≤ 1048576) :
    Calls Try.prog 11 #[v, .int .i64 k] w fun e w' => e = .returned (.int .i64 (k + 2 * ps.length)) ∧ Below base w w' ∧ ∃ b o, Sl v ps.length b o ∧ ∀ i, i < ps.length → At w' b (o + i * 2) (.int .i64 (k + 2 * i)) ∧ At w' b (o + i * 2 + 1) (.int .i64 (k + 2 * i + 1)) := by
  have g1 : (ps.length : Int) ≤ 1048576 := by omega
  obtain ⟨hl, q⟩ := h.r
  obtain ⟨n, hnn⟩ : ∃ n, n = ps.length := ⟨_, rfl⟩
  rw [← hnn] at q g1 ⊢
  obtain ⟨B, a, cap, rfl, h1, h2, hb, hr, hnn2⟩ : ∃ B a cap, v = .slice a n cap ∧ n ≤ cap ∧ Kp (0 < n → a = some ⟨B, 0, none⟩) ∧ base ≤ B ∧ (0 < n → Rw w B (cap * 2)) ∧ n ≤ 1048576 := by
    rcases q with ⟨rfl, h0⟩ | ⟨g, cap, cur, rfl, hb, hg, h1, h2, h3, h4⟩
    · exact ⟨base, none, 0, by rw [h0], by omega, ⟨fun h => absurd h (by omega)⟩, Nat.le_refl _, fun h => absurd h (by omega), by omega⟩
    · exact ⟨g, _, cap, rfl, h1, ⟨fun _ => rfl⟩, hb, fun _ => ⟨49, fun j => cur.getD j undef, cur, hg, h3, fun i hi => by simp [Array.getD, show i < cur.size by omega]⟩, by omega⟩
  clear q hl hnn h hn
  go_enter Try.func11, Try.ntmps11
  go_wp2_with fail
  go_loopw [1, 5] (fun r s wr => ∃ i : Nat, i ≤ n ∧ s = .int .i64 i ∧ r = .int .i64 (k + 2 * i) ∧ Kp (0 < n → Rw wr B (cap * 2)) ∧ Kp (∀ j, j < i → At wr B (0 + j * 2) (.int .i64 (k + 2 * j)) ∧ At wr B (0 + j * 2 + 1) (.int .i64 (k + 2 * j + 1))) ∧ Below base w wr) (fun _ s _ => n - (intOf s).toNat)
  case atStart => exact ⟨0, Nat.zero_le _, rfl, by simp, ⟨hr⟩, ⟨fun j hj => absurd hj (Nat.not_lt_zero _)⟩, Below.refl _ _⟩
  case round =>
    obtain ⟨i, hi, rfl, rfl, hR, hd, hB⟩ := hrel
    by_cases hlt : i < n
    · obtain rfl := h2.out (by omega)
      have hRw := hR.out (by omega)
      obtain ⟨z0, cz0, fz0⟩ := hRw.at (j := i * 2) (by omega)
      obtain ⟨z1, cz1, fz1⟩ := hRw.at (j := i * 2 + 1) (by omega)
      clear hr
      go_wp2_with fail
      refine ⟨⟨i + 1, by omega, by go_num, by go_num, ⟨fun _ => (hRw.sets _ _ _).sets _ _ _⟩, ⟨fun j hj => ?_⟩, bel_set (bel_set hB hb _) hb _⟩, by simp [intOf]; omega⟩
      by_cases e : j = i
      · subst e
        exact ⟨by rw [Nat.zero_add]; exact set_other (set_same hRw (by omega) _) (.inr (by omega)), by rw [Nat.zero_add]; exact set_same (hRw.sets _ _ _) (by omega) _⟩
      · have q := hd.out j (by omega)
        exact ⟨set_other (set_other q.1 (.inr (by omega))) (.inr (by omega)), set_other (set_other q.2 (.inr (by omega))) (.inr (by omega))⟩
    · obtain rfl : i = n := by omega
      go_wp2_with fail
      go_ret
      exact ⟨rfl, hB, B, 0, ⟨⟨_, _, rfl, h1, h2.out⟩, by omega⟩, hd.out⟩
set_option maxRecDepth 100000 in
set_option maxHeartbeats 2000000 in
theorem heldP (v : Value) (n b o : Nat) (k : Int) (w : World) (h : Sl v n b o) (hc : ∀ i, i < n → At w b (o + i * 2) (.int .i64 (k + 2 * i)) ∧ At w b (o + i * 2 + 1) (.int .i64 (k + 2 * i + 1))) (hn : n ≤ 1048576) (k0 : 0 ≤ k) (k1 : k ≤ 1048576) :
    Calls Try.prog 12 #[v, .int .i64 k] w fun e w' => e = .returned (.int .i64 (k + 2 * n)) ∧ Below w.heap.size w w' := by
  obtain ⟨⟨a, cap, rfl, h1, h2⟩, h3⟩ := h
  have g1 : (n : Int) ≤ 1048576 := by omega
  replace h2 := Kp.mk h2
  replace hc := Kp.mk hc
  go_enter Try.func12, Try.ntmps12
  go_wp2_with fail
  go_loopw [1, 5] (fun r s wr => ∃ i : Nat, i ≤ n ∧ s = .int .i64 i ∧ r = .int .i64 (k + 2 * i) ∧ Below w.heap.size w wr) (fun _ s _ => n - (intOf s).toNat)
  case atStart => exact ⟨0, Nat.zero_le _, rfl, by simp, Below.refl _ _⟩
  case round =>
    obtain ⟨i, hi, rfl, rfl, hB⟩ := hrel
    by_cases hlt : i < n
    · obtain rfl := h2.out (by omega)
      obtain ⟨c0, c1⟩ := hc.out i hlt
      replace c0 := at_keep c0 hB
      replace c1 := at_keep c1 hB
      go_wp2_with fail
      exact ⟨⟨i + 1, by omega, by go_num, by go_num, hB⟩, by simp [intOf]; omega⟩
    · obtain rfl : i = n := by omega
      go_wp2_with fail
      go_ret
      exact ⟨rfl, hB⟩
end Go.Proofs.Ytmliokdeinlcgab
