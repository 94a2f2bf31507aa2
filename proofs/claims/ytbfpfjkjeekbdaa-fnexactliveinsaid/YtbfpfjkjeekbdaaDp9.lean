/- Contracts of the laws' helpers that compare, where both sides hold the same. -/
import Derived.Test.YtbfpfjkjeekbdaaDp8
import Derived.Deep.DeepCutAuto
namespace Go.Proofs.Ytbfpfjkjeekbdaa
open Go.ChangeShapes Go.WideShapes Go.ChangeAt Go.RowKit
open Go.Sort (grow)
set_option linter.unusedVariables false
set_option linter.unusedSimpArgs false
set_option maxRecDepth 100000 in
set_option maxHeartbeats 2000000 in
theorem eqInts (v u : Value) (xs : List Int) (w : World) {lo l2 : Nat} (h : Ints lo .i64 w v xs) (k : Ints l2 .i64 w u xs) (hn : xs.length ≤ 1048576) :
    Calls Try.prog 10 #[v, u] w fun e w' => e = .returned (.bool true) ∧ Below w.heap.size w w' := by
  obtain ⟨b, o, ⟨⟨a, cap, rfl, h1, h2⟩, h3⟩, -, hc⟩ := h.ex
  obtain ⟨b', o', ⟨⟨a', cap', rfl, h1', h2'⟩, h3'⟩, -, hc'⟩ := k.ex
  have g1 : (xs.length : Int) ≤ 1048576 := by omega
  have HC : Kp (∀ i (h : i < xs.length), At w b (o + i) (.int .i64 xs[i]) ∧ At w b' (o' + i) (.int .i64 xs[i])) := ⟨fun i h => ⟨hc i h, hc' i h⟩⟩
  have H2 : Kp (0 < xs.length → a = some ⟨b, o, none⟩ ∧ a' = some ⟨b', o', none⟩) := ⟨fun q => ⟨h2 q, h2' q⟩⟩
  clear hc hc' h k h2 h2'
  go_enter Try.func10, Try.ntmps10
  go_wp2_with fail
  go_loopw [5] (fun s wr => ∃ i : Nat, i ≤ xs.length ∧ s = .int .i64 i ∧ Below w.heap.size w wr) (fun s _ => xs.length - (intOf s).toNat)
  case atStart => exact ⟨0, Nat.zero_le _, rfl, Below.refl _ _⟩
  case round =>
    obtain ⟨i, hi, rfl, hB⟩ := hrel
    by_cases hlt : i < xs.length
    · obtain ⟨rfl, rfl⟩ := H2.out (by omega)
      have c1 := at_keep (HC.out i hlt).1 hB
      have c2 := at_keep (HC.out i hlt).2 hB
      generalize xs[i] = x at c1 c2
      go_upto_region 6 with fail
      have k1 := cell_regrown c1
      have k2 := cell_regrown c2
      refine wp_region_quiet_below (by kernel_rfl) (by kernel_rfl) ?_
      repeat (quiet_step (fail))
      refine wpQuiet_nil ?_
      intro _ hw'
      obtain ⟨⟨dq, osq⟩, hw''⟩ := hw'
      subst hw''
      have hB2 := bel_trans hB (below_regrown wr dq osq)
      clear k1 k2 c1 c2
      generalize grow (redrawn wr dq) osq = V at *
      go_wp2_with fail
      exact ⟨⟨i + 1, by omega, by go_num, hB2⟩, by simp [intOf]; omega⟩
    · go_wp2_with fail
      go_ret
      exact ⟨rfl, hB⟩
set_option maxRecDepth 100000 in
set_option maxHeartbeats 2000000 in
theorem eqWords (v u : Value) (xs : List Int) (w : World) {lo l2 : Nat} (h : Ints lo .u64 w v xs) (k : Ints l2 .u64 w u xs) (hn : xs.length ≤ 1048576) :
    Calls Try.prog 116 #[v, u] w fun e w' => e = .returned (.bool true) ∧ Below w.heap.size w w' := by
  obtain ⟨b, o, ⟨⟨a, cap, rfl, h1, h2⟩, h3⟩, -, hc⟩ := h.ex
  obtain ⟨b', o', ⟨⟨a', cap', rfl, h1', h2'⟩, h3'⟩, -, hc'⟩ := k.ex
  have g1 : (xs.length : Int) ≤ 1048576 := by omega
  have HC : Kp (∀ i (h : i < xs.length), At w b (o + i) (.int .u64 xs[i]) ∧ At w b' (o' + i) (.int .u64 xs[i])) := ⟨fun i h => ⟨hc i h, hc' i h⟩⟩
  have H2 : Kp (0 < xs.length → a = some ⟨b, o, none⟩ ∧ a' = some ⟨b', o', none⟩) := ⟨fun q => ⟨h2 q, h2' q⟩⟩
  clear hc hc' h k h2 h2'
  go_enter Try.func116, Try.ntmps116
  go_wp2_with fail
  go_loopw [5] (fun s wr => ∃ i : Nat, i ≤ xs.length ∧ s = .int .i64 i ∧ Below w.heap.size w wr) (fun s _ => xs.length - (intOf s).toNat)
  case atStart => exact ⟨0, Nat.zero_le _, rfl, Below.refl _ _⟩
  case round =>
    obtain ⟨i, hi, rfl, hB⟩ := hrel
    by_cases hlt : i < xs.length
    · obtain ⟨rfl, rfl⟩ := H2.out (by omega)
      have c1 := at_keep (HC.out i hlt).1 hB
      have c2 := at_keep (HC.out i hlt).2 hB
      generalize xs[i] = x at c1 c2
      go_upto_region 6 with fail
      have k1 := cell_regrown c1
      have k2 := cell_regrown c2
      refine wp_region_quiet_below (by kernel_rfl) (by kernel_rfl) ?_
      repeat (quiet_step (fail))
      refine wpQuiet_nil ?_
      intro _ hw'
      obtain ⟨⟨dq, osq⟩, hw''⟩ := hw'
      subst hw''
      have hB2 := bel_trans hB (below_regrown wr dq osq)
      clear k1 k2 c1 c2
      generalize grow (redrawn wr dq) osq = V at *
      go_wp2_with fail
      exact ⟨⟨i + 1, by omega, by go_num, hB2⟩, by simp [intOf]; omega⟩
    · go_wp2_with fail
      go_ret
      exact ⟨rfl, hB⟩
set_option maxRecDepth 100000 in
set_option maxHeartbeats 2000000 in
theorem eqOp (k t i x : Int) (w : World) :
    Calls Try.prog 119 #[.agg #[.int .i64 k, .int .i64 t, .int .i64 i, .int .u64 x], .agg #[.int .i64 k, .int .i64 t, .int .i64 i, .int .u64 x]] w fun e w' => e = .returned (.bool true) ∧ Below w.heap.size w w' := by
  go_enter Try.func119, Try.ntmps119
  go_wp2_with fail
  go_ret
  exact ⟨rfl, bel_trans (bel_alloc _ _) (bel_alloc _ _)⟩
set_option maxRecDepth 100000 in
set_option maxHeartbeats 2000000 in
theorem eqOps (v u : Value) (xs : List OpD) (w : World) {lo l2 : Nat} (h : Ops lo w v xs) (k : Ops l2 w u xs) (hn : xs.length ≤ 1048576) :
    Calls Try.prog 115 #[v, u] w fun e w' => e = .returned (.bool true) ∧ Below w.heap.size w w' := by
  obtain ⟨b, o, ⟨⟨a, cap, rfl, h1, h2⟩, h3⟩, -, hc⟩ := h.ex
  obtain ⟨b', o', ⟨⟨a', cap', rfl, h1', h2'⟩, h3'⟩, -, hc'⟩ := k.ex
  have g1 : (xs.length : Int) ≤ 1048576 := by omega
  have HC : Kp (∀ i (h : i < xs.length), OpAt w b (o + i * 4) xs[i] ∧ OpAt w b' (o' + i * 4) xs[i]) := ⟨fun i h => ⟨hc i h, hc' i h⟩⟩
  have H2 : Kp (0 < xs.length → a = some ⟨b, o, none⟩ ∧ a' = some ⟨b', o', none⟩) := ⟨fun q => ⟨h2 q, h2' q⟩⟩
  clear hc hc' h k h2 h2'
  go_enter Try.func115, Try.ntmps115
  go_wp2_with fail
  go_loopw [5] (fun s wr => ∃ i : Nat, i ≤ xs.length ∧ s = .int .i64 i ∧ Below w.heap.size w wr) (fun s _ => xs.length - (intOf s).toNat)
  case atStart => exact ⟨0, Nat.zero_le _, rfl, Below.refl _ _⟩
  case round =>
    obtain ⟨i, hi, rfl, hB⟩ := hrel
    by_cases hlt : i < xs.length
    · obtain ⟨rfl, rfl⟩ := H2.out (by omega)
      obtain ⟨c0, c1, c2, c3⟩ := (HC.out i hlt).1.keep hB
      obtain ⟨d0, d1, d2, d3⟩ := (HC.out i hlt).2.keep hB
      generalize xs[i] = d at c0 c1 c2 c3 d0 d1 d2 d3
      go_upto_region 6 with fail
      have k0 := cell_regrown c0
      have k1 := cell_regrown c1
      have k2 := cell_regrown c2
      have k3 := cell_regrown c3
      have m0 := cell_regrown d0
      have m1 := cell_regrown d1
      have m2 := cell_regrown d2
      have m3 := cell_regrown d3
      have C := Kp.mk (fun dq osq => Calls.regrown_of (eqOp d.k d.t d.i d.w (grow (redrawn wr dq) osq)))
      refine wp_region_quiet_below (by kernel_rfl) (by kernel_rfl) ?_
      repeat (quiet_step (fail))
      quiet_step (exact C.out _ _)
      repeat (quiet_step (fail))
      refine wpQuiet_nil ?_
      intro _ hw'
      obtain ⟨⟨dq, osq⟩, hw''⟩ := hw'
      subst hw''
      have hB2 := bel_trans hB (below_regrown wr dq osq)
      clear k0 k1 k2 k3 m0 m1 m2 m3 c0 c1 c2 c3 d0 d1 d2 d3 C
      generalize grow (redrawn wr dq) osq = V at *
      go_wp2_with fail
      exact ⟨⟨i + 1, by omega, by go_num, hB2⟩, by simp [intOf]; omega⟩
    · go_wp2_with fail
      go_ret
      exact ⟨rfl, hB⟩
end Go.Proofs.Ytbfpfjkjeekbdaa
