/- The number of a value at a place: the specification's answer; places compared; marks in a row. -/
import Derived.Test.YtbfpfjkjeekbdaaDp12
namespace Go.Proofs.Ytbfpfjkjeekbdaa
open Go.ChangeShapes Go.WideShapes Go.ChangeAt Go.RowKit
open Go.Sort (grow)
set_option linter.unusedVariables false
set_option linter.unusedSimpArgs false
/-- A row of the call's own, with its cells' kind: what a slice of it is. -/
structure Own64 (w : World) (v : Value) (n B o : Nat) : Prop where
  s : Sl v n B o
  r : ∃ m, Rw w B m ∧ o + n ≤ m
set_option maxRecDepth 100000 in
set_option maxHeartbeats 2000000 in
theorem markInts (v : Value) (n B o : Nat) (k : Int) (w : World) (h : Own64 w v n B o) (hn : n ≤ 1048576) (k0 : 0 ≤ k) (k1 : k ≤ 1099511627776) :
    Calls Try.prog 13 #[v, .int .i64 k] w fun e w' => e = .returned (.int .i64 (k + n)) ∧ w'.heap.size = w.heap.size ∧ (∀ i, i < n → At w' B (o + i) (.int .i64 (k + i))) ∧ (∀ b c u, b ≠ B → At w b c u → At w' b c u) ∧ (∀ b m, Rw w b m → Rw w' b m) ∧ ∀ H, H ≤ B → Below H w w' := by
  obtain ⟨⟨⟨a, cap, rfl, h1, h2⟩, h3⟩, m, hr, hm⟩ := h
  have g1 : (n : Int) ≤ 1048576 := by omega
  replace h2 := Kp.mk h2
  go_enter Try.func13, Try.ntmps13
  go_wp2_with fail
  go_loopw [1, 5] (fun r s wr => ∃ i : Nat, i ≤ n ∧ s = .int .i64 i ∧ r = .int .i64 (k + i) ∧ wr.heap.size = w.heap.size ∧ Kp (∀ j, j < i → At wr B (o + j) (.int .i64 (k + j))) ∧ Kp (∀ b c u, b ≠ B → At w b c u → At wr b c u) ∧ Kp (∀ b m, Rw w b m → Rw wr b m) ∧ Kp (∀ H, H ≤ B → Below H w wr)) (fun _ s _ => n - (intOf s).toNat)
  case atStart => exact ⟨0, Nat.zero_le _, rfl, by simp, rfl, ⟨fun j hj => absurd hj (Nat.not_lt_zero _)⟩, ⟨fun _ _ _ _ h => h⟩, ⟨fun _ _ h => h⟩, ⟨fun H _ => Below.refl _ _⟩⟩
  case round =>
    obtain ⟨i, hi, rfl, rfl, hs, hd, ho, hR, hb⟩ := hrel
    by_cases hlt : i < n
    · obtain rfl := h2.out (by omega)
      have hRw := hR.out _ _ hr
      obtain ⟨z, cz, fz⟩ := hRw.at (j := o + i) (by omega)
      go_wp2_with fail
      refine ⟨⟨i + 1, by omega, by go_num, by go_num, by rw [World.size_setCell]; exact hs, ⟨fun j hj => ?_⟩, ⟨fun b c u hne q => set_other (ho.out b c u hne q) (.inl hne)⟩, ⟨fun b m q => (hR.out b m q).sets _ _ _⟩, ⟨fun H hH => bel_set (hb.out H hH) hH _⟩⟩, by simp [intOf]; omega⟩
      by_cases e : j = i
      · subst e
        exact set_same hRw (by omega) _
      · exact set_other (hd.out j (by omega)) (.inr (by omega))
    · go_wp2_with fail
      go_ret
      have e : i = n := by omega
      subst e
      exact ⟨rfl, hs, hd.out, ho.out, hR.out, hb.out⟩
set_option maxRecDepth 100000 in
set_option maxHeartbeats 2000000 in
theorem heldInts (v : Value) (n b o : Nat) (k : Int) (w : World) (h : Sl v n b o) (hc : ∀ i, i < n → At w b (o + i) (.int .i64 (k + i))) (hn : n ≤ 1048576) (k0 : 0 ≤ k) (k1 : k ≤ 1099511627776) :
    Calls Try.prog 14 #[v, .int .i64 k] w fun e w' => e = .returned (.int .i64 (k + n)) ∧ Below w.heap.size w w' := by
  obtain ⟨⟨a, cap, rfl, h1, h2⟩, h3⟩ := h
  have g1 : (n : Int) ≤ 1048576 := by omega
  replace h2 := Kp.mk h2
  replace hc := Kp.mk hc
  go_enter Try.func14, Try.ntmps14
  go_wp2_with fail
  go_loopw [1, 5] (fun r s wr => ∃ i : Nat, i ≤ n ∧ s = .int .i64 i ∧ r = .int .i64 (k + i) ∧ Below w.heap.size w wr) (fun _ s _ => n - (intOf s).toNat)
  case atStart => exact ⟨0, Nat.zero_le _, rfl, by simp, Below.refl _ _⟩
  case round =>
    obtain ⟨i, hi, rfl, rfl, hB⟩ := hrel
    by_cases hlt : i < n
    · obtain rfl := h2.out (by omega)
      have c1 := at_keep (hc.out i hlt) hB
      go_wp2_with fail
      exact ⟨⟨i + 1, by omega, by go_num, by go_num, hB⟩, by simp [intOf]; omega⟩
    · go_wp2_with fail
      go_ret
      have e : i = n := by omega
      subst e
      exact ⟨rfl, hB⟩
end Go.Proofs.Ytbfpfjkjeekbdaa
