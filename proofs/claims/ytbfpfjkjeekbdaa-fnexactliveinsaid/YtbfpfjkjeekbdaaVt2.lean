/- A row that a call owns: marked and looked at again; the library's copy of a row of whole numbers. -/
import Derived.Test.YtbfpfjkjeekbdaaVt1
import Derived.Test.YtbfpfjkjeekbdaaMk1
import Derived.Lib.SliceRun
namespace Go.Proofs.Ytbfpfjkjeekbdaa
open Go.ChangeShapes Go.WideShapes Go.ChangeAt Go.RowKit
open Go.Sort (grow)
set_option linter.unusedVariables false
set_option linter.unusedSimpArgs false
theorem markI (v : Value) (xs : List Int) (base : Nat) (k : Int) (w : World) (h : OwnI w base v xs) (hn : xs.length ≤ 1048576) (k0 : 0 ≤ k) (k1 : k ≤ 1048576) :
    Calls Try.prog 13 #[v, .int .i64 k] w fun e w' => e = .returned (.int .i64 (k + xs.length)) ∧ Below base w w' ∧ ∃ b o, Sl v xs.length b o ∧ ∀ i, i < xs.length → At w' b (o + i) (.int .i64 (k + i)) := by
  by_cases h0 : 0 < xs.length
  · obtain ⟨B, q, hb⟩ := h.own hn h0
    refine (markInts v _ B 0 k w q hn k0 (by omega)).mono ?_
    rintro e w' ⟨rfl, -, hc, -, -, hB⟩
    exact ⟨rfl, hB _ hb, B, 0, q.s, hc⟩
  · obtain ⟨b, o, s, l, c⟩ := (h.ints hn).ex
    refine (mkInts base 0 v xs.length k w ⟨b, o, s, fun i hi => absurd hi (by omega)⟩ ⟨fun b o _ q => absurd q (by omega)⟩ (Nat.zero_le _) hn k0 (by omega)).mono ?_
    rintro e w' ⟨rfl, hM⟩
    exact ⟨rfl, hM.bel, b, o, s, fun i hi => absurd hi (by omega)⟩
set_option maxRecDepth 100000 in
set_option maxHeartbeats 2000000 in
/-- slices.Clone. -/
theorem cloneI (v : Value) (xs : List Int) (w : World) {lo : Nat} (h : Ints lo .i64 w v xs) (hn : xs.length ≤ 1048576) :
    Calls Try.prog 39 #[v] w fun e w' => ∃ v', e = .returned v' ∧ w'.ownsRow w.heap.size 2 1 v' xs.length (xs.map (Value.int .i64)) ∧ Below w.heap.size w w' := by
  obtain ⟨b, o, ⟨⟨a, cap, rfl, h1, h2⟩, h3⟩, -, hc⟩ := h.ex
  obtain ⟨i0, hi0, hz0, hz1, hz2⟩ := info_parts info64
  have q22 : ∀ (w : World) (a : Option Addr) (n c n' c' : Nat), (binOp .eql 22 (.slice a n c) (.slice none n' c')).run Try.prog w = .ok (.bool a.isNone) w := fun w a n c n' c' => Lib.run_eql_slice_nil w _ _ a n c n' c' Try.underlying22
  cases a with
  | none =>
    obtain rfl : xs = [] := by
      cases xs with
      | nil => rfl
      | cons x r => cases h2 (by simp)
    clear hc h2
    go_enter Try.func39, Try.ntmps39
    go_wp2
    go_ret
    exact ⟨_, rfl, ⟨rfl, .inl ⟨rfl, rfl⟩⟩, Below.refl _ _⟩
  | some ad =>
    have hr := World.ownsRow_made (base := w.heap.size) (e := 2) (size := 1) w #[] 0 (Nat.le_refl _) (Nat.zero_le _) rfl
    replace hc := Kp.mk hc
    replace h2 := Kp.mk h2
    replace hr := Kp.mk hr
    go_enter Try.func39, Try.ntmps39
    go_wp2_with (at_builtin; refine wpList_append_vals _ rfl _ _ 22 rfl w.heap.size 2 i0 (.int .i64 0) 1 8 Try.underlying22 hi0 hz0 hz1 hz2 rfl (by decide) _ _ _ rfl hr.out (some ad) b o xs.length cap (xs.map (Value.int .i64)) rfl h2.out ?qc1 ?qc2 ?qc3 ?qc4 ?qc5 ?qc6 ?_)
    case qc1 => simp
    case qc2 =>
      intro j hj
      rw [List.getElem_map]
      exact at_keep (hc.out j (by simpa using hj)) (bel_alloc _ _)
    case qc3 => intro u hu; obtain ⟨x, _, rfl⟩ := List.mem_map.1 hu; rfl
    case qc4 => unfold maxLen; omega
    case qc5 => omega
    case qc6 => simp
    intro v' w1 hown hgrow
    have hB := own_bel (bel_alloc w _) hr.out hgrow (by simp)
    go_wp2
    go_ret
    exact ⟨v', rfl, by simpa using hown, hB⟩
end Go.Proofs.Ytbfpfjkjeekbdaa
