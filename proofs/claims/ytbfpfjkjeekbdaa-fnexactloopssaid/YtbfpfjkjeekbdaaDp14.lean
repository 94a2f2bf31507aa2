/- Which value a place defines: the specification's answer. -/
import Derived.Test.YtbfpfjkjeekbdaaDp13
namespace Go.Proofs.Ytbfpfjkjeekbdaa
open Go.ChangeShapes Go.WideShapes Go.ChangeAt Go.RowKit
open Go.Sort (grow)
set_option linter.unusedVariables false
set_option linter.unusedSimpArgs false
set_option maxRecDepth 100000 in
set_option maxHeartbeats 2000000 in
theorem l2AtS (d : FnD) (vp vb : Value) (B I : Int) (w : World) {lo : Nat} (h : FnAt lo w d vp vb) (hn : fnN d ≤ 1048576) :
    Calls Try.prog 102 #[fnV d vp vb, .int .i64 B, .int .i64 I] w fun e w' => e = .returned (.bool (decide (0 ≤ B ∧ B < d.blocks.length ∧ 0 ≤ I ∧ I < (d.blocks.getD B.toNat []).length))) ∧ Below w.heap.size w w' := by
  unfold fnN at hn
  obtain ⟨name, link, params, res, blocks⟩ := d
  obtain ⟨-, hp, hb⟩ := h
  dsimp only [fnV] at *
  have nn := blsN_nn blocks
  have n2 : (blocks.length : Int) ≤ 1048576 := by omega
  obtain ⟨a1, k1, rfl⟩ := hp.shape
  obtain ⟨b, o, ⟨⟨a2, k2, rfl, h1, h2⟩, h3⟩, -, hc⟩ := hb.ex
  replace hb := Kp.mk hb
  replace hp := Kp.mk hp
  clear hn nn
  obtain ⟨R, hR⟩ : ∃ R : Bool, decide (0 ≤ B ∧ B < blocks.length ∧ 0 ≤ I ∧ I < ((blocks.getD B.toNat []).length : Int)) = R := ⟨_, rfl⟩
  rw [hR]
  by_cases q0 : 0 ≤ B
  · by_cases q1 : B < blocks.length
    · by_cases q2 : 0 ≤ I
      · obtain ⟨n, rfl⟩ : ∃ n : Nat, B = n := ⟨B.toNat, by omega⟩
        obtain rfl := h2 (by omega)
        have hn' : n < blocks.length := by omega
        obtain ⟨vi, c0, hv⟩ := hc n hn'
        have e : blocks.getD ((n : Int)).toNat [] = blocks[n] := by simp [List.getD, hn']
        obtain ⟨xs, hxs⟩ : ∃ xs, blocks[n] = xs := ⟨_, rfl⟩
        rw [e, hxs] at hR
        rw [hxs] at hv
        obtain ⟨a3, k3, rfl⟩ := hv.shape
        have c1 := fun O => at_keep c0 (bel_alloc w O)
        have q1' : n < blocks.length := hn'
        clear hc hv e hxs h2
        by_cases q3 : I < xs.length
        · obtain rfl : R = true := by rw [← hR]; simp [q2, q3]; omega
          clear hR
          go_enter Try.func102, Try.ntmps102
          go_wp2_with fail
          go_ret
          exact ⟨rfl, bel_alloc _ _⟩
        · obtain rfl : R = false := by rw [← hR]; simp; omega
          clear hR
          go_enter Try.func102, Try.ntmps102
          go_wp2_with fail
          go_ret
          exact ⟨rfl, bel_alloc _ _⟩
      · obtain rfl : R = false := by rw [← hR]; simp; omega
        clear hc h2 hR
        go_enter Try.func102, Try.ntmps102
        go_wp2_with fail
        go_ret
        exact ⟨rfl, bel_alloc _ _⟩
    · obtain rfl : R = false := by rw [← hR]; simp; omega
      clear hc h2 hR
      go_enter Try.func102, Try.ntmps102
      go_wp2_with fail
      go_ret
      exact ⟨rfl, bel_alloc _ _⟩
  · obtain rfl : R = false := by rw [← hR]; simp; omega
    clear hc h2 hR
    go_enter Try.func102, Try.ntmps102
    go_wp2_with fail
    go_ret
    exact ⟨rfl, bel_alloc _ _⟩
end Go.Proofs.Ytbfpfjkjeekbdaa
