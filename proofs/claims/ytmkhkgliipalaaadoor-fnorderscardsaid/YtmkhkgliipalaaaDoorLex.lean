/- That a long region's operations come up in the text's order, asked in parts: the kernel lets go of its memory between them. -/
import Derived.Test.YtmkhkgliipalaaaDoorCmp
import Derived.Deep.DeepCutAuto
namespace Go.Proofs.YtmkhkgliipalaaaDoor
open Go.ChangeShapes Go.WideShapes Go.ChangeAt Go.RowKit
set_option linter.unusedVariables false
set_option linter.unusedSimpArgs false
/-- Of n, the first k have come up. -/
def upTo (n k : Nat) : Array Bool := (List.replicate k true ++ List.replicate (n - k) false).toArray
theorem upTo_set (n k : Nat) (h : k < n) : (upTo n k).setIfInBounds k true = upTo n (k + 1) := by
  unfold upTo
  obtain ⟨m, hm⟩ : ∃ m, n - k = m + 1 := ⟨n - k - 1, by omega⟩
  have hm2 : n - (k + 1) = m := by omega
  rw [hm, hm2, List.setIfInBounds_toArray, List.replicate_succ, List.set_append_right _ _ (by simp), List.length_replicate, Nat.sub_self, List.set_cons_zero, List.replicate_succ', List.append_assoc]
  rfl
theorem upTo_zero (n : Nat) : Array.replicate n false = upTo n 0 := by
  unfold upTo
  simp
theorem lexB_of {md : Region.Mode} {ops : Array Oper} {n : Nat} (hn : ops.size = n) (hs : Region.noSelect ops = true)
    (h : ∀ k, k < n → ((Region.ready md ops (upTo n k)).contains k && Region.free md ops (upTo n k) k) = true) (he : (Region.ready md ops (upTo n n)).isEmpty = true) : Region.lexB md ops = true := by
  have key : ∀ f k, k + f = n → Region.lexFrom md ops f k (upTo n k) = true := by
    intro f
    induction f with
    | zero => intro k hk; obtain rfl : k = n := by omega
              exact he
    | succ f ih =>
      intro k hk
      simp only [Region.lexFrom]
      rw [upTo_set n k (by omega), h k (by omega), ih (k + 1) (by omega)]
      rfl
  unfold Region.lexB
  rw [hs, hn, upTo_zero, key n 0 (by omega)]
  rfl
theorem parts {p : Nat → Bool} {n : Nat} (h0 : (List.range' 0 16).all p = true) (h1 : (List.range' 16 16).all p = true) (h2 : (List.range' 32 16).all p = true) (h3 : (List.range' 48 16).all p = true)
    (h4 : (List.range' 64 16).all p = true) (h5 : (List.range' 80 16).all p = true) (h6 : (List.range' 96 (n - 96)).all p = true) : ∀ k, k < n → p k = true := by
  intro k hk
  rw [List.all_eq_true] at h0 h1 h2 h3 h4 h5 h6
  by_cases q0 : k < 16
  · exact h0 k (by rw [List.mem_range'_1]; omega)
  by_cases q1 : k < 32
  · exact h1 k (by rw [List.mem_range'_1]; omega)
  by_cases q2 : k < 48
  · exact h2 k (by rw [List.mem_range'_1]; omega)
  by_cases q3 : k < 64
  · exact h3 k (by rw [List.mem_range'_1]; omega)
  by_cases q4 : k < 80
  · exact h4 k (by rw [List.mem_range'_1]; omega)
  by_cases q5 : k < 96
  · exact h5 k (by rw [List.mem_range'_1]; omega)
  · exact h6 k (by rw [List.mem_range'_1]; omega)
end Go.Proofs.YtmkhkgliipalaaaDoor
