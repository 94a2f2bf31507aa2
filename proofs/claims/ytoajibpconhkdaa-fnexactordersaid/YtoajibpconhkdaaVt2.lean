/- A row that a call owns: marked and looked at again; the library's copy of a row of whole numbers. -/
import Derived.Test.YtoajibpconhkdaaVt1
import Derived.Test.YtoajibpconhkdaaMk2
import Derived.Lib.SliceRun
namespace Go.Proofs.Ytoajibpconhkdaa
open Go.ChangeShapes Go.WideShapes Go.ChangeAt Go.RowKit
open Go.Sort (grow)
set_option linter.unusedVariables false
set_option linter.unusedSimpArgs false
theorem markI (v : Value) (xs : List Int) (base : Nat) (k : Int) (w : World) (h : OwnI w base v xs) (hn : xs.length ≤ 1048576) (k0 : 0 ≤ k) (k1 : k ≤ 1048576) :
    Calls Try.prog 13 #[v, .int .i64 k] w fun e w' => e = .returned (.int .i64 (k + xs.length)) ∧ Below base w w' ∧ ∃ b o, Sl v xs.length b o ∧ ∀ i, i < xs.length → At w' b (o + i) (.int .i64 (k + i)) := by
  by_cases h0 : 0 < xs.length
  · obtain ⟨B, q, hb⟩ := h.own hn h0
    refine (markInts v _ B 0 k w q hn k0 (by omega)).mono ?_
    rintro e w' ⟨rfl, -, hc, -, -, hB⟩
    exact ⟨rfl, hB _ hb, B, 0, q.s, hc⟩
  · obtain ⟨b, o, s, l, c⟩ := (h.ints hn).ex
    refine (mkInts base 0 v xs.length k w ⟨b, o, s, fun i hi => absurd hi (by omega)⟩ ⟨fun b o _ q => absurd q (by omega)⟩ (Nat.zero_le _) hn k0 (by omega)).mono ?_
    rintro e w' ⟨rfl, hM⟩
    exact ⟨rfl, hM.bel, b, o, s, fun i hi => absurd hi (by omega)⟩
end Go.Proofs.Ytoajibpconhkdaa
