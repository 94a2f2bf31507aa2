/- Contracts over one translation: the small functions of the specification's arithmetic: sizes, sums, and whether a number is one of a width. -/
import Derived.Test.YtmkhkgliipalaabDoorAr7
namespace Go.Proofs.YtmkhkgliipalaabDoor
open Go.ChangeShapes Go.WideShapes Go.ChangeAt Go.RowKit
set_option linter.unusedVariables false
set_option linter.unusedSimpArgs false
def szI (v : Int) : Int := if v < 0 then -v else v
set_option maxHeartbeats 1000000 in
theorem size_spec (v : Int) (w : World) (h0 : -9223372036854775808 ≤ v) (h1 : v ≤ 9223372036854775807) :
    Calls Tryd.prog 27 #[.int .i64 v] w fun e w' => e = .returned (.int .u64 (szI v)) ∧ w' = w := by
  by_cases hv : v < 0
  · have H : Hid (szI v = -v) := show szI v = -v by unfold szI; rw [if_pos hv]
    go_enter Tryd.func27, Tryd.ntmps27
    go_wp2
    go_ret
    refine ⟨ret_int ?_, rfl⟩
    rw [H.out]
    first | omega | (simp only [IntKind.wrap_u64]; omega)
  · have H : Hid (szI v = v) := show szI v = v by unfold szI; rw [if_neg hv]
    go_enter Tryd.func27, Tryd.ntmps27
    go_wp2
    go_ret
    refine ⟨ret_int ?_, rfl⟩
    rw [H.out]
set_option maxHeartbeats 1000000 in
theorem sum_spec (a b : Int) (w : World) (a0 : 0 ≤ a) (a1 : a ≤ 18446744073709551615) (b0 : 0 ≤ b) (b1 : b ≤ 18446744073709551615) :
    Calls Tryd.prog 39 #[.int .u64 a, .int .u64 b] w fun e w' => e = .returned (.agg #[.int .u64 (wHi (a + b)), .int .u64 (wLo (a + b))]) ∧ Below w.heap.size w w' := by
  by_cases h : a + b ≤ 18446744073709551615
  · have E : Hid (wHi (a + b) = 0 ∧ wLo (a + b) = a + b) := show wHi (a + b) = 0 ∧ wLo (a + b) = a + b by unfold wHi wLo; omega
    go_enter Tryd.func39, Tryd.ntmps39
    go_wp2
    exact bodyPost_ret (v := .agg #[.int .u64 0, .int .u64 (a + b)]) (by simp [results, Tryd.results39, go_sem]) rfl ⟨ret_agg2 E.out.1.symm E.out.2.symm, bel_alloc _ _⟩
  · have E : Hid (wHi (a + b) = 1 ∧ wLo (a + b) = a + b - 18446744073709551616) := show wHi (a + b) = 1 ∧ wLo (a + b) = a + b - 18446744073709551616 by unfold wHi wLo; omega
    have wr : IntKind.u64.wrap (a + b) = wLo (a + b) := by rw [IntKind.wrap_u64]; rfl
    have lt : wLo (a + b) < a := by rw [E.out.2]; omega
    go_enter Tryd.func39, Tryd.ntmps39
    go_wp2
    exact bodyPost_ret (v := .agg #[.int .u64 1, .int .u64 (wLo (a + b))]) (by simp [results, Tryd.results39, go_sem]) rfl ⟨ret_agg2 E.out.1.symm rfl, bel_alloc _ _⟩
def insI (T : Int) (minus : Bool) (hi lo : Int) : Bool := (hi == 0) && (if minus then decide (lo ≤ T) else decide (lo < T))
set_option maxHeartbeats 1000000 in
theorem ins_spec (x T : Int) (minus : Bool) (hi lo : Int) (w : World) (hT : T = 2 ^ (x.toNat - 1)) (hx : vw x = true) :
    Calls Tryd.prog 38 #[.int .i64 x, .bool minus, .agg #[.int .u64 hi, .int .u64 lo]] w fun e w' => e = .returned (.bool (insI T minus hi lo)) ∧ Below w.heap.size w w' := by
  subst hT
  rcases vw_cases hx with rfl | rfl | rfl | rfl | rfl
  all_goals
    clear hx
    by_cases h0 : hi = 0
    · subst h0
      cases minus
      · go_enter Tryd.func38, Tryd.ntmps38
        go_wp2
        go_ret
        exact ⟨ret_bool (by simp [insI]), by first | exact bel_alloc _ _ | exact bel2 _ _ _⟩
      · go_enter Tryd.func38, Tryd.ntmps38
        go_wp2
        go_ret
        exact ⟨ret_bool (by simp [insI]), by first | exact bel_alloc _ _ | exact bel2 _ _ _⟩
    · have h1 : (hi != 0) = true := by simp [h0]
      have E : Hid ((hi == 0) = false) := beq_eq_false_iff_ne.2 h0
      go_enter Tryd.func38, Tryd.ntmps38
      go_wp2
      go_ret
      exact ⟨ret_bool (by unfold insI; rw [E.out]; rfl), by first | exact bel_alloc _ _ | exact bel2 _ _ _⟩
end Go.Proofs.YtmkhkgliipalaabDoor
