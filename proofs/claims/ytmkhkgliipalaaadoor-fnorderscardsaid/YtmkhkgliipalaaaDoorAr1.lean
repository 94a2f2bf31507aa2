/- Contracts over one translation for numbers of 128 bits: widen, plus, minus, times and trueOutcome of the program make the two halves of the true sum, difference and product. -/
import Derived.Test.YtmkhkgliipalaaaDoorWords2
import Derived.Deep.RegionWith
import Derived.Laws.MathBits
import Derived.Laws.Externs
import Derived.Laws.StructEq
import Derived.Shelf.Spec.BitsCarry
namespace Go.Proofs.YtmkhkgliipalaaaDoor
open Go.ChangeShapes Go.WideShapes Go.ChangeAt Go.RowKit
set_option linter.unusedVariables false
set_option linter.unusedSimpArgs false
theorem add64_run (x y c : Int) (hx : 0 ≤ x) (hy : 0 ≤ y) (hc0 : 0 ≤ c) (hc : c ≤ 1) (w : World) :
    (callFunc 68 #[.int .u64 x, .int .u64 y, .int .u64 c]).run Tryd.prog w = .ok (.value (.tuple #[.int .u64 ((x + y + c) % 18446744073709551616), .int .u64 ((x + y + c) / 18446744073709551616)])) w := by
  rw [run_callFunc_extern Tryd.func68 (by kernel_rfl) (by kernel_rfl) (by kernel_rfl) (e := add64Entry) (by kernel_rfl), run_add64 x y c hx hy hc0 hc]
  rfl
theorem sub64_run (x y c : Int) (hx : 0 ≤ x) (hx1 : x ≤ 18446744073709551615) (hy : 0 ≤ y) (hy1 : y ≤ 18446744073709551615) (hc0 : 0 ≤ c) (hc : c ≤ 1) (w : World) :
    (callFunc 69 #[.int .u64 x, .int .u64 y, .int .u64 c]).run Tryd.prog w = .ok (.value (.tuple #[.int .u64 ((x - y - c) % 18446744073709551616), .int .u64 (- ((x - y - c) / 18446744073709551616))])) w := by
  obtain ⟨X, rfl⟩ := Int.eq_ofNat_of_zero_le hx
  obtain ⟨Y, rfl⟩ := Int.eq_ofNat_of_zero_le hy
  obtain ⟨C, rfl⟩ := Int.eq_ofNat_of_zero_le hc0
  rw [run_callFunc_extern Tryd.func69 (by kernel_rfl) (by kernel_rfl) (by kernel_rfl) (e := sub64Entry) (by kernel_rfl), run_sub64 X Y C (by omega)]
  simp only [Result.andThen]
  have e1 : (((X + 18446744073709551616 - Y - C) % 18446744073709551616 : Nat) : Int) = ((X : Int) - Y - C) % 18446744073709551616 := by omega
  have e2 : ((if X < Y + C then 1 else 0 : Nat) : Int) = - (((X : Int) - Y - C) / 18446744073709551616) := by split <;> omega
  rw [e1, e2]
theorem wrapU_bd (n : Int) : 0 ≤ IntKind.u64.wrap n ∧ IntKind.u64.wrap n ≤ 18446744073709551615 := by rw [IntKind.wrap_u64]; omega
theorem bel3 (w : World) (o p q : Obj) : Below w.heap.size w (((w.alloc o).alloc p).alloc q) := bel_trans (bel_trans (bel_alloc _ _) (bel_alloc _ _)) (bel_alloc _ _)
theorem bel2 (w : World) (o p : Obj) : Below w.heap.size w ((w.alloc o).alloc p) := bel_trans (bel_alloc _ _) (bel_alloc _ _)

/-- The two halves of a number in two's complement. -/
def wLo (T : Int) : Int := T % 18446744073709551616
def wHi (T : Int) : Int := T / 18446744073709551616 % 18446744073709551616
theorem wLo_bd (T : Int) : 0 ≤ wLo T ∧ wLo T ≤ 18446744073709551615 := by unfold wLo; omega
theorem wHi_bd (T : Int) : 0 ≤ wHi T ∧ wHi T ≤ 18446744073709551615 := by unfold wHi; omega
def wideV (T : Int) : Value := .agg #[.int .u64 (wLo T), .int .u64 (wHi T)]
theorem wide_inj {S T : Int} (hS : -170141183460469231731687303715884105728 ≤ S ∧ S < 170141183460469231731687303715884105728) (hT : -170141183460469231731687303715884105728 ≤ T ∧ T < 170141183460469231731687303715884105728) (h : wLo S = wLo T ∧ wHi S = wHi T) : S = T := by
  unfold wLo wHi at h; omega
theorem ret_agg2 {a b c d : Int} (h1 : a = c) (h2 : b = d) : Ending.returned (.agg #[.int .u64 a, .int .u64 b]) = .returned (.agg #[.int .u64 c, .int .u64 d]) := by rw [h1, h2]

set_option maxHeartbeats 1000000 in
theorem plus_raw (a b c d : Int) (w : World) (a0 : 0 ≤ a) (b0 : 0 ≤ b) (c0 : 0 ≤ c) (d0 : 0 ≤ d) (a1 : a ≤ 18446744073709551615) (c1 : c ≤ 18446744073709551615) :
    Calls Tryd.prog 56 #[.agg #[.int .u64 a, .int .u64 b], .agg #[.int .u64 c, .int .u64 d]] w fun e w' => e = .returned (.agg #[.int .u64 ((a + c) % 18446744073709551616), .int .u64 ((b + d + (a + c) / 18446744073709551616) % 18446744073709551616)]) ∧ Below w.heap.size w w' := by
  have h1 := fun w => add64_run a c 0 (by omega) (by omega) (by omega) (by omega) w
  have h2 := fun w => add64_run b d ((a + c + 0) / 18446744073709551616) (by omega) (by omega) (by omega) (by omega) w
  simp only [Int.add_zero] at h1 h2
  go_enter Tryd.func56, Tryd.ntmps56
  go_wp2_with fail
  exact bodyPost_ret (v := .agg #[.int .u64 ((a + c) % 18446744073709551616), .int .u64 ((b + d + (a + c) / 18446744073709551616) % 18446744073709551616)]) (by simp [results, Tryd.results56, go_sem]) rfl ⟨rfl, bel3 _ _ _ _⟩
theorem wide_plus (A B : Int) (w : World) :
    Calls Tryd.prog 56 #[wideV A, wideV B] w fun e w' => e = .returned (wideV (A + B)) ∧ Below w.heap.size w w' := by
  refine (plus_raw (wLo A) (wHi A) (wLo B) (wHi B) w (wLo_bd _).1 (wHi_bd _).1 (wLo_bd _).1 (wHi_bd _).1 (wLo_bd _).2 (wLo_bd _).2).mono ?_
  rintro e w' ⟨rfl, h⟩
  exact ⟨ret_agg2 (by unfold wLo; omega) (by unfold wLo wHi; omega), h⟩
set_option maxHeartbeats 1000000 in
theorem minus_raw (a b c d : Int) (w : World) (a0 : 0 ≤ a) (b0 : 0 ≤ b) (c0 : 0 ≤ c) (d0 : 0 ≤ d) (a1 : a ≤ 18446744073709551615) (c1 : c ≤ 18446744073709551615) (b1 : b ≤ 18446744073709551615) (d1 : d ≤ 18446744073709551615) :
    Calls Tryd.prog 57 #[.agg #[.int .u64 a, .int .u64 b], .agg #[.int .u64 c, .int .u64 d]] w fun e w' => e = .returned (.agg #[.int .u64 ((a - c) % 18446744073709551616), .int .u64 ((b - d - -((a - c) / 18446744073709551616)) % 18446744073709551616)]) ∧ Below w.heap.size w w' := by
  have h1 := fun w => sub64_run a c 0 (by omega) (by omega) (by omega) (by omega) (by omega) (by omega) w
  have h2 := fun w => sub64_run b d (-((a - c - 0) / 18446744073709551616)) (by omega) (by omega) (by omega) (by omega) (by omega) (by omega) w
  simp only [Int.sub_zero] at h1 h2
  go_enter Tryd.func57, Tryd.ntmps57
  go_wp2_with fail
  exact bodyPost_ret (v := .agg #[.int .u64 ((a - c) % 18446744073709551616), .int .u64 ((b - d - -((a - c) / 18446744073709551616)) % 18446744073709551616)]) (by simp [results, Tryd.results57, go_sem]) rfl ⟨rfl, bel3 _ _ _ _⟩
theorem wide_minus (A B : Int) (w : World) :
    Calls Tryd.prog 57 #[wideV A, wideV B] w fun e w' => e = .returned (wideV (A - B)) ∧ Below w.heap.size w w' := by
  refine (minus_raw (wLo A) (wHi A) (wLo B) (wHi B) w (wLo_bd _).1 (wHi_bd _).1 (wLo_bd _).1 (wHi_bd _).1 (wLo_bd _).2 (wLo_bd _).2 (wHi_bd _).2 (wHi_bd _).2).mono ?_
  rintro e w' ⟨rfl, h⟩
  exact ⟨ret_agg2 (by unfold wLo; omega) (by unfold wLo wHi; omega), h⟩
theorem and_32 (z : Int) (h0 : 0 ≤ z) (h1 : z ≤ 18446744073709551615) : bits .and .u64 z 4294967295 = z % 4294967296 := and_low32 z h0 (by omega)
set_option maxHeartbeats 1000000 in
theorem mul64_any (a c : Int) (w : World) (a0 : 0 ≤ a) (c0 : 0 ≤ c) (a1 : a ≤ 18446744073709551615) (c1 : c ≤ 18446744073709551615) :
    Calls Tryd.prog 70 #[.int .u64 a, .int .u64 c] w fun e w' => e = .returned (.tuple #[.int .u64 (a * c / 18446744073709551616), .int .u64 (wLo (a * c))]) ∧ w' = w := by
  have H := mul64_arith a c a0 (by omega) c0 (by omega)
  have H' : Hid _ := H
  clear H
  go_enter Tryd.func70, Tryd.ntmps70
  go_wp2_with fail
  go_ret2
  refine ⟨?_, rfl⟩
  have A1 := and_32 a a0 a1
  have C1 := and_32 c c0 c1
  simp only [A1, C1]
  rw [and_32 _ (wrapU_bd _).1 (wrapU_bd _).2]
  simp only [IntKind.wrap_u64]
  rw [H'.out]
  rfl
end Go.Proofs.YtmkhkgliipalaaaDoor
