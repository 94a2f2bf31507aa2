/- Contracts over one translation: times, trueOutcome and widen of the program make the two halves of the true sum, difference and product of two numbers. -/
import Derived.Test.YtmkhkgliipalaaaDoorAr1
namespace Go.Proofs.YtmkhkgliipalaaaDoor
open Go.ChangeShapes Go.WideShapes Go.ChangeAt Go.RowKit
set_option linter.unusedVariables false
set_option linter.unusedSimpArgs false
/-- What times reckons of the halves. -/
def timesHi (a b c d : Int) : Int := IntKind.u64.wrap (IntKind.u64.wrap (a * c / 18446744073709551616 + IntKind.u64.wrap (a * d)) + IntKind.u64.wrap (b * c))
set_option maxHeartbeats 1000000 in
theorem times_raw (a b c d : Int) (w : World) (a0 : 0 ≤ a) (b0 : 0 ≤ b) (c0 : 0 ≤ c) (d0 : 0 ≤ d) (a1 : a ≤ 18446744073709551615) (c1 : c ≤ 18446744073709551615) (b1 : b ≤ 18446744073709551615) (d1 : d ≤ 18446744073709551615) :
    Calls Tryd.prog 58 #[.agg #[.int .u64 a, .int .u64 b], .agg #[.int .u64 c, .int .u64 d]] w fun e w' => e = .returned (.agg #[.int .u64 (wLo (a * c)), .int .u64 (timesHi a b c d)]) ∧ Below w.heap.size w w' := by
  go_enter Tryd.func58, Tryd.ntmps58
  go_wp2_with (first | (go_at_call 70; refine (mul64_any _ _ _ a0 c0 a1 c1).mono ?_; rintro e w' ⟨rfl, rfl⟩))
  exact bodyPost_ret (v := .agg #[.int .u64 (wLo (a * c)), .int .u64 (timesHi a b c d)]) (by simp [results, Tryd.results58, go_sem, timesHi]) rfl ⟨rfl, bel3 _ _ _ _⟩
theorem times_hi (A B : Int) : timesHi (wLo A) (wHi A) (wLo B) (wHi B) = wHi (A * B) ∧ wLo (wLo A * wLo B) = wLo (A * B) := by
  have hA : A = A % 18446744073709551616 + 18446744073709551616 * (A / 18446744073709551616) := by omega
  have hB : B = B % 18446744073709551616 + 18446744073709551616 * (B / 18446744073709551616) := by omega
  unfold timesHi wLo wHi
  simp only [IntKind.wrap_u64]
  generalize hp : A % 18446744073709551616 = a at *
  generalize hq : A / 18446744073709551616 = q at *
  generalize hr : B % 18446744073709551616 = b at *
  generalize hs : B / 18446744073709551616 = s at *
  have key : A * B = a * b + 18446744073709551616 * (a * s + q * b + 18446744073709551616 * (q * s)) := by
    rw [hA, hB]
    simp only [Int.add_mul, Int.mul_add, Int.mul_assoc, Int.mul_comm, Int.mul_left_comm]
    omega
  have e1 : a * (s % 18446744073709551616) % 18446744073709551616 = a * s % 18446744073709551616 := by rw [Int.mul_emod, Int.emod_emod, ← Int.mul_emod]
  have e2 : q % 18446744073709551616 * b % 18446744073709551616 = q * b % 18446744073709551616 := by rw [Int.mul_emod, Int.emod_emod, ← Int.mul_emod]
  rw [e1, e2, key]
  generalize a * b = m
  generalize a * s = n
  generalize q * b = o
  generalize q * s = t
  omega
theorem wide_times (A B p q r s : Int) (w : World) (hp : p = wLo A) (hq : q = wHi A) (hr : r = wLo B) (hs : s = wHi B) :
    Calls Tryd.prog 58 #[.agg #[.int .u64 p, .int .u64 q], .agg #[.int .u64 r, .int .u64 s]] w fun e w' => e = .returned (.agg #[.int .u64 (wLo (A * B)), .int .u64 (wHi (A * B))]) ∧ Below w.heap.size w w' := by
  subst hp hq hr hs
  refine (times_raw (wLo A) (wHi A) (wLo B) (wHi B) w (wLo_bd _).1 (wHi_bd _).1 (wLo_bd _).1 (wHi_bd _).1 (wLo_bd _).2 (wLo_bd _).2 (wHi_bd _).2 (wHi_bd _).2).mono ?_
  rintro e w' ⟨rfl, h⟩
  exact ⟨ret_agg2 (times_hi A B).2 (times_hi A B).1, h⟩
theorem wide_plus' (A B p q r s : Int) (w : World) (hp : p = wLo A) (hq : q = wHi A) (hr : r = wLo B) (hs : s = wHi B) :
    Calls Tryd.prog 56 #[.agg #[.int .u64 p, .int .u64 q], .agg #[.int .u64 r, .int .u64 s]] w fun e w' => e = .returned (.agg #[.int .u64 (wLo (A + B)), .int .u64 (wHi (A + B))]) ∧ Below w.heap.size w w' := by
  subst hp hq hr hs
  exact wide_plus A B w
theorem wide_minus' (A B p q r s : Int) (w : World) (hp : p = wLo A) (hq : q = wHi A) (hr : r = wLo B) (hs : s = wHi B) :
    Calls Tryd.prog 57 #[.agg #[.int .u64 p, .int .u64 q], .agg #[.int .u64 r, .int .u64 s]] w fun e w' => e = .returned (.agg #[.int .u64 (wLo (A - B)), .int .u64 (wHi (A - B))]) ∧ Below w.heap.size w w' := by
  subst hp hq hr hs
  exact wide_minus A B w
def arT (op a b : Int) : Int := if op = 1 then a + b else if op = 2 then a - b else a * b
set_option maxHeartbeats 2000000 in
theorem trueOutcome_any (op A B p q r s : Int) (w : World) (ho : op = 1 ∨ op = 2 ∨ op = 3) (hp : p = wLo A) (hq : q = wHi A) (hr : r = wLo B) (hs : s = wHi B) :
    Calls Tryd.prog 46 #[.int .i64 op, .agg #[.int .u64 p, .int .u64 q], .agg #[.int .u64 r, .int .u64 s]] w fun e w' => e = .returned (.agg #[.int .u64 (wLo (arT op A B)), .int .u64 (wHi (arT op A B))]) ∧ Below w.heap.size w w' := by
  have HP : Hid (p = wLo A) := hp
  have HQ : Hid (q = wHi A) := hq
  have HR : Hid (r = wLo B) := hr
  have HS : Hid (s = wHi B) := hs
  clear hp hq hr hs
  rcases ho with rfl | rfl | rfl
  · go_enter Tryd.func46, Tryd.ntmps46
    go_wp2_with fail
    refine (wide_plus' A B _ _ _ _ _ HP.out HQ.out HR.out HS.out).mono ?_
    rintro e w1 ⟨rfl, hb⟩
    have c0 : w1.cell? ⟨w.heap.size + 1 + 1, 0, none⟩ = some (.int .u64 0) := by rw [hb.cell (p := ⟨w.heap.size + 1 + 1, 0, none⟩) (by simp)]; simp [go_sem]
    have c1 : w1.cell? ⟨w.heap.size + 1 + 1, 1, none⟩ = some (.int .u64 0) := by rw [hb.cell (p := ⟨w.heap.size + 1 + 1, 1, none⟩) (by simp)]; simp [go_sem]
    have d0 : w1.frozen? ⟨w.heap.size + 1 + 1, 0, none⟩ = false := by rw [hb.frozen (p := ⟨w.heap.size + 1 + 1, 0, none⟩) (by simp)]; simp [go_sem]
    have d1 : w1.frozen? ⟨w.heap.size + 1 + 1, 1, none⟩ = false := by rw [hb.frozen (p := ⟨w.heap.size + 1 + 1, 1, none⟩) (by simp)]; simp [go_sem]
    go_wp2_with fail
    exact bodyPost_ret (v := .agg #[.int .u64 (wLo (A + B)), .int .u64 (wHi (A + B))]) (by simp [results, Tryd.results46, go_sem, c0, c1]) rfl ⟨rfl, ((bel_trans (bel3 _ _ _ _) hb).setCell (by simp; omega) _).setCell (by simp; omega) _⟩
  · go_enter Tryd.func46, Tryd.ntmps46
    go_wp2_with fail
    refine (wide_minus' A B _ _ _ _ _ HP.out HQ.out HR.out HS.out).mono ?_
    rintro e w1 ⟨rfl, hb⟩
    have c0 : w1.cell? ⟨w.heap.size + 1 + 1, 0, none⟩ = some (.int .u64 0) := by rw [hb.cell (p := ⟨w.heap.size + 1 + 1, 0, none⟩) (by simp)]; simp [go_sem]
    have c1 : w1.cell? ⟨w.heap.size + 1 + 1, 1, none⟩ = some (.int .u64 0) := by rw [hb.cell (p := ⟨w.heap.size + 1 + 1, 1, none⟩) (by simp)]; simp [go_sem]
    have d0 : w1.frozen? ⟨w.heap.size + 1 + 1, 0, none⟩ = false := by rw [hb.frozen (p := ⟨w.heap.size + 1 + 1, 0, none⟩) (by simp)]; simp [go_sem]
    have d1 : w1.frozen? ⟨w.heap.size + 1 + 1, 1, none⟩ = false := by rw [hb.frozen (p := ⟨w.heap.size + 1 + 1, 1, none⟩) (by simp)]; simp [go_sem]
    go_wp2_with fail
    exact bodyPost_ret (v := .agg #[.int .u64 (wLo (A - B)), .int .u64 (wHi (A - B))]) (by simp [results, Tryd.results46, go_sem, c0, c1]) rfl ⟨rfl, ((bel_trans (bel3 _ _ _ _) hb).setCell (by simp; omega) _).setCell (by simp; omega) _⟩
  · go_enter Tryd.func46, Tryd.ntmps46
    go_wp2_with fail
    refine (wide_times A B _ _ _ _ _ HP.out HQ.out HR.out HS.out).mono ?_
    rintro e w1 ⟨rfl, hb⟩
    have c0 : w1.cell? ⟨w.heap.size + 1 + 1, 0, none⟩ = some (.int .u64 0) := by rw [hb.cell (p := ⟨w.heap.size + 1 + 1, 0, none⟩) (by simp)]; simp [go_sem]
    have c1 : w1.cell? ⟨w.heap.size + 1 + 1, 1, none⟩ = some (.int .u64 0) := by rw [hb.cell (p := ⟨w.heap.size + 1 + 1, 1, none⟩) (by simp)]; simp [go_sem]
    have d0 : w1.frozen? ⟨w.heap.size + 1 + 1, 0, none⟩ = false := by rw [hb.frozen (p := ⟨w.heap.size + 1 + 1, 0, none⟩) (by simp)]; simp [go_sem]
    have d1 : w1.frozen? ⟨w.heap.size + 1 + 1, 1, none⟩ = false := by rw [hb.frozen (p := ⟨w.heap.size + 1 + 1, 1, none⟩) (by simp)]; simp [go_sem]
    go_wp2_with fail
    exact bodyPost_ret (v := .agg #[.int .u64 (wLo (A * B)), .int .u64 (wHi (A * B))]) (by simp [results, Tryd.results46, go_sem, c0, c1]) rfl ⟨rfl, ((bel_trans (bel3 _ _ _ _) hb).setCell (by simp; omega) _).setCell (by simp; omega) _⟩
set_option maxHeartbeats 1000000 in
theorem widen_any (n : Int) (w : World) (n0 : -9223372036854775808 ≤ n) (n1 : n ≤ 9223372036854775807) :
    Calls Tryd.prog 47 #[.int .i64 n] w fun e w' => e = .returned (.agg #[.int .u64 (wLo n), .int .u64 (wHi n)]) ∧ Below w.heap.size w w' := by
  go_enter Tryd.func47, Tryd.ntmps47
  go_wp2_with fail
  exact bodyPost_ret (v := .agg #[.int .u64 (IntKind.u64.wrap n), .int .u64 (IntKind.u64.wrap (n / 9223372036854775808))]) (by simp [results, Tryd.results47, go_sem]) rfl ⟨ret_agg2 (by rw [IntKind.wrap_u64]; rfl) (by rw [IntKind.wrap_u64]; unfold wHi; omega), bel_alloc _ _⟩
end Go.Proofs.YtmkhkgliipalaaaDoor
