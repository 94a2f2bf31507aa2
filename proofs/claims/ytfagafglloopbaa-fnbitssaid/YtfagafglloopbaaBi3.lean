/- The program's writer: numbers in pieces; what is no bits; PutBits, PutVar. -/
import Derived.Test.YtfagafglloopbaaBi2
namespace Go.Proofs.Ytfagafglloopbaa
open Go.ChangeShapes Go.WideShapes Go.ChangeAt Go.RowKit
open Go.Sort (grow)
set_option linter.unusedVariables false
set_option linter.unusedSimpArgs false
/-- A number in pieces of m bits and one that tells whether more follow. -/
def varL (m : Nat) : Nat → List Int → Nat → Int → List Int × Nat
  | 0, xs, c, v => (pushB (putB xs c v m) (c + m) 0, c + m + 1)
  | f + 1, xs, c, v => if v / 2 ^ m = 0 then (pushB (putB xs c v m) (c + m) 0, c + m + 1) else varL m f (pushB (putB xs c v m) (c + m) 1) (c + m + 1) (v / 2 ^ m)
theorem pow_pos2 (i : Nat) : (0 : Int) < 2 ^ i := Int.pow_pos (by decide)
theorem two_le_pow {m : Nat} (h : 1 ≤ m) : (2 : Int) ≤ 2 ^ m := by
  obtain ⟨j, rfl⟩ : ∃ j, m = j + 1 := ⟨m - 1, by omega⟩
  have := pow_pos2 j
  rw [Int.pow_succ]
  omega
theorem half_lt {u : Int} {m f : Nat} (h0 : 0 ≤ u) (h : u < 2 ^ (f + 1)) (hm : 1 ≤ m) : 0 ≤ u / 2 ^ m ∧ u / 2 ^ m < 2 ^ f := by
  have hp := pow_pos2 m
  refine ⟨Int.ediv_nonneg h0 (by omega), Int.ediv_lt_of_lt_mul hp ?_⟩
  have e : (2 : Int) ^ f * 2 ^ m = 2 ^ (f + 1) * 2 ^ (m - 1) := by
    rw [← Int.pow_add, ← Int.pow_add]
    congr 1
    omega
  rw [e]
  have h2 := pow_pos2 (m - 1)
  have h3 : (2 : Int) ^ (f + 1) * 1 ≤ 2 ^ (f + 1) * 2 ^ (m - 1) := Int.mul_le_mul_of_nonneg_left (by omega) (by have := pow_pos2 (f + 1); omega)
  omega
set_option maxRecDepth 100000 in
theorem bitCountI (n : Int) (w : World) : Calls Try.prog 25 #[.int .i64 n] w fun e w' => e = .returned (.bool (decide (1 ≤ n) && decide (n ≤ 64))) ∧ w' = w := by
  by_cases h0 : 1 ≤ n
  · by_cases h1 : n ≤ 64
    · have e0 : decide (1 ≤ n) = true := by simp [h0]
      have e1 : decide (n ≤ 64) = true := by simp [h1]
      rw [e0, e1]
      go_enter Try.func25, Try.ntmps25
      go_wp2_with fail
      go_ret
      exact ⟨rfl, rfl⟩
    · have e0 : decide (1 ≤ n) = true := by simp [h0]
      have e1 : decide (n ≤ 64) = false := by simp; omega
      rw [e0, e1]
      go_enter Try.func25, Try.ntmps25
      go_wp2_with fail
      go_ret
      exact ⟨rfl, rfl⟩
  · have e0 : decide (1 ≤ n) = false := by simp; omega
    rw [e0, Bool.false_and]
    go_enter Try.func25, Try.ntmps25
    go_wp2_with fail
    go_ret
    exact ⟨rfl, rfl⟩
set_option maxRecDepth 100000 in
theorem pieceSizeI (n : Int) (w : World) : Calls Try.prog 27 #[.int .i64 n] w fun e w' => e = .returned (.bool (decide (2 ≤ n) && decide (n ≤ 32))) ∧ w' = w := by
  by_cases h0 : 2 ≤ n
  · by_cases h1 : n ≤ 32
    · have e0 : decide (2 ≤ n) = true := by simp [h0]
      have e1 : decide (n ≤ 32) = true := by simp [h1]
      rw [e0, e1]
      go_enter Try.func27, Try.ntmps27
      go_wp2_with fail
      go_ret
      exact ⟨rfl, rfl⟩
    · have e0 : decide (2 ≤ n) = true := by simp [h0]
      have e1 : decide (n ≤ 32) = false := by simp; omega
      rw [e0, e1]
      go_enter Try.func27, Try.ntmps27
      go_wp2_with fail
      go_ret
      exact ⟨rfl, rfl⟩
  · have e0 : decide (2 ≤ n) = false := by simp; omega
    rw [e0, Bool.false_and]
    go_enter Try.func27, Try.ntmps27
    go_wp2_with fail
    go_ret
    exact ⟨rfl, rfl⟩
set_option maxRecDepth 100000 in
set_option maxHeartbeats 2000000 in
theorem piecesI (B : Nat) (v : Int) (m : Nat) (xs : List Int) (c base : Nat) (w : World) (h : Wtr 45 base w B xs c) (hb : base ≤ B) (v0 : 0 ≤ v) (v1 : v < 18446744073709551616) (m0 : 1 ≤ m) (m1 : m ≤ 31) (hc : c ≤ 140737488355328) (hs : Snd xs c) :
    Calls Try.prog 28 #[.pointer (some ⟨B, 0, none⟩), .int .u64 v, .int .i64 ((m : Int) + 1)] w fun e w' => e = .returned (.tuple #[]) ∧ Wtr 45 base w' B (varL m 64 xs c v).1 (varL m 64 xs c v).2 ∧ Below base w w' := by
  obtain ⟨R, hR⟩ : ∃ R, Kp (varL m 64 xs c v = R) := ⟨_, ⟨rfl⟩⟩
  rw [hR.out]
  have H0 := Kp.mk h
  have HS := Kp.mk hs
  clear h hs
  have C : Kp (∀ u ys k W n, Wtr 45 base W B ys k → 0 ≤ u → u < 18446744073709551616 → (n ≤ 64) → k ≤ 281474976710656 → Snd ys k → Calls Try.prog 26 #[.pointer (some ⟨B, 0, none⟩), .int .u64 u, .int .i64 ((n : Nat) : Int)] W _) := ⟨fun u ys k W n h a b c d e => putI B u n ys k base W h hb a b c d e⟩
  go_enter Try.func28, Try.ntmps28
  go_wp2_with fail
  go_loopw [1] (fun s wr => ∃ (f : Nat) (u : Int) (ys : List Int) (k : Nat), s = .int .u64 u ∧ (f ≤ 64 ∧ 0 ≤ u ∧ u < 18446744073709551616) ∧ Kp (u < 2 ^ f) ∧ Kp (k + f * 33 ≤ c + 64 * 33) ∧ Kp (varL m f ys k u = R) ∧ Kp (Snd ys k) ∧ Kp (Wtr 45 base wr B ys k) ∧ Below base w wr) (fun s _ => (intOf s).toNat)
  case atStart => exact ⟨64, v, xs, c, rfl, ⟨by omega, v0, v1⟩, ⟨by simpa using v1⟩, ⟨by omega⟩, hR, HS, H0, Below.refl _ _⟩
  case round =>
    obtain ⟨f, u, ys, k, rfl, ⟨f64, u0, u1⟩, uf, hk, hV, hS, hW, hB⟩ := hrel
    have hmm : (m : Int) + 1 - 1 = m := by omega
    by_cases hz : u / 2 ^ m = 0
    · have hzb : (u / 2 ^ m != 0) = false := by simp [hz]
      have hkb := hk.out
      have G1 := C.out u ys k wr (m + 1) hW.out u0 u1 (by omega) (by omega) hS.out
      have e1 : ((m + 1 : Nat) : Int) = (m : Int) + 1 := by push_cast; rfl
      have e2 : putB ys k u (m + 1) = R.1 ∧ k + (m + 1) = R.2 := by
        rw [← hV.out]
        cases f with
        | zero => exact ⟨by simp [varL, putB, hz], rfl⟩
        | succ f => simp only [varL, if_pos hz]; exact ⟨by simp [putB, hz], rfl⟩
      rw [e1, e2.1, e2.2] at G1
      replace G1 := Kp.mk G1
      clear e2 e1 uf hkb hk hW hS HS H0 hR C hV
      go_wp2_with fail
      refine G1.out.mono ?_
      rintro e w1 ⟨rfl, hW1, hB1⟩
      have hB2 := hB.trans hB1
      clear G1
      go_wp2_with fail
      go_end0
      exact ⟨rfl, hW1, hB2⟩
    · have hzb : (u / 2 ^ m != 0) = true := by simp [hz]
      obtain ⟨f, rfl⟩ : ∃ f', f = f' + 1 := by
        cases f with
        | zero =>
          exfalso
          have := uf.out
          obtain rfl : u = 0 := by simp at this; omega
          simp at hz
        | succ f => exact ⟨f, rfl⟩
      have hkb := hk.out
      have hlt := half_lt u0 uf.out m0
      have G1 := Kp.mk (C.out u ys k wr m hW.out u0 u1 (by omega) (by omega) hS.out)
      have G2 := Kp.mk (fun W h => C.out 1 (putB ys k u m) (k + m) W 1 h (by decide) (by decide) (by decide) (by omega) (hS.out.put u m))
      have e1 : putB (putB ys k u m) (k + m) 1 1 = pushB (putB ys k u m) (k + m) 1 := by simp [putB]
      have hn1 : Kp (k + m + 1 + f * 33 ≤ c + 64 * 33) := ⟨by omega⟩
      have hn2 : Kp (varL m f (pushB (putB ys k u m) (k + m) 1) (k + m + 1) (u / 2 ^ m) = R) := ⟨by rw [← hV.out, varL, if_neg hz]⟩
      have hn3 : Kp (Snd (pushB (putB ys k u m) (k + m) 1) (k + m + 1)) := ⟨(hS.out.put u m).push (by decide) (by decide)⟩
      have hn4 : Kp (u / 2 ^ m < 2 ^ f) := ⟨hlt.2⟩
      have hn5 : 0 ≤ u / 2 ^ m ∧ u / 2 ^ m < u := by
        have hu : u ≠ 0 := by rintro rfl; simp at hz
        refine ⟨hlt.1, Int.ediv_lt_of_lt_mul (pow_pos2 m) ?_⟩
        have h3 : u * 2 ≤ u * 2 ^ m := Int.mul_le_mul_of_nonneg_left (two_le_pow m0) u0
        omega
      rw [e1] at G2
      clear e1 hlt hkb hk hW hS HS H0 hR C hV uf
      go_wp2_with fail
      refine G1.out.mono ?_
      rintro e w1 ⟨rfl, hW1, hB1⟩
      have hB2 := hB.trans hB1
      have G3 := Kp.mk (G2.out w1 hW1)
      clear G1 G2 hB hB1 hW1
      go_wp2_with fail
      refine G3.out.mono ?_
      rintro e w2 ⟨rfl, hW2, hB3⟩
      have hB4 := hB2.trans hB3
      have hu1 : u / 2 ^ m < 18446744073709551616 := by omega
      obtain ⟨q, hq⟩ : ∃ q, q = u / 2 ^ m := ⟨_, rfl⟩
      clear G3 hB2 hB3
      go_wp2_with fail
      exact ⟨⟨f, u / 2 ^ m, _, _, rfl, ⟨by omega, hn5.1, hu1⟩, hn4, hn1, hn2, hn3, ⟨hW2⟩, hB4⟩, by simp [intOf]; omega⟩
end Go.Proofs.Ytfagafglloopbaa
