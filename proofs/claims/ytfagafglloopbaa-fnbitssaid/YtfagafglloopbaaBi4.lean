/- What is no bits: the program; a writer behind bits; PutBits, PutVar. -/
import Derived.Test.YtfagafglloopbaaBi3
import Derived.Handy
namespace Go.Proofs.Ytfagafglloopbaa
open Go.ChangeShapes Go.WideShapes Go.ChangeAt Go.RowKit
open Go.Sort (grow)
set_option linter.unusedVariables false
set_option linter.unusedSimpArgs false
/-- Are these bits as they have to be? -/
def okB (xs : List Int) (c : Int) : Prop := 0 ≤ c ∧ (xs.length : Int) = (c + 7) / 8 ∧ (c % 8 ≠ 0 → xs.getD (c.toNat / 8) 0 < 2 ^ (c.toNat % 8))
open Classical in
noncomputable def sndOf (xs : List Int) (c : Int) : List Int × Nat := if okB xs c then (xs, c.toNat) else ([], 0)
theorem sndOf_yes {xs : List Int} {c : Int} (h : okB xs c) : sndOf xs c = (xs, c.toNat) := if_pos h
theorem sndOf_no {xs : List Int} {c : Int} (h : ¬ okB xs c) : sndOf xs c = ([], 0) := if_neg h
theorem sndOf_snd {xs : List Int} {c : Int} (hb : ∀ i (h : i < xs.length), 0 ≤ xs[i] ∧ xs[i] < 256) : Snd (sndOf xs c).1 (sndOf xs c).2 := by
  by_cases h : okB xs c
  · rw [sndOf_yes h]
    obtain ⟨h0, h1, h2⟩ := h
    refine ⟨by dsimp only; omega, hb, fun e hl => ?_⟩
    have := h2 (by dsimp only at e; omega)
    simpa [List.getD_eq_getElem?_getD, hl] using this
  · rw [sndOf_no h]
    exact ⟨rfl, fun i hi => by simp at hi, fun e => by simp at e⟩
theorem nilB (w : World) (lo : Nat) : Ints lo .u8 w (.slice none 0 0) [] := ⟨lo, 0, ⟨⟨none, 0, rfl, Nat.le_refl _, fun h => absurd h (by simp)⟩, by simp⟩, Nat.le_refl _, fun i hi => by simp at hi⟩
set_option maxRecDepth 100000 in
set_option maxHeartbeats 2000000 in
theorem soundI (v : Value) (xs : List Int) (c : Int) (w : World) {lo : Nat} (h : Ints lo .u8 w v xs) (hn : xs.length ≤ 1048576) (c0 : -9223372036854775808 ≤ c) (c1 : c ≤ 9223372036854775807) (hb : ∀ i (h : i < xs.length), 0 ≤ xs[i] ∧ xs[i] < 256) :
    Calls Try.prog 29 #[.agg #[v, .int .i64 c]] w fun e w' => ∃ v', e = .returned (.agg #[v', .int .i64 ((sndOf xs c).2 : Int)]) ∧ (∀ W0 l, Ints l .u8 W0 v xs → Ints l .u8 W0 v' (sndOf xs c).1) ∧ Below w.heap.size w w' := by
  have hI := h
  obtain ⟨b, o, ⟨⟨a, cap, rfl, h1, h2⟩, h3⟩, -, hc⟩ := h.ex
  have NB := Kp.mk (nilB w lo)
  replace hI := Kp.mk hI
  have hn' : (xs.length : Int) ≤ 1048576 := by omega
  by_cases hneg : c < 0
  · rw [sndOf_no (fun h => by have := h.1; omega)]
    have e1 : c.tmod 8 ≤ 0 := by
      have h1 := Int.tmod_nonneg (a := -c) 8 (by omega)
      rw [Int.neg_tmod] at h1
      omega
    have e2 : decide (c < 0) = true := by simp [hneg]
    clear hc h2
    go_enter Try.func29, Try.ntmps29
    go_wp2_with fail
    go_region
    go_wp2_with fail
    go_returns
    exact ⟨_, rfl, fun W0 l _ => nilB W0 l, ((bel_alloc w _).alloc (by simp) _).drew⟩
  · obtain ⟨K, rfl⟩ := Int.eq_ofNat_of_zero_le (show 0 ≤ c by omega)
    have e2 : decide ((K : Int) < 0) = false := by simp
    by_cases h8 : K % 8 = 0
    · have e8 : decide (0 < (K : Int) % 8) = false := by simp; omega
      by_cases hl : xs.length = K / 8
      · have hlb : ((xs.length : Int) != (K : Int) / 8) = false := by simp; omega
        rw [sndOf_yes (show okB xs K from ⟨by omega, by omega, fun h => absurd h (by omega)⟩)]
        replace hl := Kp.mk hl
        clear hc h2 h8
        go_enter Try.func29, Try.ntmps29
        go_wp2_with fail
        go_region
        go_wp2_with fail
        go_returns
        exact ⟨_, rfl, fun W0 l h => h, (((bel_alloc w _).alloc (by simp) _).drew)⟩
      · have hlb : ((xs.length : Int) != (K : Int) / 8) = true := by simp; omega
        rw [sndOf_no (fun h => by have := h.2.1; omega)]
        replace hl := Kp.mk hl
        clear hc h2 h8
        go_enter Try.func29, Try.ntmps29
        go_wp2_with fail
        go_region
        go_wp2_with fail
        go_returns
        exact ⟨_, rfl, fun W0 l _ => nilB W0 l, (((bel_alloc w _).alloc (by simp) _).drew)⟩
    · have e8 : decide (0 < (K : Int) % 8) = true := by simp; omega
      by_cases hl : xs.length = K / 8 + 1
      · have hlb : ((xs.length : Int) != (K : Int) / 8 + 1) = false := by simp; omega
        have hl2 : K / 8 < xs.length := by omega
        obtain rfl := h2 (by omega)
        have hx := hc (K / 8) hl2
        have hxb := hb (K / 8) hl2
        obtain ⟨x, hxe⟩ : ∃ x, Kp (x = xs[K / 8]) := ⟨_, ⟨rfl⟩⟩
        rw [← hxe.out] at hx hxb
        obtain ⟨hx0, hx1⟩ := hxb
        have hxl : b < w.heap.size := Lib.lt_of_cell hx
        have hxl1 : b ≠ w.heap.size := by omega
        have hxl2 : b ≠ w.heap.size + 1 := by omega
        have hxd : Kp (xs.getD (K / 8) 0 = x) := ⟨by rw [hxe.out]; simp [hl2]⟩
        have hpp := pow_pos2 (K % 8)
        replace hl := Kp.mk hl
        by_cases hq : x < 2 ^ (K % 8)
        · have hqb : (x / 2 ^ (K % 8) != 0) = false := by simp [Int.ediv_eq_zero_of_lt hx0 hq]
          rw [sndOf_yes (show okB xs K from ⟨by omega, by have := hl.out; omega, fun h => by simp only [Int.toNat_natCast]; rw [hxd.out]; exact hq⟩)]
          clear hc h2 h8
          go_enter Try.func29, Try.ntmps29
          go_wp2_with fail
          go_region
          go_wp2_with fail
          go_returns
          exact ⟨_, rfl, fun W0 l h => h, ((((bel_alloc w _).alloc (by simp) _).drew))⟩
        · have hqb : (x / 2 ^ (K % 8) != 0) = true := by
            have := Int.le_ediv_of_mul_le hpp (a := 1) (b := x) (by omega)
            simp
            omega
          rw [sndOf_no (fun h => hq (by have := h.2.2 (by omega); simp only [Int.toNat_natCast] at this; rw [hxd.out] at this; exact this))]
          clear hc h2 h8
          go_enter Try.func29, Try.ntmps29
          go_wp2_with fail
          go_region
          go_wp2_with fail
          go_returns
          exact ⟨_, rfl, fun W0 l _ => nilB W0 l, ((((bel_alloc w _).alloc (by simp) _).drew))⟩
      · have hlb : ((xs.length : Int) != (K : Int) / 8 + 1) = true := by simp; omega
        rw [sndOf_no (fun h => by have := h.2.1; omega)]
        replace hl := Kp.mk hl
        clear hc h2 h8
        go_enter Try.func29, Try.ntmps29
        go_wp2_with fail
        go_region
        go_wp2_with fail
        go_returns
        exact ⟨_, rfl, fun W0 l _ => nilB W0 l, (((bel_alloc w _).alloc (by simp) _).drew)⟩
end Go.Proofs.Ytfagafglloopbaa
