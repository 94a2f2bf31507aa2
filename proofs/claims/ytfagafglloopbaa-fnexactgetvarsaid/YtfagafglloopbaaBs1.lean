/- The specification's writer: one bit, bits. -/
import Derived.Test.YtfagafglloopbaaBi5
namespace Go.Proofs.Ytfagafglloopbaa
open Go.ChangeShapes Go.WideShapes Go.ChangeAt Go.RowKit
open Go.Sort (grow)
set_option linter.unusedVariables false
set_option linter.unusedSimpArgs false
/-- What lies in the blocks of w that are no rows of bytes lies there yet. -/
def Out (w w' : World) : Prop := ∀ (k : Nat) (arr : Array Value) (T : TypeId), w.heap[k]? = some (Go.Obj.cells arr T (0, 0)) → T ≠ 5 → w'.heap[k]? = some (Go.Obj.cells arr T (0, 0))
theorem Out.trans {a b c : World} (h : Out a b) (k : Out b c) : Out a c := fun j arr T h1 h2 => k j arr T (h j arr T h1 h2) h2
theorem Out.below {a b : World} (h : Below a.heap.size a b) : Out a b := fun j arr T h1 _ => (h.block j (Array.getElem?_eq_some_iff.1 h1).1).trans h1
theorem Out.set {a b : World} (h : Out a b) (B j : Nat) (x : Value) (hB : a.heap.size ≤ B) : Out a (b.setCell ⟨B, j, none⟩ x) := fun i arr T h1 h2 => by
  have := (Array.getElem?_eq_some_iff.1 h1).1
  rw [heap_set _ _ _ _ _ (by omega)]
  exact h i arr T h1 h2
theorem Out.store {a b : World} {base n : Nat} {v : Value} {xs : List Value} {g : Nat} (h : Out a b) (hown : b.ownsRow base 5 1 v n xs) (hg : v.ownBlock = some g) (j : Nat) (x : Value) : Out a (b.setCell ⟨g, j, none⟩ x) := fun i arr T h1 h2 => by
  have h3 := h i arr T h1 h2
  rw [heap_set _ _ _ _ _ (fun e => u8_ne hown h3 h2 (by rw [hg, e]))]
  exact h3
theorem Out.grown {a b c : World} {base n : Nat} {v : Value} {xs : List Value} (h : Out a b) (hown : b.ownsRow base 5 1 v n xs) (hg : b.grownBy c v.ownBlock) : Out a c := fun i arr T h1 h2 => by
  have h3 := h i arr T h1 h2
  rw [hg.block i (Array.getElem?_eq_some_iff.1 h3).1 (fun e => u8_ne hown h3 h2 e.symm)]
  exact h3
theorem Out.drew {a b : World} (h : Out a b) : Out a b.drew := h
set_option maxRecDepth 100000 in
set_option maxHeartbeats 2000000 in
theorem okS (v : Value) (xs : List Int) (c : Int) (w : World) {lo : Nat} (h : Ints lo .u8 w v xs) (hn : xs.length ≤ 1048576) (c0 : -9223372036854775808 ≤ c) (c1 : c ≤ 9223372036854775807) (hb : ∀ i (h : i < xs.length), 0 ≤ xs[i] ∧ xs[i] < 256) :
    (okB xs c → Calls Try.prog 40 #[.agg #[v, .int .i64 c]] w fun e w' => e = .returned (.bool true) ∧ Below w.heap.size w w') ∧ (¬ okB xs c → Calls Try.prog 40 #[.agg #[v, .int .i64 c]] w fun e w' => e = .returned (.bool false) ∧ Below w.heap.size w w') := by
  obtain ⟨b, o, ⟨⟨a, cap, rfl, h1, h2⟩, h3⟩, -, hc⟩ := h.ex
  have hn' : (xs.length : Int) ≤ 1048576 := by omega
  by_cases hneg : c < 0
  · refine ⟨fun h => absurd h.1 (by omega), fun _ => ?_⟩
    have e2 : decide (c < 0) = true := by simp [hneg]
    clear hc h2
    go_enter Try.func40, Try.ntmps40
    go_wp2_with fail
    go_ret
    exact ⟨rfl, bel_alloc _ _⟩
  · obtain ⟨K, rfl⟩ := Int.eq_ofNat_of_zero_le (show 0 ≤ c by omega)
    have e2 : decide ((K : Int) < 0) = false := by simp
    by_cases hl : xs.length = (K + 7) / 8
    · have hK : K ≤ 8388608 := by omega
      have hlb : ((xs.length : Int) != ((K : Int) + 7) / 8) = false := by simp; omega
      have hgb : decide ((1099511627776 : Int) < (K : Int)) = false := by simp; omega
      by_cases h8 : K % 8 = 0
      · have e8 : ((K : Int) % 8 != 0) = false := by simp; omega
        refine ⟨fun _ => ?_, fun h => absurd (show okB xs K from ⟨by omega, by omega, fun h => absurd h (by omega)⟩) h⟩
        clear hc h2 h8 hl
        go_enter Try.func40, Try.ntmps40
        go_wp2_with fail
        go_region
        go_wp2_with fail
        go_ret
        exact ⟨rfl, (bel_alloc _ _).drew⟩
      · have e8 : ((K : Int) % 8 != 0) = true := by simp; omega
        have hl2 : K / 8 < xs.length := by omega
        obtain rfl := h2 (by omega)
        have hx := hc (K / 8) hl2
        have hxb := hb (K / 8) hl2
        obtain ⟨x, hxe⟩ : ∃ x, Kp (x = xs[K / 8]) := ⟨_, ⟨rfl⟩⟩
        rw [← hxe.out] at hx hxb
        obtain ⟨hx0, hx1⟩ := hxb
        have hxl : b < w.heap.size := Lib.lt_of_cell hx
        have hxl1 : b ≠ w.heap.size := by omega
        have hxd : Kp (xs.getD (K / 8) 0 = x) := ⟨by rw [hxe.out]; simp [hl2]⟩
        have hpp := pow_pos2 (K % 8)
        have hll : (xs.length : Int) - 1 = (K : Int) / 8 := by omega
        replace hl := Kp.mk hl
        by_cases hq : x < 2 ^ (K % 8)
        · have hqb : (x / 2 ^ (K % 8) != 0) = false := by simp [Int.ediv_eq_zero_of_lt hx0 hq]
          refine ⟨fun _ => ?_, fun h => absurd (show okB xs K from ⟨by omega, by have := hl.out; omega, fun h => by simp only [Int.toNat_natCast]; rw [hxd.out]; exact hq⟩) h⟩
          clear hc h2 h8
          go_enter Try.func40, Try.ntmps40
          go_wp2_with fail
          go_region
          go_wp2_with fail
          go_ret
          exact ⟨rfl, (bel_alloc _ _).drew⟩
        · have hqb : (x / 2 ^ (K % 8) != 0) = true := by
            have := Int.le_ediv_of_mul_le hpp (a := 1) (b := x) (by omega)
            simp
            omega
          refine ⟨fun h => absurd h (fun h => hq (by have := h.2.2 (by omega); simp only [Int.toNat_natCast] at this; rw [hxd.out] at this; exact this)), fun _ => ?_⟩
          clear hc h2 h8
          go_enter Try.func40, Try.ntmps40
          go_wp2_with fail
          go_region
          go_wp2_with fail
          go_ret
          exact ⟨rfl, (bel_alloc _ _).drew⟩
    · refine ⟨fun h => absurd h.2.1 (by omega), fun _ => ?_⟩
      by_cases hov : (K : Int) + 7 ≤ 9223372036854775807
      · have hlb : ((xs.length : Int) != ((K : Int) + 7) / 8) = true := by simp; omega
        replace hl := Kp.mk hl
        clear hc h2
        go_enter Try.func40, Try.ntmps40
        go_wp2_with fail
        go_ret
        exact ⟨rfl, bel_alloc _ _⟩
      · have ew : IntKind.i64.wrap ((K : Int) + 7) = (K : Int) + 7 - 18446744073709551616 := by simp [IntKind.wrap, IntKind.bits, IntKind.signed]; omega
        have hlb : ((xs.length : Int) != ((K : Int) + 7 - 18446744073709551616).tdiv 8) = true := by
          have h1 := Int.neg_tdiv (a := -((K : Int) + 7 - 18446744073709551616)) (b := 8)
          rw [Int.neg_neg] at h1
          rw [h1, Int.tdiv_eq_ediv_of_nonneg (by omega)]
          simp
          omega
        replace hl := Kp.mk hl
        clear hc h2
        go_enter Try.func40, Try.ntmps40
        go_wp2_with fail
        go_ret
        exact ⟨rfl, bel_alloc _ _⟩
end Go.Proofs.Ytfagafglloopbaa
