/- Bits read: a number of so many, the program's reader. -/
import Derived.Test.YtfagafglloopbaaBi4
namespace Go.Proofs.Ytfagafglloopbaa
open Go.ChangeShapes Go.WideShapes Go.ChangeAt Go.RowKit
open Go.Sort (grow)
set_option linter.unusedVariables false
set_option linter.unusedSimpArgs false
/-- One bit of a row of bytes. -/
def bitAt (ys : List Int) (i : Nat) : Int := ys.getD (i / 8) 0 / 2 ^ (i % 8) % 2
/-- The number of n bits from a place on. -/
def getB (ys : List Int) (p : Nat) : Nat → Int
  | 0 => 0
  | i + 1 => getB ys p i + bitAt ys (p + i) * 2 ^ i
theorem bitAt_bd (ys : List Int) (i : Nat) : 0 ≤ bitAt ys i ∧ bitAt ys i ≤ 1 := by unfold bitAt; omega
theorem getB_bd (ys : List Int) (p i : Nat) : 0 ≤ getB ys p i ∧ getB ys p i < 2 ^ i := by
  induction i with
  | zero => exact ⟨Int.le_refl _, by show (0 : Int) < 2 ^ 0; decide⟩
  | succ i ih =>
    have hb := bitAt_bd ys (p + i)
    have hp := pow_pos2 i
    have e : (2 : Int) ^ (i + 1) = 2 ^ i * 2 := Int.pow_succ _ _
    unfold getB
    rw [e]
    have : bitAt ys (p + i) = 0 ∨ bitAt ys (p + i) = 1 := by omega
    rcases this with h | h <;> rw [h] <;> omega
/-- What the reader's get answers, and what it is behind it. -/
def getR (ys : List Int) (k : Nat) (p : Int) (f : Bool) (n : Nat) : Int × Int × Bool :=
  if f = true ∨ p < 0 ∨ (k : Int) - n < p then (0, p, true) else (getB ys p.toNat n, p + n, false)
set_option maxRecDepth 100000 in
set_option maxHeartbeats 4000000 in
theorem getI (B : Nat) (v : Value) (ys : List Int) (k : Nat) (p : Int) (f : Bool) (n : Nat) (W0 w : World) {lo : Nat} (h : Ints lo .u8 W0 v ys) (hB : Below W0.heap.size W0 w) (hW : W0.heap.size ≤ B) (hx : w.heap[B]? = some (Go.Obj.cells #[v, .int .i64 k, .int .i64 p, .bool f] 51 (0, 0)))
    (hS : Snd ys k) (hn : ys.length ≤ 1048576) (p0 : -9223372036854775808 ≤ p) (p1 : p ≤ 9223372036854775807) (n0 : 1 ≤ n) (n1 : n ≤ 64) :
    Calls Try.prog 31 #[.pointer (some ⟨B, 0, none⟩), .int .i64 n] w fun e w' => e = .returned (.int .u64 (getR ys k p f n).1) ∧ w'.heap[B]? = some (Go.Obj.cells #[v, .int .i64 k, .int .i64 (getR ys k p f n).2.1, .bool (getR ys k p f n).2.2] 51 (0, 0)) ∧ ∀ H, H ≤ B → Below H w w' := by
  obtain ⟨b, o, ⟨⟨a, cap, rfl, h1, h2⟩, h3⟩, -, hc⟩ := h.ex
  have y0 : w.cell? ⟨B, 0, none⟩ = some (.slice a ys.length cap) := at_cells hx rfl
  have y1 : w.cell? ⟨B, 1, none⟩ = some (.int .i64 k) := at_cells hx rfl
  have y2 : w.cell? ⟨B, 2, none⟩ = some (.int .i64 p) := at_cells hx rfl
  have y3 : w.cell? ⟨B, 3, none⟩ = some (.bool f) := at_cells hx rfl
  have f0 := rw_cells hx
  have hk : k ≤ 8388608 := by have := hS.len; omega
  have hfail : Kp (∀ H, H ≤ B → Below H w (w.drew.setCell ⟨B, 3, none⟩ (.bool true))) := ⟨fun H hH => bel_set (Below.refl _ _).drew hH _⟩
  have hfx : Kp ((w.drew.setCell ⟨B, 3, none⟩ (.bool true)).heap[B]? = some (Go.Obj.cells #[.slice a ys.length cap, .int .i64 k, .int .i64 p, .bool true] 51 (0, 0))) := ⟨set_cells (w := w.drew) hx 3 (.bool true)⟩
  replace hS := Kp.mk hS
  replace hc := Kp.mk hc
  replace h2 := Kp.mk h2
  by_cases hf : f = true
  · subst hf
    rw [show getR ys k p true n = (0, p, true) from if_pos (.inl rfl)]
    clear h
    go_enter Try.func31, Try.ntmps31
    go_upto_region 1 with fail
    go_region
    go_wp2_with fail
    go_ret
    exact ⟨rfl, hfx.out, hfail.out⟩
  obtain rfl : f = false := by simpa using hf
  by_cases hp : p < 0
  · rw [show getR ys k p false n = (0, p, true) from if_pos (.inr (.inl hp))]
    have e1 : decide (p < 0) = true := by simp [hp]
    clear h
    go_enter Try.func31, Try.ntmps31
    go_upto_region 1 with fail
    go_region
    go_wp2_with fail
    go_ret
    exact ⟨rfl, hfx.out, hfail.out⟩
  have e1 : decide (p < 0) = false := by simp; omega
  by_cases hpn : (k : Int) - n < p
  · rw [show getR ys k p false n = (0, p, true) from if_pos (.inr (.inr hpn))]
    have e2 : decide ((k : Int) - n < p) = true := by simp; omega
    clear h
    go_enter Try.func31, Try.ntmps31
    go_upto_region 1 with fail
    go_region
    go_wp2_with fail
    go_ret
    exact ⟨rfl, hfx.out, hfail.out⟩
  obtain ⟨q, rfl⟩ := Int.eq_ofNat_of_zero_le (show 0 ≤ p by omega)
  have e2 : decide ((k : Int) - n < q) = false := by simp; omega
  have hqk : q + n ≤ k := by omega
  rw [show getR ys k q false n = (getB ys q n, (q : Int) + n, false) from if_neg (by rintro (h | h | h) <;> first | cases h | omega)]
  have hC : Kp (∀ w', Below W0.heap.size W0 w' → ∀ i (hi : i < ys.length), 0 < ys.length → w'.cell? ⟨b, o + i, none⟩ = some (.int .u8 ys[i])) := ⟨fun w' hB' i hi _ => at_keep (hc.out i hi) hB'⟩
  have hx' := Kp.mk hx
  have hB' := hB
  clear h y0 y1 y2 y3 hfail hfx
  go_enter Try.func31, Try.ntmps31
  have y0 : w.cell? ⟨B, 0, none⟩ = some (.slice a ys.length cap) := at_cells hx rfl
  have y1 : w.cell? ⟨B, 1, none⟩ = some (.int .i64 k) := at_cells hx rfl
  have y2 : w.cell? ⟨B, 2, none⟩ = some (.int .i64 q) := at_cells hx rfl
  have y3 : w.cell? ⟨B, 3, none⟩ = some (.bool false) := at_cells hx rfl
  go_upto_region 1 with fail
  go_region
  go_wp2_with fail
  go_loopw [5, 36] (fun s r wr => ∃ i : Nat, i ≤ n ∧ r = .int .i64 i ∧ s = .int .u64 (getB ys q i) ∧ Kp (wr.heap[B]? = some (Go.Obj.cells #[.slice a ys.length cap, .int .i64 k, .int .i64 ((q + i : Nat) : Int), .bool false] 51 (0, 0))) ∧ Kp (∀ H, H ≤ B → Below H w wr)) (fun _ r _ => n - (intOf r).toNat)
  case atStart => exact ⟨0, Nat.zero_le _, rfl, rfl, hx', ⟨fun H _ => (Below.refl _ _).drew⟩⟩
  case round =>
    clear y0 y1 y2 y3 f0 hx' hx
    obtain ⟨i, hi, rfl, rfl, hX, hBs⟩ := hrel
    obtain ⟨z, hz⟩ : ∃ z, Kp (z = q + i) := ⟨_, ⟨rfl⟩⟩
    rw [← hz.out] at hX
    have y0 : wr.cell? ⟨B, 0, none⟩ = some (.slice a ys.length cap) := at_cells hX.out rfl
    have y2 : wr.cell? ⟨B, 2, none⟩ = some (.int .i64 z) := at_cells hX.out rfl
    have f0 := rw_cells hX.out
    have hBr := hB'.trans (hBs.out _ hW)
    by_cases hlt : i < n
    · have hzk : z < k := by have := hz.out; omega
      have hlen := hS.out.len
      have hl2 : z / 8 < ys.length := by omega
      have hl0 : 0 < ys.length := by omega
      obtain rfl := h2.out hl0
      have hx := hC.out wr hBr (z / 8) hl2 hl0
      have hxb := hS.out.byte (z / 8) hl2
      obtain ⟨x, hxe⟩ : ∃ x, Kp (x = ys[z / 8]) := ⟨_, ⟨rfl⟩⟩
      rw [← hxe.out] at hx hxb
      have hpz := pow_pos2 (z % 8)
      have hd : 0 ≤ x / 2 ^ (z % 8) ∧ x / 2 ^ (z % 8) < 256 := ⟨Int.ediv_nonneg hxb.1 (by omega), Int.lt_of_le_of_lt (Int.ediv_le_self _ hxb.1) hxb.2⟩
      have hand := Kp.mk (and1b (x / 2 ^ (z % 8)) hd.1 hd.2)
      obtain ⟨acc, hacc⟩ : ∃ acc, Kp (acc = getB ys q i) := ⟨_, ⟨rfl⟩⟩
      rw [← hacc.out]
      have hab := getB_bd ys q i
      rw [← hacc.out] at hab
      have hor := Kp.mk (or64 acc (x / 2 ^ (z % 8) % 2) i (by omega) hab.1 hab.2 (by omega) (by omega))
      have hstep : Kp (acc + x / 2 ^ (z % 8) % 2 * 2 ^ i = getB ys q (i + 1)) := ⟨by
        rw [hacc.out, getB, bitAt, ← hz.out]
        simp [List.getD_eq_getElem?_getD, hl2, hxe.out]⟩
      have hall : Kp (bits .or .u64 acc (IntKind.u64.wrap (IntKind.u64.wrap (bits .and .u8 (x / 2 ^ (z % 8)) 1) * 2 ^ i)) = getB ys q (i + 1)) := ⟨by
        have e7 : ∀ z : Int, IntKind.u64.wrap z = z % 18446744073709551616 := fun z => by simp [IntKind.wrap, IntKind.bits, IntKind.signed]
        rw [hand.out, e7, e7, show x / 2 ^ (z % 8) % 2 % 18446744073709551616 = x / 2 ^ (z % 8) % 2 by omega, hor.out, hstep.out]⟩
      have hi64 : (i : Int) < 64 := by omega
      have e8 : Kp ((z : Int) + 1 = ((q + (i + 1) : Nat) : Int)) := ⟨by rw [hz.out]; push_cast; omega⟩
      have hX8 := Kp.mk (set_cells (w := wr.drew) hX.out 2 (.int .i64 ((z : Int) + 1)))
      replace hlen := Kp.mk hlen
      clear hC hd hab hc h2
      go_upto_region 8 with fail
      go_region
      rw [hall.out]
      clear hx hor hand hstep hall y0
      go_wp2_with fail
      refine ⟨⟨i + 1, by omega, by go_num, rfl, ⟨?_⟩, ⟨fun H hH => bel_set (hBs.out H hH).drew hH _⟩⟩, by simp [intOf]; omega⟩
      rw [← e8.out]
      exact hX8.out
    · obtain rfl : i = n := by omega
      have e9 : Kp ((z : Int) = (q : Int) + (i : Int)) := ⟨by rw [hz.out]; push_cast; rfl⟩
      rw [e9.out] at hX
      clear hC hc h2 y0 y2 f0
      go_wp2_with fail
      go_ret
      exact ⟨rfl, hX.out, hBs.out⟩
end Go.Proofs.Ytfagafglloopbaa
