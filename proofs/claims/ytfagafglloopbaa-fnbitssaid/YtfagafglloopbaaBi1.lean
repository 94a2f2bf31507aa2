/- Bits as bytes: what a bit more makes of them. -/
import Derived.Test.YtfagafglloopbaaBi0
import Derived.BigRegion
import Derived.Laws.OwnMore
namespace Go.Proofs.Ytfagafglloopbaa
open Go.ChangeShapes Go.WideShapes Go.ChangeAt Go.RowKit
open Go.Sort (grow)
set_option linter.unusedVariables false
set_option linter.unusedSimpArgs false
theorem info8 : (Try.prog.info? 5).map (fun i => (i.zero, i.size, i.bytes)) = some (some (.int .u8 0), 1, 1) := by kernel_rfl
theorem bel_set {H b k : Nat} {w W : World} (h : Below H w W) (l : H ≤ b) (x : Value) : Below H w (W.setCell ⟨b, k, none⟩ x) := h.setCell l x
theorem and1 (u : Int) (h0 : 0 ≤ u) (h1 : u < 18446744073709551616) : bits .and .u64 u 1 = u % 2 := by
  have e : bits .and .u64 u 1 = IntKind.u64.wrap ((BitVec.ofInt 64 u &&& BitVec.ofInt 64 1).toNat : Int) := rfl
  rw [e, BitVec.toNat_and, BitVec.toNat_ofInt]
  have e1 : (BitVec.ofInt 64 1).toNat = 1 := rfl
  have e2 : ((2 ^ 64 : Nat) : Int) = 18446744073709551616 := by decide
  rw [e1, e2, Nat.and_one_is_mod]
  simp [IntKind.wrap, IntKind.bits, IntKind.signed]
  omega
theorem and1b (u : Int) (h0 : 0 ≤ u) (h1 : u < 256) : bits .and .u8 u 1 = u % 2 := by
  have e : bits .and .u8 u 1 = IntKind.u8.wrap ((BitVec.ofInt 8 u &&& BitVec.ofInt 8 1).toNat : Int) := rfl
  rw [e, BitVec.toNat_and, BitVec.toNat_ofInt]
  have e1 : (BitVec.ofInt 8 1).toNat = 1 := rfl
  have e2 : ((2 ^ 8 : Nat) : Int) = 256 := by decide
  rw [e1, e2, Nat.and_one_is_mod]
  simp [IntKind.wrap, IntKind.bits, IntKind.signed]
  omega
theorem or_nat (x b k : Nat) (h : x < 2 ^ k) : x ||| b * 2 ^ k = x + b * 2 ^ k := by
  have := Nat.two_pow_add_eq_or_of_lt h b
  rw [Nat.or_comm, Nat.mul_comm b, ← this, Nat.add_comm]
theorem or8 (x b : Int) (k : Nat) (hk : k < 8) (h0 : 0 ≤ x) (h1 : x < 2 ^ k) (b0 : 0 ≤ b) (b1 : b ≤ 1) : bits .or .u8 x (b * 2 ^ k % 256) = x + b * 2 ^ k := by
  have e : bits .or .u8 x (b * 2 ^ k % 256) = IntKind.u8.wrap ((BitVec.ofInt 8 x ||| BitVec.ofInt 8 (b * 2 ^ k % 256)).toNat : Int) := rfl
  rw [e, BitVec.toNat_or, BitVec.toNat_ofInt, BitVec.toNat_ofInt]
  obtain ⟨X, rfl⟩ := Int.eq_ofNat_of_zero_le h0
  obtain ⟨B, rfl⟩ := Int.eq_ofNat_of_zero_le b0
  have e2 : ((2 ^ 8 : Nat) : Int) = 256 := by decide
  have hp : (2 : Nat) ^ k ≤ 2 ^ 7 := Nat.pow_le_pow_right (by decide) (by omega)
  have e3 : ((B : Int) * 2 ^ k) = ((B * 2 ^ k : Nat) : Int) := by push_cast; rfl
  have h1' : X < 2 ^ k := by have : (X : Int) < ((2 ^ k : Nat) : Int) := by push_cast; exact h1
                             omega
  have hB : B = 0 ∨ B = 1 := by omega
  rw [e2, e3]
  have hm : B * 2 ^ k < 256 := by rcases hB with rfl | rfl <;> omega
  have hs : X + B * 2 ^ k < 256 := by rcases hB with rfl | rfl <;> omega
  have e4 : (((X : Int)) % 256).toNat = X := by omega
  have e5 : ((((B * 2 ^ k : Nat) : Int) % 256) % 256).toNat = B * 2 ^ k := by omega
  rw [e4, e5, or_nat X B k h1']
  have e6 : (((X + B * 2 ^ k : Nat) : Int)) % 256 = ((X + B * 2 ^ k : Nat) : Int) := by omega
  have e7 : ∀ z : Int, IntKind.u8.wrap z = z % 256 := fun z => by simp [IntKind.wrap, IntKind.bits, IntKind.signed]
  rw [e7, e6]
  push_cast
  rfl
theorem or64 (x b : Int) (k : Nat) (hk : k < 64) (h0 : 0 ≤ x) (h1 : x < 2 ^ k) (b0 : 0 ≤ b) (b1 : b ≤ 1) : bits .or .u64 x (b * 2 ^ k % 18446744073709551616) = x + b * 2 ^ k := by
  have e : bits .or .u64 x (b * 2 ^ k % 18446744073709551616) = IntKind.u64.wrap ((BitVec.ofInt 64 x ||| BitVec.ofInt 64 (b * 2 ^ k % 18446744073709551616)).toNat : Int) := rfl
  rw [e, BitVec.toNat_or, BitVec.toNat_ofInt, BitVec.toNat_ofInt]
  obtain ⟨X, rfl⟩ := Int.eq_ofNat_of_zero_le h0
  obtain ⟨B, rfl⟩ := Int.eq_ofNat_of_zero_le b0
  have e2 : ((2 ^ 64 : Nat) : Int) = 18446744073709551616 := by decide
  have hp : (2 : Nat) ^ k ≤ 2 ^ 63 := Nat.pow_le_pow_right (by decide) (by omega)
  have e3 : ((B : Int) * 2 ^ k) = ((B * 2 ^ k : Nat) : Int) := by push_cast; rfl
  have h1' : X < 2 ^ k := by have : (X : Int) < ((2 ^ k : Nat) : Int) := by push_cast; exact h1
                             omega
  have hB : B = 0 ∨ B = 1 := by omega
  rw [e2, e3]
  have hm : B * 2 ^ k < 18446744073709551616 := by rcases hB with rfl | rfl <;> omega
  have hs : X + B * 2 ^ k < 18446744073709551616 := by rcases hB with rfl | rfl <;> omega
  have e4 : (((X : Int)) % 18446744073709551616).toNat = X := by omega
  have e5 : ((((B * 2 ^ k : Nat) : Int) % 18446744073709551616) % 18446744073709551616).toNat = B * 2 ^ k := by omega
  rw [e4, e5, or_nat X B k h1']
  have e6 : (((X + B * 2 ^ k : Nat) : Int)) % 18446744073709551616 = ((X + B * 2 ^ k : Nat) : Int) := by omega
  have e7 : ∀ z : Int, IntKind.u64.wrap z = z % 18446744073709551616 := fun z => by simp [IntKind.wrap, IntKind.bits, IntKind.signed]
  rw [e7, e6]
  push_cast
  rfl
/-- One bit more: into a new byte where the last one is full. -/
def pushB (xs : List Int) (c : Nat) (b : Int) : List Int :=
  (if c % 8 = 0 then xs ++ [0] else xs).set (c / 8) ((if c % 8 = 0 then 0 else xs.getD (c / 8) 0) + b * 2 ^ (c % 8))
/-- The lowest bits of a number. -/
def putB (xs : List Int) (c : Nat) (v : Int) : Nat → List Int
  | 0 => xs
  | i + 1 => pushB (putB xs c v i) (c + i) (v / 2 ^ i % 2)
/-- Bits as they have to be: c of them. -/
structure Snd (xs : List Int) (c : Nat) : Prop where
  len : xs.length = (c + 7) / 8
  byte : ∀ i (h : i < xs.length), 0 ≤ xs[i] ∧ xs[i] < 256
  last : c % 8 ≠ 0 → ∀ h : c / 8 < xs.length, xs[c / 8] < 2 ^ (c % 8)
theorem pow8 (k : Nat) (hk : k < 8) : (2 : Int) ^ k * 2 ≤ 256 ∧ (1 : Int) ≤ 2 ^ k := by
  obtain rfl | rfl | rfl | rfl | rfl | rfl | rfl | rfl : k = 0 ∨ k = 1 ∨ k = 2 ∨ k = 3 ∨ k = 4 ∨ k = 5 ∨ k = 6 ∨ k = 7 := by omega
  all_goals decide
theorem pushB_len (xs : List Int) (c : Nat) (b : Int) (h : Snd xs c) : (pushB xs c b).length = (c + 1 + 7) / 8 := by
  have := h.len
  unfold pushB
  split <;> simp <;> omega
theorem Snd.push {xs : List Int} {c : Nat} {b : Int} (h : Snd xs c) (b0 : 0 ≤ b) (b1 : b ≤ 1) : Snd (pushB xs c b) (c + 1) := by
  have hl := h.len
  have hp := pow8 (c % 8) (by omega)
  have hb : b = 0 ∨ b = 1 := by omega
  have key : ∀ y : Int, 0 ≤ y → (c % 8 ≠ 0 → y < 2 ^ (c % 8)) → (c % 8 = 0 → y = 0) → 0 ≤ y + b * 2 ^ (c % 8) ∧ y + b * 2 ^ (c % 8) < 2 ^ (c % 8) * 2 := fun y y0 y1 y2 => by
    by_cases e : c % 8 = 0
    · have := y2 e
      rcases hb with rfl | rfl <;> omega
    · have := y1 e
      rcases hb with rfl | rfl <;> omega
  refine ⟨pushB_len xs c b h, fun i hi => ?_, fun hc hi => ?_⟩
  · have hi2 := hi
    rw [pushB_len xs c b h] at hi2
    unfold pushB at *
    by_cases e : c % 8 = 0
    · simp only [e, if_true] at *
      by_cases q : c / 8 = i
      · subst q
        have := key 0 (Int.le_refl _) (fun h => absurd rfl h) (fun _ => rfl)
        simp
        omega
      · rw [List.getElem_set_ne q, List.getElem_append_left (by omega)]
        exact h.byte i (by omega)
    · have e' : Kp (c % 8 ≠ 0) := ⟨e⟩
      simp only [e, if_false] at *
      by_cases q : c / 8 = i
      · subst q
        have hx : c / 8 < xs.length := by omega
        have h1 := h.byte _ hx
        have h2 := h.last e'.out hx
        have := key xs[c / 8] h1.1 (fun _ => h2) (fun h => absurd h e)
        simp [hx]
        omega
      · rw [List.getElem_set_ne q]
        exact h.byte i (by omega)
  · have e8 : (c + 1) / 8 = c / 8 := by omega
    have em : (c + 1) % 8 = c % 8 + 1 := by omega
    have ep : (2 : Int) ^ ((c + 1) % 8) = 2 ^ (c % 8) * 2 := by rw [em, Int.pow_succ]
    rw [ep]
    unfold pushB at *
    simp only [e8]
    by_cases e : c % 8 = 0
    · simp only [e, if_true] at *
      have := key 0 (Int.le_refl _) (fun h => absurd rfl h) (fun _ => rfl)
      simp
      omega
    · have e' : Kp (c % 8 ≠ 0) := ⟨e⟩
      simp only [e, if_false] at *
      have hx : c / 8 < xs.length := by omega
      have := key xs[c / 8] (h.byte _ hx).1 (fun _ => h.last e'.out hx) (fun h => h.elim)
      simp [hx]
      omega
theorem Snd.put {xs : List Int} {c : Nat} (h : Snd xs c) (v : Int) (i : Nat) : Snd (putB xs c v i) (c + i) := by
  induction i with
  | zero => exact h
  | succ i ih => exact ih.push (by omega) (by omega)
theorem u8_ne {w : World} {base B n : Nat} {v : Value} {xs : List Value} {arr : Array Value} {T : TypeId} (h : w.ownsRow base 5 1 v n xs) (hb : w.heap[B]? = some (Go.Obj.cells arr T (0, 0))) (hT : T ≠ 5) : v.ownBlock ≠ some B := fun e => by
  rcases h.2 with ⟨rfl, _⟩ | ⟨g, cap, cur, rfl, _, hg, _⟩
  · cases e
  · simp only [Value.ownBlock, Option.some.injEq] at e
    subst e
    rw [hg] at hb
    injection hb with hb
    injection hb with h1 h2
    exact hT h2.symm
/-- A row of bytes that a call owns. -/
abbrev OwnB (w : World) (base : Nat) (v : Value) (xs : List Int) : Prop := w.ownsRow base 5 1 v xs.length (xs.map (Value.int .u8))
theorem OwnB.shape {w : World} {base : Nat} {v : Value} {xs : List Int} (h : OwnB w base v xs) (h0 : 0 < xs.length) : ∃ g cap, v = .slice (some ⟨g, 0, none⟩) xs.length cap ∧ base ≤ g ∧ g < w.heap.size ∧ xs.length ≤ cap := by
  rcases h.2 with ⟨rfl, e⟩ | ⟨g, cap, cur, rfl, hb, hg, h1, _⟩
  · omega
  · exact ⟨g, cap, rfl, hb, (Array.getElem?_eq_some_iff.1 hg).1, h1⟩
theorem OwnB.store {w : World} {base g cap : Nat} {xs : List Int} (h : OwnB w base (.slice (some ⟨g, 0, none⟩) xs.length cap) xs) (j : Nat) (x : Int) : OwnB (w.setCell ⟨g, j, none⟩ (.int .u8 x)) base (.slice (some ⟨g, 0, none⟩) xs.length cap) (xs.set j x) := by
  have := (h.stored j (.int .u8 x)).1
  unfold OwnB
  rw [List.length_set, List.map_set]
  exact this
theorem OwnB.same {w w' : World} {base : Nat} {v : Value} {xs : List Int} (h : OwnB w base v xs) (hk : ∀ g, v.ownBlock = some g → w'.heap[g]? = w.heap[g]?) : OwnB w' base v xs := by
  refine ⟨h.1, ?_⟩
  rcases h.2 with e | ⟨g, cap, cur, rfl, hb, hg, r⟩
  · exact .inl e
  · exact .inr ⟨g, cap, cur, rfl, hb, (hk g rfl).trans hg, r⟩
theorem OwnB.keep {w w' : World} {base : Nat} {v : Value} {xs : List Int} (h : OwnB w base v xs) (hb : Below w.heap.size w w') : OwnB w' base v xs := h.same (fun g hg => hb.block g (h.lt g hg).2)
theorem OwnB.setOther {w : World} {base B j : Nat} {v : Value} {xs : List Int} (h : OwnB w base v xs) (hn : v.ownBlock ≠ some B) (u : Value) : OwnB (w.setCell ⟨B, j, none⟩ u) base v xs := h.same (fun g hg => by
  show (w.heap.modify B _)[g]? = _
  rw [Array.getElem?_modify, if_neg (fun e => hn (by rw [hg, e]))])
theorem OwnB.at {w : World} {base g cap : Nat} {xs : List Int} (h : OwnB w base (.slice (some ⟨g, 0, none⟩) xs.length cap) xs) (j : Nat) (hj : j < xs.length) : w.cell? ⟨g, j, none⟩ = some (.int .u8 xs[j]) := by
  rw [h.cellAt j (by omega)]
  simp [hj]
theorem OwnB.bytes {w : World} {base : Nat} {v : Value} {xs : List Int} (h : OwnB w base v xs) (hn : xs.length ≤ 1099511627776) : Ints base .u8 w v xs := by
  rcases h.2 with ⟨rfl, e⟩ | ⟨g, cap, cur, rfl, hb, hg, h1, h2, h3, h4⟩
  · obtain rfl : xs = [] := List.length_eq_zero_iff.1 e
    exact ⟨base, 0, ⟨⟨none, 0, rfl, Nat.le_refl _, fun h => absurd h (by simp)⟩, by simp⟩, Nat.le_refl _, fun i hi => by simp at hi⟩
  · exact ⟨g, 0, ⟨⟨_, _, rfl, h1, fun _ => rfl⟩, by omega⟩, hb, fun i hi => by rw [Nat.zero_add]; exact h.at i hi⟩

theorem heap_set (w : World) (b k B : Nat) (u : Value) (hne : b ≠ B) : (w.setCell ⟨b, k, none⟩ u).heap[B]? = w.heap[B]? := by
  show (w.heap.modify b _)[B]? = _
  rw [Array.getElem?_modify, if_neg hne]
end Go.Proofs.Ytfagafglloopbaa
