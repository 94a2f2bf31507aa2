/- Bits put and got: the numbers come back. -/
import Derived.Test.YtfagafglloopbaaBv1
import Derived.Test.YtfagafglloopbaaBi6
namespace Go.Proofs.Ytfagafglloopbaa
open Go.ChangeShapes Go.WideShapes Go.ChangeAt Go.RowKit
open Go.Sort (grow)
set_option linter.unusedVariables false
set_option linter.unusedSimpArgs false
theorem bit_low (y b : Int) (i c : Nat) (h : i < c) : (y + b * 2 ^ c) / 2 ^ i % 2 = y / 2 ^ i % 2 := by
  obtain ⟨j, rfl⟩ : ∃ j, c = i + (j + 1) := ⟨c - i - 1, by omega⟩
  have hp := pow_pos2 i
  have e1 : b * (2 : Int) ^ (i + (j + 1)) = (2 * (b * 2 ^ j)) * 2 ^ i := by
    rw [Int.pow_add, Int.pow_succ]
    generalize (2 : Int) ^ i = a
    generalize (2 : Int) ^ j = d
    ac_rfl
  rw [e1, Int.add_mul_ediv_right _ _ (by omega)]
  omega
theorem bit_top (y b : Int) (c : Nat) (y0 : 0 ≤ y) (y1 : y < 2 ^ c) (b0 : 0 ≤ b) (b1 : b ≤ 1) : (y + b * 2 ^ c) / 2 ^ c % 2 = b := by
  have hp := pow_pos2 c
  rw [Int.add_mul_ediv_right _ _ (by omega), Int.ediv_eq_zero_of_lt y0 y1]
  omega
theorem bit_push {xs : List Int} {c : Nat} {b : Int} (h : Snd xs c) (b0 : 0 ≤ b) (b1 : b ≤ 1) : (∀ i, i < c → bitAt (pushB xs c b) i = bitAt xs i) ∧ bitAt (pushB xs c b) c = b := by
  have hl := h.len
  by_cases e : c % 8 = 0
  · have hp : pushB xs c b = (xs ++ [0]).set (c / 8) (0 + b * 2 ^ (c % 8)) := by unfold pushB; simp [e]
    have hc : c / 8 = xs.length := by omega
    rw [hp]
    refine ⟨fun i hi => ?_, ?_⟩
    · have h1 : i / 8 < xs.length := by omega
      have hne : ¬ c / 8 = i / 8 := by omega
      unfold bitAt
      simp [List.getD_eq_getElem?_getD, List.getElem?_set, hne, List.getElem?_append_left h1]
    · unfold bitAt
      have h2 : c / 8 < (xs ++ [(0 : Int)]).length := by simp; omega
      rw [List.getD_eq_getElem?_getD, List.getElem?_set_self h2, Option.getD_some]
      exact bit_top 0 b (c % 8) (Int.le_refl _) (pow_pos2 _) b0 b1
  · have hc : c / 8 < xs.length := by omega
    have hp : pushB xs c b = xs.set (c / 8) (xs[c / 8] + b * 2 ^ (c % 8)) := by unfold pushB; simp [e, hc]
    rw [hp]
    refine ⟨fun i hi => ?_, ?_⟩
    · unfold bitAt
      by_cases q : c / 8 = i / 8
      · rw [← q, List.getD_eq_getElem?_getD, List.getElem?_set_self hc, Option.getD_some, List.getD_eq_getElem?_getD, List.getElem?_eq_getElem hc, Option.getD_some]
        exact bit_low _ _ _ _ (by omega)
      · simp [List.getD_eq_getElem?_getD, List.getElem?_set, q]
    · unfold bitAt
      rw [List.getD_eq_getElem?_getD, List.getElem?_set_self hc, Option.getD_some]
      exact bit_top _ b (c % 8) (h.byte _ hc).1 (h.last e hc) b0 b1
theorem bit_put {xs : List Int} {c : Nat} (h : Snd xs c) (v : Int) (n : Nat) : (∀ i, i < c → bitAt (putB xs c v n) i = bitAt xs i) ∧ ∀ i, i < n → bitAt (putB xs c v n) (c + i) = v / 2 ^ i % 2 := by
  induction n with
  | zero => exact ⟨fun _ _ => rfl, fun i hi => absurd hi (by omega)⟩
  | succ n ih =>
    have hp := bit_push (b := v / 2 ^ n % 2) (h.put v n) (by omega) (by omega)
    refine ⟨fun i hi => ?_, fun i hi => ?_⟩
    · rw [putB, hp.1 i (by omega)]
      exact ih.1 i hi
    · rw [putB]
      by_cases q : i = n
      · subst q
        exact hp.2
      · rw [hp.1 (c + i) (by omega)]
        exact ih.2 i (by omega)
theorem mod_succ (v : Int) (n : Nat) : v % 2 ^ (n + 1) = v % 2 ^ n + v / 2 ^ n % 2 * 2 ^ n := by
  have hp := pow_pos2 n
  have e : (2 : Int) ^ (n + 1) = 2 ^ n * 2 := Int.pow_succ _ _
  rw [e]
  generalize (2 : Int) ^ n = a at *
  have h1 := Int.mul_ediv_add_emod v a
  have h2 := Int.emod_nonneg v (show a ≠ 0 by omega)
  have h3 := Int.emod_lt_of_pos v hp
  generalize v / a = q at *
  generalize v % a = r at *
  have h4 := Int.mul_ediv_add_emod q 2
  have h5 : q % 2 = 0 ∨ q % 2 = 1 := by omega
  have h6 : v = (r + q % 2 * a) + (a * 2) * (q / 2) := by
    rw [← h1]
    conv => lhs; rw [← h4]
    rw [Int.mul_add, ← Int.mul_assoc, Int.mul_comm a (q % 2)]
    omega
  rw [h6, Int.add_mul_emod_self_left]
  refine Int.emod_eq_of_lt ?_ ?_ <;> rcases h5 with h | h <;> rw [h] <;> omega
theorem getB_of {ys : List Int} {p n : Nat} {v : Int} (h : ∀ i, i < n → bitAt ys (p + i) = v / 2 ^ i % 2) : getB ys p n = v % 2 ^ n := by
  induction n with
  | zero => simp [getB]
  | succ n ih =>
    rw [getB, ih (fun i hi => h i (by omega)), h n (by omega), mod_succ]
/-- How many pieces a number takes. -/
def pcs (m : Nat) : Nat → Int → Nat
  | 0, _ => 1
  | f + 1, v => if v / 2 ^ m = 0 then 1 else pcs m f (v / 2 ^ m) + 1
theorem varL_cnt (m f : Nat) : ∀ (xs : List Int) (c : Nat) (v : Int), (varL m f xs c v).2 = c + pcs m f v * (m + 1) := by
  induction f with
  | zero => intro xs c v; simp only [varL, pcs]; omega
  | succ f ih =>
    intro xs c v
    unfold varL pcs
    split
    · dsimp only; omega
    · rw [ih, Nat.add_mul]; omega
theorem varL_keeps (m f : Nat) : ∀ (xs : List Int) (c : Nat) (v : Int), Snd xs c → Snd (varL m f xs c v).1 (varL m f xs c v).2 ∧ c < (varL m f xs c v).2 ∧ ∀ i, i < c → bitAt (varL m f xs c v).1 i = bitAt xs i := by
  induction f with
  | zero =>
    intro xs c v h
    simp only [varL]
    have h1 := bit_put h v m
    have h2 := bit_push (b := 0) (h.put v m) (by decide) (by decide)
    exact ⟨(h.put v m).push (by decide) (by decide), by omega, fun i hi => (h2.1 i (by omega)).trans (h1.1 i hi)⟩
  | succ f ih =>
    intro xs c v h
    have h1 := bit_put h v m
    unfold varL
    split
    · have h2 := bit_push (b := 0) (h.put v m) (by decide) (by decide)
      exact ⟨(h.put v m).push (by decide) (by decide), by dsimp only; omega, fun i hi => (h2.1 i (by omega)).trans (h1.1 i hi)⟩
    · have h2 := bit_push (b := 1) (h.put v m) (by decide) (by decide)
      have h3 := ih (pushB (putB xs c v m) (c + m) 1) (c + m + 1) (v / 2 ^ m) ((h.put v m).push (by decide) (by decide))
      exact ⟨h3.1, by omega, fun i hi => (h3.2.2 i (by omega)).trans ((h2.1 i (by omega)).trans (h1.1 i hi))⟩
theorem div_mul_pow (v : Int) (m s : Nat) : (v % 2 ^ m) * 2 ^ s + (v / 2 ^ m) * 2 ^ (s + m) = v * 2 ^ s := by
  have h := Int.mul_ediv_add_emod v (2 ^ m)
  rw [Int.pow_add]
  generalize (2 : Int) ^ m = a at *
  generalize (2 : Int) ^ s = b at *
  conv => rhs; rw [← h]
  rw [Int.add_mul]
  have : v / a * (b * a) = a * (v / a) * b := by ac_rfl
  omega
/-- A number in pieces comes back. -/
theorem var_back (m : Nat) (hm : 1 ≤ m) (k : Nat) (ys : List Int) (f : Nat) : ∀ (xs : List Int) (c s g : Nat) (v u : Int), Snd xs c → 0 ≤ v → v < 2 ^ f → v * 2 ^ s < 18446744073709551616 → (v = 0 → s = 0) → f + 1 ≤ g →
    (varL m f xs c v).2 ≤ k → (∀ i, c ≤ i → i < (varL m f xs c v).2 → bitAt ys i = bitAt (varL m f xs c v).1 i) → gv ys k m g s c u = (true, u + v * 2 ^ s, ((varL m f xs c v).2 : Int)) := by
  have last : ∀ (xs : List Int) (c s g : Nat) (v u : Int), Snd xs c → 0 ≤ v → v < 2 ^ m → v * 2 ^ s < 18446744073709551616 → (v = 0 → s = 0) → 1 ≤ g → c + m + 1 ≤ k → (∀ i, c ≤ i → i < c + m + 1 → bitAt ys i = bitAt (pushB (putB xs c v m) (c + m) 0) i) → gv ys k m g s c u = (true, u + v * 2 ^ s, ((c + m + 1 : Nat) : Int)) := by
    intro xs c s g v u h v0 vm hf hz hg hk ha
    obtain ⟨g, rfl⟩ : ∃ g', g = g' + 1 := ⟨g - 1, by omega⟩
    have h1 := bit_put h v m
    have h2 := bit_push (b := 0) (h.put v m) (by decide) (by decide)
    have e1 : getB ys c m = v := by
      rw [getB_of (v := v) (fun i hi => by rw [ha (c + i) (by omega) (by omega), h2.1 (c + i) (by omega), h1.2 i hi])]
      exact Int.emod_eq_of_lt v0 vm
    have e2 : getB ys (c + m) 1 = 0 := by
      rw [getB_of (v := 0) (fun i hi => by
        obtain rfl : i = 0 := by omega
        rw [Nat.add_zero, ha (c + m) (by omega) (by omega), h2.2]
        rfl)]
      rfl
    have hs : s < 64 := by
      by_cases q : v = 0
      · have := hz q; omega
      · rcases Nat.lt_or_ge s 64 with h' | h'
        · exact h'
        · exfalso
          obtain ⟨j, rfl⟩ : ∃ j, s = 64 + j := ⟨s - 64, by omega⟩
          have hj := pow_pos2 j
          have e64 : (2 : Int) ^ (64 + j) = 18446744073709551616 * 2 ^ j := by rw [Int.pow_add]; rfl
          rw [e64] at hf
          have h3 : 18446744073709551616 * (2 : Int) ^ j ≤ v * (18446744073709551616 * 2 ^ j) := by
            have : 1 * (18446744073709551616 * (2 : Int) ^ j) ≤ v * (18446744073709551616 * 2 ^ j) := Int.mul_le_mul_of_nonneg_right (by omega) (by omega)
            omega
          omega
    rw [gv, Int.toNat_natCast, e1, e2, if_pos ⟨by omega, by omega, hs, hf⟩, if_pos rfl, if_neg (fun q => by have := hz q.1; omega)]
    push_cast
    rfl
  induction f with
  | zero =>
    intro xs c s g v u h v0 vf hf hz hg hk ha
    obtain rfl : v = 0 := by simp at vf; omega
    simp only [varL] at *
    exact last xs c s g 0 u h (by decide) (pow_pos2 m) hf (fun _ => hz trivial) (by omega) hk ha
  | succ f ih =>
    intro xs c s g v u h v0 vf hf hz hg hk ha
    unfold varL at hk ha ⊢
    by_cases hd : v / 2 ^ m = 0
    · simp only [if_pos hd] at *
      have vm : v < 2 ^ m := by
        have hp := pow_pos2 m
        have h1 := Int.mul_ediv_add_emod v (2 ^ m)
        rw [hd] at h1
        have := Int.emod_lt_of_pos v hp
        omega
      exact last xs c s g v u h v0 vm hf hz (by omega) hk ha
    · simp only [if_neg hd] at *
      obtain ⟨g, rfl⟩ : ∃ g', g = g' + 1 := ⟨g - 1, by omega⟩
      have h1 := bit_put h v m
      have h2 := bit_push (b := 1) (h.put v m) (by decide) (by decide)
      have hS := (h.put v m).push (b := 1) (by decide) (by decide)
      have h3 := varL_keeps m f _ _ (v / 2 ^ m) hS
      have hlt := half_lt v0 vf hm
      have e1 : getB ys c m = v % 2 ^ m := getB_of (fun i hi => by rw [ha (c + i) (by omega) (by omega), h3.2.2 (c + i) (by omega), h2.1 (c + i) (by omega), h1.2 i hi])
      have e2 : getB ys (c + m) 1 = 1 := by
        rw [getB_of (v := 1) (fun i hi => by
          obtain rfl : i = 0 := by omega
          rw [Nat.add_zero, ha (c + m) (by omega) (by omega), h3.2.2 (c + m) (by omega), h2.2]
          rfl)]
        rfl
      have hdm := div_mul_pow v m s
      have hps := pow_pos2 s
      have hpsm := pow_pos2 (s + m)
      have hm0 := Int.emod_nonneg v (show (2 : Int) ^ m ≠ 0 by have := pow_pos2 m; omega)
      have hm1 : 0 ≤ v % 2 ^ m * 2 ^ s := Int.mul_nonneg hm0 (by omega)
      have hm2 : 0 ≤ v / 2 ^ m * 2 ^ (s + m) := Int.mul_nonneg hlt.1 (by omega)
      have hs : s < 64 := by
        rcases Nat.lt_or_ge s 64 with h' | h'
        · exact h'
        · exfalso
          obtain ⟨j, rfl⟩ : ∃ j, s = 64 + j := ⟨s - 64, by omega⟩
          have hj := pow_pos2 j
          have e64 : (2 : Int) ^ (64 + j) = 18446744073709551616 * 2 ^ j := by rw [Int.pow_add]; rfl
          rw [e64] at hf
          have hv1 : 1 ≤ v := by
            rcases Int.lt_or_le 0 v with h' | h'
            · omega
            · obtain rfl : v = 0 := by omega
              simp at hd
          have : 1 * (18446744073709551616 * (2 : Int) ^ j) ≤ v * (18446744073709551616 * 2 ^ j) := Int.mul_le_mul_of_nonneg_right hv1 (by omega)
          omega
      have hI := ih (pushB (putB xs c v m) (c + m) 1) (c + m + 1) (s + m) g (v / 2 ^ m) (u + v % 2 ^ m * 2 ^ s) hS hlt.1 hlt.2 (by omega) (fun q => absurd q hd) (by omega) hk (fun i hi1 hi2 => ha i (by omega) hi2)
      rw [gv, Int.toNat_natCast, e1, e2, if_pos ⟨by omega, by omega, hs, by omega⟩, if_neg (by decide)]
      have ec : (c : Int) + m + 1 = ((c + m + 1 : Nat) : Int) := by push_cast; rfl
      rw [ec, hI, Int.add_assoc, hdm]
/-- From p on the numbers of the list are got back, up to q. -/
def reads (ys : List Int) (k : Nat) : List (Int × Int) → Nat → Nat → Prop
  | [], p, q => p = q
  | x :: r, p, q => ∃ p', p < p' ∧ (if x.2 < 0 then resB ys k p (-x.2) else resG ys k p x.2) = (true, x.1, (p' : Int)) ∧ reads ys k r p' q
theorem reads_snoc {ys : List Int} {k : Nat} {x : Int × Int} {q q' : Nat} (hq : q < q') (hx : (if x.2 < 0 then resB ys k q (-x.2) else resG ys k q x.2) = (true, x.1, (q' : Int))) : ∀ (L : List (Int × Int)) (p : Nat), reads ys k L p q → reads ys k (L ++ [x]) p q'
  | [], p, h => by
    obtain rfl : p = q := h
    exact ⟨q', hq, hx, rfl⟩
  | y :: r, p, h => by
    obtain ⟨p', h1, h2, h3⟩ := h
    exact ⟨p', h1, h2, reads_snoc hq hx r p' h3⟩
/-- What is put so far: these numbers come back, whatever is put behind. -/
structure Enc (xs : List Int) (c : Nat) (L : List (Int × Int)) : Prop where
  snd : Snd xs c
  rd : ∀ ys k, c ≤ k → (∀ i, i < c → bitAt ys i = bitAt xs i) → reads ys k L 0 c
theorem Enc.start : Enc [] 0 [] := ⟨⟨rfl, fun i hi => by simp at hi, fun e => by simp at e⟩, fun ys k _ _ => rfl⟩
theorem Enc.fix {xs : List Int} {c : Nat} {L : List (Int × Int)} (h : Enc xs c L) {v : Int} {n : Nat} (v0 : 0 ≤ v) (v1 : v < 2 ^ n) (n0 : 1 ≤ n) (n1 : n ≤ 64) : Enc (putB xs c v n) (c + n) (L ++ [(v, -(n : Int))]) := by
  have hb := bit_put h.snd v n
  refine ⟨h.snd.put v n, fun ys k hk ha => ?_⟩
  refine reads_snoc (q := c) (by omega) ?_ L 0 (h.rd ys k (by omega) (fun i hi => (ha i (by omega)).trans (hb.1 i hi)))
  have e1 : getB ys c n = v := by
    rw [getB_of (v := v) (fun i hi => by rw [ha (c + i) (by omega), hb.2 i hi])]
    exact Int.emod_eq_of_lt v0 v1
  have e2 : (-(-(n : Int))) = n := by omega
  dsimp only
  rw [if_pos (by omega), e2, resB, if_pos ⟨by omega, by omega, by omega, by omega⟩, Int.toNat_natCast, Int.toNat_natCast, e1]
  push_cast
  rfl
theorem Enc.var {xs : List Int} {c : Nat} {L : List (Int × Int)} (h : Enc xs c L) {v : Int} {m : Nat} (v0 : 0 ≤ v) (v1 : v < 18446744073709551616) (m0 : 1 ≤ m) (m1 : m ≤ 31) : Enc (varL m 64 xs c v).1 (varL m 64 xs c v).2 (L ++ [(v, (m : Int) + 1)]) := by
  have hb := varL_keeps m 64 xs c v h.snd
  refine ⟨hb.1, fun ys k hk ha => ?_⟩
  refine reads_snoc (q := c) hb.2.1 ?_ L 0 (h.rd ys k (by omega) (fun i hi => (ha i (by omega)).trans (hb.2.2 i hi)))
  have e := var_back m m0 k ys 64 xs c 0 65 v 0 h.snd v0 (by simpa using v1) (by simpa using v1) (fun _ => rfl) (by omega) hk (fun i _ hi => ha i hi)
  have em : ((m : Int) + 1).toNat - 1 = m := by omega
  dsimp only
  rw [if_neg (by omega), resG, if_pos ⟨by omega, by omega⟩, em, e]
  simp
theorem sndOf_of {xs : List Int} {c : Nat} (h : Snd xs c) : sndOf xs c = (xs, c) := by
  rw [sndOf_yes (show okB xs c from ⟨by omega, by have := h.len; omega, fun e => ?_⟩), Int.toNat_natCast]
  have e' : c % 8 ≠ 0 := by omega
  have hl := h.len
  have hx : c / 8 < xs.length := by omega
  rw [Int.toNat_natCast, List.getD_eq_getElem?_getD, List.getElem?_eq_getElem hx, Option.getD_some]
  exact h.last e' hx
theorem pcs_bd (m f : Nat) : ∀ v, 1 ≤ pcs m f v ∧ pcs m f v ≤ f + 1 := by
  induction f with
  | zero => intro v; simp [pcs]
  | succ f ih =>
    intro v
    unfold pcs
    split
    · omega
    · have := ih (v / 2 ^ m); omega
end Go.Proofs.Ytfagafglloopbaa
