/- Numbers in pieces read: the program's GetVar. -/
import Derived.Test.YtfagafglloopbaaBg2
namespace Go.Proofs.Ytfagafglloopbaa
open Go.ChangeShapes Go.WideShapes Go.ChangeAt Go.RowKit
open Go.Sort (grow)
set_option linter.unusedVariables false
set_option linter.unusedSimpArgs false
/-- A number in pieces of m bits and one more, from a place on, with what was read of it. -/
def gv (ys : List Int) (k m : Nat) : Nat → Nat → Int → Int → Bool × Int × Int
  | 0, _, _, _ => (false, 0, 0)
  | f + 1, s, p, v => if 0 ≤ p ∧ p + m + 1 ≤ k ∧ s < 64 ∧ getB ys p.toNat m * 2 ^ s < 18446744073709551616 then
      if getB ys (p.toNat + m) 1 = 0 then (if getB ys p.toNat m = 0 ∧ 0 < s then (false, 0, 0) else (true, v + getB ys p.toNat m * 2 ^ s, p + m + 1))
      else gv ys k m f (s + m) (p + m + 1) (v + getB ys p.toNat m * 2 ^ s)
    else (false, 0, 0)
def resG (ys : List Int) (k : Nat) (p n : Int) : Bool × Int × Int := if 2 ≤ n ∧ n ≤ 32 then gv ys k (n.toNat - 1) 65 0 p 0 else (false, 0, 0)
theorem or64g (x b : Int) (k : Nat) (h0 : 0 ≤ x) (h1 : x < 2 ^ k) (b0 : 0 ≤ b) (b1 : b * 2 ^ k < 18446744073709551616) (hx : x + b * 2 ^ k < 18446744073709551616) : bits .or .u64 x (b * 2 ^ k) = x + b * 2 ^ k := by
  have e : bits .or .u64 x (b * 2 ^ k) = IntKind.u64.wrap ((BitVec.ofInt 64 x ||| BitVec.ofInt 64 (b * 2 ^ k)).toNat : Int) := rfl
  rw [e, BitVec.toNat_or, BitVec.toNat_ofInt, BitVec.toNat_ofInt]
  obtain ⟨X, rfl⟩ := Int.eq_ofNat_of_zero_le h0
  obtain ⟨B, rfl⟩ := Int.eq_ofNat_of_zero_le b0
  have e2 : ((2 ^ 64 : Nat) : Int) = 18446744073709551616 := by decide
  have e3 : ((B : Int) * 2 ^ k) = ((B * 2 ^ k : Nat) : Int) := by push_cast; rfl
  have h1' : X < 2 ^ k := by have : (X : Int) < ((2 ^ k : Nat) : Int) := by push_cast; exact h1
                             omega
  rw [e2]
  rw [e3] at b1 hx ⊢
  have e4 : (((X : Int)) % 18446744073709551616).toNat = X := by omega
  have e5 : ((((B * 2 ^ k : Nat) : Int)) % 18446744073709551616).toNat = B * 2 ^ k := by omega
  rw [e4, e5, or_nat X B k h1']
  have e6 : (((X + B * 2 ^ k : Nat) : Int)) % 18446744073709551616 = ((X + B * 2 ^ k : Nat) : Int) := by omega
  have e7 : ∀ z : Int, IntKind.u64.wrap z = z % 18446744073709551616 := fun z => by simp [IntKind.wrap, IntKind.bits, IntKind.signed]
  rw [e7, e6]
  push_cast
  rfl
/-- What a piece adds: it stays within 64 bits, and under the next place. -/
theorem piece_fits {x b : Int} {s m : Nat} (h0 : 0 ≤ x) (h1 : x < 2 ^ s) (b0 : 0 ≤ b) (b1 : b < 2 ^ m) (hs : s < 64) (hf : b * 2 ^ s < 18446744073709551616) : x + b * 2 ^ s < 18446744073709551616 ∧ x + b * 2 ^ s < 2 ^ (s + m) ∧ 0 ≤ b * 2 ^ s := by
  have hp := pow_pos2 s
  have e1 : (2 : Int) ^ s * 2 ^ (64 - s) = 18446744073709551616 := by
    rw [← Int.pow_add, show s + (64 - s) = 64 by omega]
    decide
  have e2 : b < 2 ^ (64 - s) := by
    have h : b * 2 ^ s < 2 ^ (64 - s) * 2 ^ s := by rw [Int.mul_comm (2 ^ (64 - s)), e1]; exact hf
    exact Int.lt_of_mul_lt_mul_right h (by omega)
  have h3 : (b + 1) * 2 ^ s ≤ 2 ^ (64 - s) * 2 ^ s := Int.mul_le_mul_of_nonneg_right (by omega) (by omega)
  have h4 : (b + 1) * 2 ^ s ≤ 2 ^ m * 2 ^ s := Int.mul_le_mul_of_nonneg_right (by omega) (by omega)
  rw [Int.mul_comm (2 ^ (64 - s)), e1] at h3
  rw [Int.add_mul, Int.one_mul] at h3 h4
  have e5 : (2 : Int) ^ (s + m) = 2 ^ m * 2 ^ s := by rw [Int.pow_add, Int.mul_comm]
  have h6 : 0 ≤ b * 2 ^ s := Int.mul_nonneg b0 (by omega)
  rw [e5]
  omega
set_option maxRecDepth 100000 in
set_option maxHeartbeats 4000000 in
theorem piecesGI (B : Nat) (v : Value) (ys : List Int) (k : Nat) (p : Int) (m : Nat) (W0 w : World) {lo : Nat} (h : Ints lo .u8 W0 v ys) (hB : Below W0.heap.size W0 w) (hW : W0.heap.size ≤ B) (hx : w.heap[B]? = some (Go.Obj.cells #[v, .int .i64 k, .int .i64 p, .bool false] 51 (0, 0)))
    (hS : Snd ys k) (hn : ys.length ≤ 1048576) (p0 : -9223372036854775808 ≤ p) (p1 : p ≤ 9223372036854775807) (m0 : 1 ≤ m) (m1 : m ≤ 31) :
    Calls Try.prog 32 #[.pointer (some ⟨B, 0, none⟩), .int .i64 ((m : Int) + 1)] w fun e w' => ∃ x p' f', e = .returned (.int .u64 x) ∧ w'.heap[B]? = some (Go.Obj.cells #[v, .int .i64 k, .int .i64 p', .bool f'] 51 (0, 0)) ∧ (if f' = true then (false, 0, 0) else (true, x, p')) = gv ys k m 65 0 p 0 ∧ ∀ H, H ≤ B → Below H w w' := by
  obtain ⟨R, hR⟩ : ∃ R, Kp (gv ys k m 65 0 p 0 = R) := ⟨_, ⟨rfl⟩⟩
  rw [hR.out]
  have hkb : k ≤ 8388608 := by have := hS.len; omega
  have C : Kp (∀ W q f (n : Nat), Below W0.heap.size W0 W → W.heap[B]? = some (Go.Obj.cells #[v, .int .i64 k, .int .i64 q, .bool f] 51 (0, 0)) → -9223372036854775808 ≤ q → q ≤ 9223372036854775807 → 1 ≤ n → n ≤ 64 → Calls Try.prog 31 #[.pointer (some ⟨B, 0, none⟩), .int .i64 n] W _) := ⟨fun W q f n h1 h2 h3 h4 h5 h6 => getI B v ys k q f n W0 W h h1 hW h2 hS hn h3 h4 h5 h6⟩
  have hx' := Kp.mk hx
  have hB' := Kp.mk hB
  clear h hx hB hS
  go_enter Try.func32, Try.ntmps32
  go_wp2_with fail
  go_loopw [5, 6, 7, 8] (fun s5 s6 _ _ wr => ∃ (f s : Nat) (q u : Int), s5 = .int .u64 u ∧ s6 = .int .i64 s ∧ Kp (gv ys k m f s q u = R) ∧ (s ≤ 128 ∧ 65 ≤ s + f ∧ 0 ≤ u ∧ u < 18446744073709551616 ∧ -9223372036854775808 ≤ q ∧ q ≤ 9223372036854775807) ∧ Kp (s < 64 → u < 2 ^ s) ∧ Kp (wr.heap[B]? = some (Go.Obj.cells #[v, .int .i64 k, .int .i64 q, .bool false] 51 (0, 0))) ∧ Kp (∀ H, H ≤ B → Below H w wr)) (fun _ s6 _ _ _ => 128 - (intOf s6).toNat)
  case atStart => exact ⟨65, 0, p, 0, rfl, rfl, hR, ⟨by omega, by omega, by omega, by omega, p0, p1⟩, ⟨fun _ => by decide⟩, hx', ⟨fun H _ => Below.refl _ _⟩⟩
  case round =>
    obtain ⟨f, s, q, u, rfl, rfl, hV, ⟨s1, sf, u0, u1, q0, q1⟩, hu, hX, hBs⟩ := hrel
    clear hR hx'
    have hBr := hB'.out.trans (hBs.out _ hW)
    by_cases hs : s < 64
    · have hs64 : decide ((s : Int) < 64) = true := by simp; omega
      obtain ⟨f, rfl⟩ : ∃ f', f = f' + 1 := ⟨f - 1, by omega⟩
      by_cases hA : 0 ≤ q ∧ q + m + 1 ≤ k
      · have eG1 : getR ys k q false m = (getB ys q.toNat m, q + m, false) := if_neg (by rintro (h | h | h) <;> first | cases h | omega)
        have eG2 : getR ys k (q + m) false 1 = (getB ys (q + m).toNat 1, q + m + (1 : Nat), false) := if_neg (by rintro (h | h | h) <;> first | cases h | omega)
        have G1 := C.out wr q false m hBr hX.out q0 q1 m0 (by omega)
        rw [eG1] at G1
        replace G1 := Kp.mk G1
        have G2 := fun W h1 h2 => C.out W (q + m) false 1 h1 h2 (by omega) (by omega) (by decide) (by decide)
        rw [eG2] at G2
        replace G2 := Kp.mk G2
        go_wp2_with fail
        refine G1.out.mono ?_
        rintro e w1 ⟨rfl, hX1, hB1⟩
        have G3 := Kp.mk (G2.out w1 (hBr.trans (hB1 _ hW)) hX1)
        clear G1 G2
        go_wp2_with fail
        refine G3.out.mono ?_
        rintro e w2 ⟨rfl, hX2, hB2⟩
        have eM : (q + (m : Int)).toNat = q.toNat + m := by omega
        rw [eM]
        have hPb := getB_bd ys q.toNat m
        have hMb := getB_bd ys (q.toNat + m) 1
        have hVc := hV.out
        rw [gv] at hVc
        obtain ⟨P, hP⟩ : ∃ P, P = getB ys q.toNat m := ⟨_, rfl⟩
        obtain ⟨M, hM⟩ : ∃ M, M = getB ys (q.toNat + m) 1 := ⟨_, rfl⟩
        rw [← hP, ← hM] at hVc
        rw [← hP] at hPb ⊢
        rw [← hM] at hMb ⊢
        have hM1 : M = 0 ∨ M = 1 := by
          have e : (2 : Int) ^ 1 = 2 := rfl
          rw [e] at hMb
          omega
        clear hP hM G3 hV eM hX1 eG1 eG2 hMb
        obtain ⟨q2, hq2⟩ : ∃ q2, Kp (q2 = q + m + 1) := ⟨_, ⟨rfl⟩⟩
        have eq2 : q + (m : Int) + ((1 : Nat) : Int) = q2 := by rw [hq2.out]; rfl
        rw [eq2] at hX2
        rw [← hq2.out] at hVc
        have hq2b : -9223372036854775808 ≤ q2 ∧ q2 ≤ 9223372036854775807 := by rw [hq2.out]; omega
        have y2 : w2.cell? ⟨B, 2, none⟩ = some (.int .i64 q2) := at_cells hX2 rfl
        have y3 : w2.cell? ⟨B, 3, none⟩ = some (.bool false) := at_cells hX2 rfl
        have f0 := rw_cells hX2
        have hps := pow_pos2 s
        have hB3 : Kp (∀ H, H ≤ B → Below H w w2) := ⟨fun H hH => (hBs.out H hH).trans ((hB1 H hH).trans (hB2 H hH))⟩
        have hPs0 : 0 ≤ P * 2 ^ s := Int.mul_nonneg hPb.1 (by omega)
        have e7 : ∀ z : Int, IntKind.u64.wrap z = z % 18446744073709551616 := fun z => by simp [IntKind.wrap, IntKind.bits, IntKind.signed]
        have hdiv : P * 2 ^ s / 2 ^ s = P := Int.mul_ediv_cancel _ (by omega)
        have hcond : (0 ≤ q ∧ q2 ≤ k ∧ s < 64 ∧ P * 2 ^ s < 18446744073709551616) ↔ P * 2 ^ s < 18446744073709551616 := ⟨fun h => h.2.2.2, fun h => ⟨hA.1, by rw [hq2.out]; omega, hs, h⟩⟩
        have hXt := Kp.mk (set_cells hX2 3 (.bool true))
        have hXf := Kp.mk (set_cells hX2 3 (.bool false))
        replace hX2 := Kp.mk hX2
        clear hB1 hB2 hBr hX eq2 hq2
        by_cases hfit : P * 2 ^ s < 18446744073709551616
        · rw [if_pos (hcond.2 hfit)] at hVc
          have hu2 := hu.out hs
          have hpf := piece_fits u0 hu2 hPb.1 hPb.2 hs hfit
          have ew : Kp (IntKind.u64.wrap (P * 2 ^ s) = P * 2 ^ s) := ⟨by rw [e7]; exact Int.emod_eq_of_lt hPs0 hfit⟩
          have hor : Kp (bits .or .u64 u (IntKind.u64.wrap (P * 2 ^ s)) = u + P * 2 ^ s) := ⟨by rw [ew.out]; exact or64g u P s u0 hu2 hPb.1 hfit hpf.1⟩
          have hqb : (IntKind.u64.wrap (P * 2 ^ s) / 2 ^ s != P) = false := by rw [ew.out, hdiv]; simp
          replace hfit := Kp.mk hfit
          clear e7 hdiv hcond hPs0 hu
          by_cases hM0 : M = 0
          · rw [if_pos hM0] at hVc
            have hMb : (M == 0) = true := by simp [hM0]
            replace hM0 := Kp.mk hM0
            by_cases hP0 : P = 0
            · have hPz : (P == 0) = true := by simp [hP0]
              by_cases hs0 : 0 < s
              · rw [if_pos ⟨hP0, hs0⟩] at hVc
                have hsd : decide (0 < (s : Int)) = true := by simp; omega
                replace hP0 := Kp.mk hP0
                replace hVc := Kp.mk hVc
                clear hpf hu2 hPb C
                go_wp2_with fail
                go_ret
                exact ⟨_, q2, true, rfl, hXt.out, by rw [if_pos rfl]; exact hVc.out, fun H hH => bel_set (hB3.out H hH) hH _⟩
              · rw [if_neg (fun h => hs0 h.2)] at hVc
                have hsd : decide (0 < (s : Int)) = false := by simp; omega
                replace hP0 := Kp.mk hP0
                replace hVc := Kp.mk hVc
                clear hpf hu2 hPb C
                go_wp2_with fail
                go_ret
                exact ⟨_, q2, false, rfl, hXf.out, by rw [if_neg (by decide), hor.out]; exact hVc.out, fun H hH => bel_set (hB3.out H hH) hH _⟩
            · rw [if_neg (fun h => hP0 h.1)] at hVc
              have hPz : (P == 0) = false := by simp [hP0]
              replace hP0 := Kp.mk hP0
              replace hVc := Kp.mk hVc
              clear hpf hu2 hPb C
              go_wp2_with fail
              go_ret
              exact ⟨_, q2, false, rfl, hXf.out, by rw [if_neg (by decide), hor.out]; exact hVc.out, fun H hH => bel_set (hB3.out H hH) hH _⟩
          · rw [if_neg hM0] at hVc
            have hMb : (M == 0) = false := by simp [hM0]
            replace hM0 := Kp.mk hM0
            replace hVc := Kp.mk hVc
            have hn1 : 0 ≤ u + P * 2 ^ s ∧ u + P * 2 ^ s < 18446744073709551616 := ⟨by have := hpf.2.2; omega, hpf.1⟩
            have hn2 : Kp (s + m < 64 → u + P * 2 ^ s < 2 ^ (s + m)) := ⟨fun _ => hpf.2.1⟩
            replace hn1 := Kp.mk hn1
            clear hpf hu2 hPb C
            go_wp2_with fail
            exact ⟨⟨f, s + m, q2, u + P * 2 ^ s, by rw [hor.out], by go_num, hVc, ⟨by omega, by omega, hn1.out.1, hn1.out.2, hq2b.1, hq2b.2⟩, hn2, hX2, hB3⟩, by simp [intOf]; omega⟩
        · rw [if_neg (fun h => hfit (hcond.1 h))] at hVc
          have hqb : (IntKind.u64.wrap (P * 2 ^ s) / 2 ^ s != P) = true := by
            rw [e7]
            have h1 := Int.emod_lt_of_pos (P * 2 ^ s) (show (0 : Int) < 18446744073709551616 by decide)
            have h2 : P * 2 ^ s % 18446744073709551616 < P * 2 ^ s := by omega
            have h3 : P * 2 ^ s % 18446744073709551616 / 2 ^ s < P := Int.ediv_lt_of_lt_mul hps h2
            simp
            omega
          replace hfit := Kp.mk hfit
          replace hVc := Kp.mk hVc
          clear e7 hdiv hcond hPs0 hu C hPb
          go_wp2_with fail
          go_ret
          exact ⟨_, q2, true, rfl, hXt.out, by rw [if_pos rfl]; exact hVc.out, fun H hH => bel_set (hB3.out H hH) hH _⟩
      · have hVc : (false, (0 : Int), (0 : Int)) = R := by
          rw [← hV.out, gv, if_neg (fun h => hA ⟨h.1, h.2.1⟩)]
        replace hVc := Kp.mk hVc
        -- either get fails: the reader has failed for good
        have hbad : ∃ q3 z1 z2 f1, getR ys k q false m = (z1, q3, f1) ∧ (getR ys k q3 f1 1).1 = z2 ∧ (getR ys k q3 f1 1).2.1 = q3 ∧ (getR ys k q3 f1 1).2.2 = true ∧ -9223372036854775808 ≤ q3 ∧ q3 ≤ 9223372036854775807 := by
          by_cases h1 : q < 0 ∨ (k : Int) - m < q
          · refine ⟨q, 0, 0, true, if_pos (.inr h1), ?_, ?_, ?_, q0, q1⟩ <;> rw [show getR ys k q true 1 = (0, q, true) from if_pos (.inl rfl)]
          · refine ⟨q + m, getB ys q.toNat m, 0, false, if_neg (by rintro (h | h); cases h; exact h1 h), ?_, ?_, ?_, by omega, by omega⟩ <;> rw [show getR ys k (q + m) false 1 = (0, q + m, true) from if_pos (.inr (.inr (by omega)))]
        obtain ⟨q3, z1, z2, f1, h1, h2, h3, h4, h5, h6⟩ := hbad
        have G1 := C.out wr q false m hBr hX.out q0 q1 m0 (by omega)
        rw [h1] at G1
        replace G1 := Kp.mk G1
        have G2 := Kp.mk (fun W a b => C.out W q3 f1 1 a b h5 h6 (by decide) (by decide))
        rw [h2, h3, h4] at G2
        clear h1 h2 h3 h4 hu hX C
        go_wp2_with fail
        refine G1.out.mono ?_
        rintro e w1 ⟨rfl, hX1, hB1⟩
        have G3 := Kp.mk (G2.out w1 (hBr.trans (hB1 _ hW)) hX1)
        clear G1 G2
        go_wp2_with fail
        refine G3.out.mono ?_
        rintro e w2 ⟨rfl, hX2, hB2⟩
        have y3 : w2.cell? ⟨B, 3, none⟩ = some (.bool true) := at_cells hX2 rfl
        have f0 := rw_cells hX2
        have hB3 : Kp (∀ H, H ≤ B → Below H w w2) := ⟨fun H hH => (hBs.out H hH).trans ((hB1 H hH).trans (hB2 H hH))⟩
        have hXt := Kp.mk (set_cells hX2 3 (.bool true))
        clear hB1 hB2 hBr hX1 hX2 G3
        go_wp2_with fail
        go_ret
        exact ⟨_, q3, true, rfl, hXt.out, by rw [if_pos rfl]; exact hVc.out, fun H hH => bel_set (hB3.out H hH) hH _⟩
    · have hs64 : decide ((s : Int) < 64) = false := by simp; omega
      have hVc : (false, (0 : Int), (0 : Int)) = R := by
        rw [← hV.out]
        cases f with
        | zero => rfl
        | succ f => rw [gv, if_neg (fun h => hs h.2.2.1)]
      replace hVc := Kp.mk hVc
      have y3 : wr.cell? ⟨B, 3, none⟩ = some (.bool false) := at_cells hX.out rfl
      have f0 := rw_cells hX.out
      have hXt := Kp.mk (set_cells hX.out 3 (.bool true))
      clear C hu
      go_wp2_with fail
      go_ret
      exact ⟨_, q, true, rfl, hXt.out, by rw [if_pos rfl]; exact hVc.out, fun H hH => bel_set (hBs.out H hH) hH _⟩
end Go.Proofs.Ytfagafglloopbaa
