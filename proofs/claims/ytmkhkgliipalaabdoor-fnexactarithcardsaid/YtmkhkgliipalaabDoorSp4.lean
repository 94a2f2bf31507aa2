/- Contract over one translation: the specification's product by adding up is the two halves of the product. -/
import Derived.Test.YtmkhkgliipalaabDoorSp3
namespace Go.Proofs.YtmkhkgliipalaabDoor
open Go.ChangeShapes Go.WideShapes Go.ChangeAt Go.RowKit
set_option linter.unusedVariables false
set_option linter.unusedSimpArgs false
structure TwoIs (B : Nat) (p q : Int) (w : World) : Prop where
  c0 : w.cell? ⟨B, 0, none⟩ = some (.int .u64 p)
  c1 : w.cell? ⟨B, 1, none⟩ = some (.int .u64 q)
  d0 : w.frozen? ⟨B, 0, none⟩ = false
  d1 : w.frozen? ⟨B, 1, none⟩ = false
theorem TwoIs.bel {B : Nat} {p q : Int} {w w' : World} (h : TwoIs B p q w) (hB : B < w.heap.size) (hb : Below w.heap.size w w') : TwoIs B p q w' :=
  ⟨by rw [hb.cell (p := ⟨B, 0, none⟩) hB]; exact h.c0, by rw [hb.cell (p := ⟨B, 1, none⟩) hB]; exact h.c1, by rw [hb.frozen (p := ⟨B, 0, none⟩) hB]; exact h.d0, by rw [hb.frozen (p := ⟨B, 1, none⟩) hB]; exact h.d1⟩
theorem TwoIs.set0 {B : Nat} {p q p' : Int} {w : World} (h : TwoIs B p q w) : TwoIs B p' q (w.setCell ⟨B, 0, none⟩ (.int .u64 p')) :=
  ⟨World.cell?_setCell_same _ _ _ h.c0, by rw [World.cell?_setCell_other _ _ _ _ (by intro e; injection e; omega)]; exact h.c1, by simpa [go_sem] using h.d0, by simpa [go_sem] using h.d1⟩
theorem TwoIs.set1 {B : Nat} {p q q' : Int} {w : World} (h : TwoIs B p q w) : TwoIs B p q' (w.setCell ⟨B, 1, none⟩ (.int .u64 q')) :=
  ⟨by rw [World.cell?_setCell_other _ _ _ _ (by intro e; injection e; omega)]; exact h.c0, World.cell?_setCell_same _ _ _ h.c1, by simpa [go_sem] using h.d0, by simpa [go_sem] using h.d1⟩
theorem TwoIs.far {B B' i : Nat} {p q : Int} {v : Value} {w : World} (h : TwoIs B p q w) (hB : B ≠ B') : TwoIs B p q (w.setCell ⟨B', i, none⟩ v) :=
  ⟨by rw [World.cell?_setCell_other _ _ _ _ (by intro e; injection e; omega)]; exact h.c0, by rw [World.cell?_setCell_other _ _ _ _ (by intro e; injection e; omega)]; exact h.c1, by simpa [go_sem] using h.d0, by simpa [go_sem] using h.d1⟩
theorem TwoIs.al {B : Nat} {p q : Int} {w : World} (h : TwoIs B p q w) (hB : B < w.heap.size) (o : Obj) : TwoIs B p q (w.alloc o) := h.bel hB (bel_alloc _ _)
theorem TwoIs.eq {B : Nat} {p q p' q' : Int} {w : World} (h : TwoIs B p q w) (hp : p = p') (hq : q = q') : TwoIs B p' q' w := by subst hp hq; exact h
/-- One step of the product: the halves doubled. -/
theorem dbl_hi {P : Int} (h0 : 0 ≤ P) (h1 : P < 170141183460469231731687303715884105728) : bits .or .u64 (IntKind.u64.wrap (wHi P * 2)) (wLo P / 9223372036854775808) = wHi (P * 2) := by
  have hl := wLo_bd P
  have hh : wHi P ≤ 9223372036854775807 := by unfold wHi; omega
  have hh0 := (wHi_bd P).1
  rw [IntKind.wrap_u64, Int.emod_eq_of_lt (by omega) (by omega)]
  obtain ⟨H, eH⟩ := Int.eq_ofNat_of_zero_le hh0
  obtain ⟨L, eL⟩ := Int.eq_ofNat_of_zero_le (show 0 ≤ wLo P / 9223372036854775808 by omega)
  have e : wHi (P * 2) = wHi P * 2 + wLo P / 9223372036854775808 := by unfold wHi wLo; omega
  rw [e, eH, eL]
  have hL : L < 2 := by omega
  have e2 : ((H : Int) * 2) = ((H * 2 : Nat) : Int) := by omega
  rw [e2, u64_or_nat (H * 2) L (by omega) (by omega), nat_join 1 (H * 2) L (by omega) (by omega)]
  omega
theorem dbl_lo (P : Int) : IntKind.u64.wrap (wLo P * 2) = wLo (P * 2) := by rw [IntKind.wrap_u64]; unfold wLo; omega
theorem add_hi {S b : Int} (hS : 0 ≤ S) (hb : 0 ≤ b ∧ b ≤ 18446744073709551615) : IntKind.u64.wrap (wHi S + wHi (wLo S + b)) = wHi (S + b) := by
  rw [IntKind.wrap_u64]; unfold wHi wLo; omega
theorem add_lo {S b : Int} : wLo (wLo S + b) = wLo (S + b) := by unfold wLo; omega
set_option maxRecDepth 100000 in
set_option maxHeartbeats 2000000 in
theorem product_spec (a b : Int) (w : World) (a0 : 0 ≤ a) (a1 : a ≤ 18446744073709551615) (b0 : 0 ≤ b) (b1 : b ≤ 18446744073709551615) :
    Calls Tryd.prog 25 #[.int .u64 a, .int .u64 b] w fun e w' => e = .returned (.agg #[.int .u64 (wHi (a * b)), .int .u64 (wLo (a * b))]) ∧ Below w.heap.size w w' := by
  go_enter Tryd.func25, Tryd.ntmps25
  go_wp2_with fail
  go_loopw [6] (fun s wr => ∃ k : Nat, k ≤ 64 ∧ s = .int .i64 ((k : Int) - 1) ∧ Below w.heap.size w wr ∧ w.heap.size + 1 < wr.heap.size ∧ TwoIs (w.heap.size + 1) (wHi (a / 2 ^ k * b)) (wLo (a / 2 ^ k * b)) wr ∧ TwoIs w.heap.size 0 0 wr) (fun s _ => (intOf s + 1).toNat)
  case atStart =>
    have z : a / 2 ^ 64 = 0 := Int.ediv_eq_zero_of_lt a0 (by omega)
    refine ⟨64, by omega, rfl, bel2 _ _ _, by simp, ?_, ?_⟩
    · rw [z]
      exact ⟨by simp [go_sem, wHi], by simp [go_sem, wLo], by simp [go_sem], by simp [go_sem]⟩
    · exact ⟨by simp [go_sem], by simp [go_sem], by simp [go_sem], by simp [go_sem]⟩
  case round =>
    obtain ⟨k, hk, rfl, hBr, hz, hO, hR⟩ := hrel
    obtain ⟨oc0, oc1, od0, od1⟩ := id hO
    obtain ⟨rc0, rc1, rd0, rd1⟩ := id hR
    rcases Nat.eq_zero_or_pos k with h0 | hpos
    · subst h0
      have e0 : a / 2 ^ 0 * b = a * b := by simp
      rw [e0] at oc0 oc1
      clear e0 hO hR
      go_wp2_with fail
      exact bodyPost_ret (v := .agg #[.int .u64 (wHi (a * b)), .int .u64 (wLo (a * b))]) (by simp [results, Tryd.results25, go_sem, rc0, rc1]) rfl ⟨rfl, (hBr.setCell (by simp) _).setCell (by simp) _⟩
    · obtain ⟨j, rfl⟩ : ∃ j, k = j + 1 := ⟨k - 1, by omega⟩
      have ej : (((j + 1 : Nat) : Int) - 1) = (j : Int) := by omega
      rw [ej]
      have hj : (j : Int) ≤ 63 := by omega
      have Q0 : 0 ≤ a / 2 ^ (j + 1) := Int.ediv_nonneg a0 (Int.le_of_lt (Int.pow_pos (by decide)))
      have Q1 : a / 2 ^ (j + 1) ≤ 9223372036854775807 := by
        rw [div_pow_succ]; have := Int.ediv_le_self (2 ^ j) a0; omega
      have P0 : 0 ≤ a / 2 ^ (j + 1) * b := Int.mul_nonneg Q0 b0
      have P1 : a / 2 ^ (j + 1) * b < 170141183460469231731687303715884105728 := by
        have h1 := Int.mul_le_mul_of_nonneg_right Q1 b0
        have h2 := Int.mul_le_mul_of_nonneg_left b1 (show (0 : Int) ≤ 9223372036854775807 by decide)
        omega
      have DH : Hid _ := dbl_hi P0 P1
      have DL : Hid _ := dbl_lo (a / 2 ^ (j + 1) * b)
      have DV : Hid (a / 2 ^ (j + 1) = a / 2 ^ j / 2) := div_pow_succ a j
      have q0 : 0 ≤ a / 2 ^ j := Int.ediv_nonneg a0 (Int.le_of_lt (Int.pow_pos (by decide)))
      have q1 : a / 2 ^ j ≤ 18446744073709551615 := by have := Int.ediv_le_self (2 ^ j) a0; omega
      have HB : Hid (bits .and .u64 (a / 2 ^ j) 1 = a / 2 ^ j % 2) := and_mask 1 (by decide) _ 1 (by decide) q0 q1
      clear ej Q0 Q1 P0 P1
      have HO : Hid (TwoIs (w.heap.size + 1) (wHi (a / 2 ^ (j + 1) * b)) (wLo (a / 2 ^ (j + 1) * b)) wr) := hO
      have HR : Hid (TwoIs w.heap.size 0 0 wr) := hR
      clear hO hR
      by_cases bit : (bits BinOp.and IntKind.u64 (a / 2 ^ j) 1 == 1) = true
      · have EB : Hid (a / 2 ^ j = a / 2 ^ (j + 1) * 2 + 1) := show a / 2 ^ j = a / 2 ^ (j + 1) * 2 + 1 by
          have h := HB.out
          have b' : bits BinOp.and IntKind.u64 (a / 2 ^ j) 1 = 1 := by simpa using bit
          rw [DV.out]; omega
        go_wp2_with fail
        refine (sum_spec _ _ _ (wrapU_bd _).1 (wrapU_bd _).2 b0 b1).mono ?_
        rintro e w2 ⟨rfl, hb2⟩
        have hz2 : w.heap.size + 1 < w2.heap.size := by have := hb2.size; simp at this; omega
        have HO2 := ((HO.out.set0 (p' := bits .or .u64 (IntKind.u64.wrap (wHi (a / 2 ^ (j + 1) * b) * 2)) (wLo (a / 2 ^ (j + 1) * b) / 9223372036854775808))).set1 (q' := IntKind.u64.wrap (wLo (a / 2 ^ (j + 1) * b) * 2))).bel (by simpa using hz) hb2
        have HR2 := ((HR.out.far (i := 0) (v := Value.int .u64 (bits .or .u64 (IntKind.u64.wrap (wHi (a / 2 ^ (j + 1) * b) * 2)) (wLo (a / 2 ^ (j + 1) * b) / 9223372036854775808))) (show w.heap.size ≠ w.heap.size + 1 by omega)).far (i := 1) (v := Value.int .u64 (IntKind.u64.wrap (wLo (a / 2 ^ (j + 1) * b) * 2))) (show w.heap.size ≠ w.heap.size + 1 by omega)).bel (by have := hz; simp; omega) hb2
        obtain ⟨u0, u1, v0, v1⟩ := id HO2
        go_wp2_with fail
        have hz3 : w.heap.size < w2.heap.size := by omega
        have eS : a / 2 ^ j * b = a / 2 ^ (j + 1) * b * 2 + b := by rw [EB.out, Int.add_mul, Int.one_mul, Int.mul_right_comm]
        have hS : 0 ≤ a / 2 ^ (j + 1) * b * 2 := Int.mul_nonneg (Int.mul_nonneg (Int.ediv_nonneg a0 (Int.le_of_lt (Int.pow_pos (by decide)))) b0) (by decide)
        have hB3 : Below w.heap.size w w2 := ((hBr.setCell (by simp) _).setCell (by simp) _).trans (hb2.mono (by have := hz; simp at this ⊢; omega))
        refine ⟨⟨j, by omega, rfl, (((hB3.setCell (by simp) _).setCell (by simp) _).alloc (by simp <;> omega) _), by simp <;> omega, (((HO2.set1).set0).al (by simp <;> omega) _).eq ?_ ?_, ((HR2.far (by omega)).far (by omega)).al (by simp <;> omega) _⟩, by simp [intOf] <;> omega⟩
        · rw [eS, DH.out, DL.out]; exact add_hi hS ⟨b0, b1⟩
        · rw [eS, DL.out]; exact add_lo
      · have bit' : (bits BinOp.and IntKind.u64 (a / 2 ^ j) 1 == 1) = false := by simpa using bit
        have EB : Hid (a / 2 ^ j = a / 2 ^ (j + 1) * 2) := show a / 2 ^ j = a / 2 ^ (j + 1) * 2 by
          have h := HB.out
          have b' : ¬ bits BinOp.and IntKind.u64 (a / 2 ^ j) 1 = 1 := by simpa using bit
          rw [DV.out]; omega
        clear bit
        go_wp2_with fail
        refine ⟨⟨j, by omega, rfl, (hBr.setCell (by simp) _).setCell (by simp) _, by simpa using hz, ((HO.out.set0).set1).eq ?_ ?_, (HR.out.far (by omega)).far (by omega)⟩, by simp [intOf] <;> omega⟩
        · rw [DH.out, EB.out]; congr 1; rw [Int.mul_right_comm]
        · rw [DL.out, EB.out]; congr 1; rw [Int.mul_right_comm]
end Go.Proofs.YtmkhkgliipalaabDoor
