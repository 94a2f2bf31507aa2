/- Over one translation: the quotients and remainders of the program at the laws' own calls, and plain facts about them. -/
import Derived.Test.YtmkhkgliipalaaaDoorLwC
import Derived.Lib.QuietBelow
import Derived.Lib.AtoiErrMem
import Derived.BigQuiet
namespace Go.Proofs.YtmkhkgliipalaaaDoor
open Go.ChangeShapes Go.WideShapes Go.ChangeAt Go.RowKit
open Go.Sort (grow)
set_option linter.unusedVariables false
set_option linter.unusedSimpArgs false
/-- A fact that the walk does not take for a rule. -/
structure Kp (p : Prop) : Prop where
  out : p
/-- Two cells of a block. -/
structure Tw (w : World) (b : Nat) (x y : Value) : Prop where
  c0 : w.cell? ⟨b, 0, none⟩ = some x
  c1 : w.cell? ⟨b, 1, none⟩ = some y
theorem Tw.keep {w w' : World} {b : Nat} {x y : Value} (h : Tw w b x y) (hb : Below w.heap.size w w') : Tw w' b x y := by
  have l := Lib.lt_of_cell h.c0
  exact ⟨by rw [hb.cell (p := ⟨b, 0, none⟩) l]; exact h.c0, by rw [hb.cell (p := ⟨b, 1, none⟩) l]; exact h.c1⟩
theorem tw_new (w : World) (c d : Value) (t : TypeId) : Tw (w.alloc (Obj.cells #[c, d] t)) w.heap.size c d := ⟨by simp, by simp⟩
/-- What a call answers in each world where the table of widths lies; it makes new memory at most. -/
def Tl (f : Nat) (args : Array Value) (v : Value) : Prop := ∀ w : World, Wid w → Calls Tryd.prog f args w fun e w' => e = .returned v ∧ Below w.heap.size w w'
/-- .. and turns nothing at all. -/
def TlS (f : Nat) (args : Array Value) (v : Value) : Prop := ∀ w : World, Wid w → Calls Tryd.prog f args w fun e w' => e = .returned v ∧ w' = w
theorem Tl.at {f : Nat} {args : Array Value} {v : Value} (h : Tl f args v) {w : World} (hL : Wid w) (d : Nat) (os : Array Obj) :
    Calls Tryd.prog f args (grow (redrawn w d) os) fun e w'' => e = .returned v ∧ ∃ p : Regrown, w'' = grow (redrawn w p.d) p.os :=
  Calls.regrown_of (h _ (hL.below (below_regrown w d os)))
abbrev Ari (op fl x a b c v : Int) : Prop := Tl 12 #[.int .i64 op, .int .i64 fl, .int .i64 x, .int .u64 a, .int .u64 b] (.agg #[.int .i64 c, .int .u64 v])
theorem ari_zero (op fl x a : Int) (ho : op = 4 ∧ (fl = 0 ∨ fl = 4) ∨ op = 6 ∧ fl = 0 ∨ op = 5 ∧ (fl = 0 ∨ fl = 4) ∨ op = 7 ∧ fl = 0) (ha : isW x a = true) (h0 : isW x 0 = true) (hs : sgnI x 0 = 0) : Ari op fl x a 0 2 0 := by
  intro w hw
  rcases ho with ⟨rfl, h⟩ | ⟨rfl, h⟩ | ⟨rfl, h⟩ | ⟨rfl, h⟩
  · exact arith_f2a 4 fl x a 0 2 0 w hw rfl (by rcases h with rfl | rfl <;> decide) ha h0 (fun w _ => divW_zero 4 fl a w)
  · exact arith_f2b 6 fl x a 0 2 0 w hw rfl (by subst h; decide) ha h0 (fun w _ => divW_zero 6 fl a w)
  · exact arith_f3a 5 fl x a 0 2 0 w hw rfl (by rcases h with rfl | rfl <;> decide) ha h0 (fun w hw => divS_zero 5 fl x a 0 w hw ha h0 (by rw [hs]; rfl))
  · exact arith_f3b 7 fl x a 0 2 0 w hw rfl (by subst h; decide) ha h0 (fun w hw => divS_zero 7 fl x a 0 w hw ha h0 (by rw [hs]; rfl))
theorem div_forms {a b : Int} (a0 : 0 ≤ a) (a1 : a ≤ 18446744073709551615) (b0 : 0 < b) : IntKind.u64.wrap (a.tdiv b) = a / b ∧ a.tmod b = a % b := by
  refine ⟨?_, Int.tmod_eq_emod_of_nonneg a0⟩
  rw [Int.tdiv_eq_ediv_of_nonneg a0, IntKind.wrap_u64]
  have := Int.ediv_nonneg a0 (Int.le_of_lt b0)
  have := Int.ediv_le_self b a0
  omega
theorem ari_4 {x a b : Int} (ha : isW x a = true) (hb : isW x b = true) (b0 : 0 < b) : Ari 4 0 x a b 0 (a / b) := by
  intro w hw
  have A := u64_bd ha; have B := u64_bd hb
  obtain ⟨e1, e2⟩ := div_forms A.1 A.2 b0
  exact arith_f2a 4 0 x a b 0 _ w hw rfl (by decide) ha hb (fun w _ => divW_raw 4 0 a b 0 _ w A.1 A.2 b0 B.2 (by rw [e1]; exact fun w => qr_quo 4 0 _ _ w (by decide) (.inl (by decide))))
theorem ari_6 {x a b : Int} (ha : isW x a = true) (hb : isW x b = true) (b0 : 0 < b) : Ari 6 0 x a b 0 (a % b) := by
  intro w hw
  have A := u64_bd ha; have B := u64_bd hb
  obtain ⟨e1, e2⟩ := div_forms A.1 A.2 b0
  exact arith_f2b 6 0 x a b 0 _ w hw rfl (by decide) ha hb (fun w _ => divW_raw 6 0 a b 0 _ w A.1 A.2 b0 B.2 (by rw [e2]; exact fun w => qr_rem 6 0 _ _ w (by decide)))
theorem ari_4e {x a b : Int} (ha : isW x a = true) (hb : isW x b = true) (b0 : 0 < b) : ∃ c v, (c == 1) = (a % b != 0) ∧ Ari 4 4 x a b c v := by
  have A := u64_bd ha; have B := u64_bd hb
  obtain ⟨e1, e2⟩ := div_forms A.1 A.2 b0
  cases kr : (a % b != 0) with
  | true => exact ⟨1, 0, by decide, fun w hw => arith_f2a 4 4 x a b 1 0 w hw rfl (by decide) ha hb (fun w _ => divW_raw 4 4 a b 1 0 w A.1 A.2 b0 B.2 (by rw [e1, e2]; exact fun w => qr_poison 4 4 _ _ w (by decide) (by decide) kr))⟩
  | false => exact ⟨0, a / b, by decide, fun w hw => arith_f2a 4 4 x a b 0 _ w hw rfl (by decide) ha hb (fun w _ => divW_raw 4 4 a b 0 _ w A.1 A.2 b0 B.2 (by rw [e1, e2]; exact fun w => qr_quo 4 4 _ _ w (by decide) (.inr kr)))⟩
/-- The words of the quotient and of the remainder of two numbers with signs. -/
def qW (x a b : Int) : Int := cutI x (IntKind.u64.wrap (IntKind.i64.wrap ((sgnI x a).tdiv (sgnI x b))))
def rW (x a b : Int) : Int := cutI x (IntKind.u64.wrap ((sgnI x a).tmod (sgnI x b)))
/-- The least number by minus one. -/
def least (x a b : Int) : Bool := (sgnI x b == -1) && (a == 2 ^ (x.toNat - 1))
theorem divS_any (op fl x a b c v : Int) (w : World) (hw : Wid w) (ha : isW x a = true) (hb : isW x b = true) (m0 : ¬ sgnI x b = 0) (hl : least x a b = false) (h : QR op fl (qW x a b) (rW x a b) c v) :
    Calls Tryd.prog 30 #[.int .i64 op, .int .i64 fl, .int .i64 x, .int .u64 a, .int .u64 b] w fun e w' => e = .returned (.agg #[.int .i64 c, .int .u64 v]) ∧ Below w.heap.size w w' := by
  have n0 : (sgnI x b == 0) = false := beq_eq_false_iff_ne.2 m0
  cases m1 : (sgnI x b == -1) with
  | false => exact divS_gen op fl x a b c v w hw ha hb n0 m1 h
  | true =>
    cases ht : (a == 2 ^ (x.toNat - 1)) with
    | false => exact divS_one op fl x a b c v w hw ha hb n0 m1 ht h
    | true => simp [least, m1, ht] at hl
theorem ari_5 {x a b : Int} (ha : isW x a = true) (hb : isW x b = true) (m0 : ¬ sgnI x b = 0) (hl : least x a b = false) : Ari 5 0 x a b 0 (qW x a b) := fun w hw =>
  arith_f3a 5 0 x a b 0 _ w hw rfl (by decide) ha hb (fun w hw => divS_any 5 0 x a b 0 _ w hw ha hb m0 hl (fun w => qr_quo 5 0 _ _ w (by decide) (.inl (by decide))))
theorem ari_7 {x a b : Int} (ha : isW x a = true) (hb : isW x b = true) (m0 : ¬ sgnI x b = 0) (hl : least x a b = false) : Ari 7 0 x a b 0 (rW x a b) := fun w hw =>
  arith_f3b 7 0 x a b 0 _ w hw rfl (by decide) ha hb (fun w hw => divS_any 7 0 x a b 0 _ w hw ha hb m0 hl (fun w => qr_rem 7 0 _ _ w (by decide)))
theorem ari_5e {x a b : Int} (ha : isW x a = true) (hb : isW x b = true) (m0 : ¬ sgnI x b = 0) (hl : least x a b = false) : ∃ c v, (c == 1) = (rW x a b != 0) ∧ Ari 5 4 x a b c v := by
  cases kr : (rW x a b != 0) with
  | true => exact ⟨1, 0, by decide, fun w hw => arith_f3a 5 4 x a b 1 0 w hw rfl (by decide) ha hb (fun w hw => divS_any 5 4 x a b 1 0 w hw ha hb m0 hl (fun w => qr_poison 5 4 _ _ w (by decide) (by decide) kr))⟩
  | false => exact ⟨0, qW x a b, by decide, fun w hw => arith_f3a 5 4 x a b 0 _ w hw rfl (by decide) ha hb (fun w hw => divS_any 5 4 x a b 0 _ w hw ha hb m0 hl (fun w => qr_quo 5 4 _ _ w (by decide) (.inr kr)))⟩
theorem ari_least (op x a b : Int) (ho : op = 5 ∨ op = 7) (ha : isW x a = true) (hb : isW x b = true) (m0 : ¬ sgnI x b = 0) (hl : least x a b = true) : Ari op 0 x a b 2 0 := by
  intro w hw
  have n0 : (sgnI x b == 0) = false := beq_eq_false_iff_ne.2 m0
  obtain ⟨m1, ht⟩ : (sgnI x b == -1) = true ∧ (a == 2 ^ (x.toNat - 1)) = true := by
    unfold least at hl; exact Bool.and_eq_true_iff.1 hl
  rcases ho with rfl | rfl
  · exact arith_f3a 5 0 x a b 2 0 w hw rfl (by decide) ha hb (fun w hw => divS_least 5 0 x a b w hw ha hb n0 m1 ht)
  · exact arith_f3b 7 0 x a b 2 0 w hw rfl (by decide) ha hb (fun w hw => divS_least 7 0 x a b w hw ha hb n0 m1 ht)
theorem sgn_ne {x b : Int} (h : isW x b = true) (hb : ¬ b = 0) : ¬ sgnI x b = 0 := by
  have bd := isW_bd h
  rcases vw_cases (isW_vw h) with rfl | rfl | rfl | rfl | rfl <;> simp [sgnI] at * <;> split <;> omega
theorem sgn_z {x : Int} (h : vw x = true) : sgnI x 0 = 0 := by
  rcases vw_cases h with rfl | rfl | rfl | rfl | rfl <;> simp [sgnI]
theorem zero_w {x : Int} (h : vw x = true) : isW x 0 = true := by
  rcases vw_cases h with rfl | rfl | rfl | rfl | rfl <;> decide
/-- Half the words of a width. -/
def hf (x : Int) : Int := 2 ^ (x.toNat - 1)
theorem sgn_half {x a : Int} (h : isW x a = true) : -hf x ≤ sgnI x a ∧ sgnI x a < hf x := by
  have bd := isW_bd h
  unfold hf
  rcases vw_cases (isW_vw h) with rfl | rfl | rfl | rfl | rfl <;> simp [sgnI] at * <;> split <;> omega
theorem sgn_cut {x n : Int} (hx : vw x = true) (h0 : -hf x ≤ n) (h1 : n < hf x) : sgnI x (cutI x (IntKind.u64.wrap n)) = n := by
  unfold hf at h0 h1
  rw [IntKind.wrap_u64]
  rcases vw_cases hx with rfl | rfl | rfl | rfl | rfl <;> simp [sgnI, cutI] at * <;> split <;> omega
theorem sgn_cut2 {x n : Int} (hx : vw x = true) (h0 : -hf x ≤ n) (h1 : n < hf x) : sgnI x (cutI x (IntKind.u64.wrap (IntKind.i64.wrap n))) = n := by
  unfold hf at h0 h1
  rw [IntKind.wrap_u64, IntKind.wrap_i64]
  rcases vw_cases hx with rfl | rfl | rfl | rfl | rfl <;> simp [sgnI, cutI] at * <;> split <;> omega
theorem least_iff {x a b : Int} (ha : isW x a = true) (h : least x a b = false) : ¬ (sgnI x b = -1 ∧ sgnI x a = - hf x) := by
  rintro ⟨e1, e2⟩
  have bd := isW_bd ha
  have : (a == 2 ^ (x.toNat - 1)) = true := by
    unfold hf at e2
    rcases vw_cases (isW_vw ha) with rfl | rfl | rfl | rfl | rfl <;> simp [sgnI] at * <;> (split at e2) <;> omega
  simp [least, e1, this] at h
theorem half_pos {x : Int} (hx : vw x = true) : 1 ≤ hf x ∧ hf x ≤ 9223372036854775808 := by
  unfold hf
  rcases vw_cases hx with rfl | rfl | rfl | rfl | rfl <;> decide
/-- The quotient of two numbers of a width is one of the width, but for the least by minus one. -/
theorem quot_fits {H X Y : Int} (hH : 1 ≤ H) (hX : -H ≤ X ∧ X < H) (hY : ¬ Y = 0) (hl : ¬ (Y = -1 ∧ X = -H)) : -H ≤ X.tdiv Y ∧ X.tdiv Y < H := by
  have hn : (X.tdiv Y).natAbs = X.natAbs / Y.natAbs := Int.natAbs_tdiv X Y
  by_cases h1 : Y = 1
  · subst h1; rw [Int.tdiv_one]; exact hX
  · by_cases h2 : Y = -1
    · subst h2
      rw [Int.tdiv_neg, Int.tdiv_one]
      omega
    · have hy : 2 ≤ Y.natAbs := by omega
      have hd : X.natAbs / Y.natAbs ≤ X.natAbs / 2 := Nat.div_le_div_left hy (by decide)
      omega
theorem rem_fits {H X Y : Int} (hY : ¬ Y = 0) (hy : -H ≤ Y ∧ Y < H) : -H ≤ X.tmod Y ∧ X.tmod Y < H ∧ (X.tmod Y).natAbs < Y.natAbs := by
  have hn : (X.tmod Y).natAbs = X.natAbs % Y.natAbs := Int.natAbs_tmod X Y
  have := Nat.mod_lt X.natAbs (show 0 < Y.natAbs by omega)
  omega
theorem rem_sign {X Y : Int} (h : ¬ X.tmod Y = 0) : decide (X.tmod Y < 0) = decide (X < 0) := by
  by_cases hX : X < 0
  · have : X.tmod Y ≤ 0 := by
      have e : X = - (-X) := by omega
      rw [e, Int.neg_tmod]
      have := Int.tmod_nonneg Y (show 0 ≤ -X by omega)
      omega
    rw [decide_eq_true hX, decide_eq_true (by omega)]
  · have := Int.tmod_nonneg Y (show 0 ≤ X by omega)
    rw [decide_eq_false hX, decide_eq_false (by omega)]
/-- All that the law of quotients asks of two numbers with signs. -/
theorem div_facts {x a b : Int} (ha : isW x a = true) (hb : isW x b = true) (hb0 : ¬ b = 0) (hl : least x a b = false) :
    isW x (qW x a b) = true ∧ isW x (rW x a b) = true ∧ sgnI x (qW x a b) * sgnI x b + sgnI x (rW x a b) = sgnI x a ∧ (rW x a b != 0) = (sgnI x (rW x a b) != 0) ∧
    (¬ sgnI x (rW x a b) = 0 → decide (sgnI x (rW x a b) < 0) = decide (sgnI x a < 0)) ∧ (sgnI x (rW x a b)).natAbs < (sgnI x b).natAbs := by
  have hx := isW_vw ha
  have m0 := sgn_ne hb hb0
  have X := sgn_half ha
  have Y := sgn_half hb
  have Q := quot_fits (half_pos hx).1 X m0 (least_iff ha hl)
  have R := rem_fits (X := sgnI x a) m0 Y
  have eq : sgnI x (qW x a b) = (sgnI x a).tdiv (sgnI x b) := sgn_cut2 hx Q.1 Q.2
  have er : sgnI x (rW x a b) = (sgnI x a).tmod (sgnI x b) := sgn_cut hx R.1 R.2.1
  have wr : isW x (rW x a b) = true := isW_cut hx
  refine ⟨isW_cut hx, wr, ?_, ?_, ?_, ?_⟩
  · rw [eq, er]; exact Int.tdiv_mul_add_tmod _ _
  · by_cases z : rW x a b = 0
    · rw [z, sgn_z hx]
    · have := sgn_ne wr z
      rw [bne_iff_ne.2 z, bne_iff_ne.2 this]
  · intro h; rw [er] at h ⊢; exact rem_sign h
  · rw [er]; exact R.2.2
/-- .. and of words without signs. -/
theorem divU_facts {x a b : Int} (ha : isW x a = true) (hb : isW x b = true) (b0 : 0 < b) :
    isW x (a / b) = true ∧ isW x (a % b) = true ∧ a % b < b ∧ a / b ≤ a ∧ isW x (RW 3 x (a / b) b) = true ∧ RW 1 x (RW 3 x (a / b) b) (a % b) = a := by
  have hx := isW_vw ha
  obtain ⟨a0, a1⟩ := isW_bd ha
  obtain ⟨c0, c1⟩ := isW_bd hb
  have q0 := Int.ediv_nonneg a0 (Int.le_of_lt b0)
  have q1 := Int.ediv_le_self b a0
  have r0 := Int.emod_nonneg a (show ¬ b = 0 by omega)
  have r1 := Int.emod_lt_of_pos a b0
  have e : a / b * b + a % b = a := by have := Int.emod_add_mul_ediv a b; rw [Int.mul_comm b] at this; omega
  have p0 : 0 ≤ a / b * b := Int.mul_nonneg q0 (Int.le_of_lt b0)
  have e3 : RW 3 x (a / b) b = a / b * b := by
    rw [RW_eq hx]
    have : arT 3 (a / b) b = a / b * b := by simp [arT]
    rw [this, Int.emod_eq_of_lt p0 (by omega)]
  have W : ∀ n, 0 ≤ n → n < 2 ^ x.toNat → isW x n = true := fun n h0 h1 => by simp only [isW, hx, Bool.true_and]; exact decide_eq_true ⟨h0, h1⟩
  refine ⟨W _ q0 (by omega), W _ r0 (by omega), r1, q1, by rw [e3]; exact W _ p0 (by omega), ?_⟩
  rw [e3, RW_eq hx]
  have : arT 1 (a / b * b) (a % b) = a / b * b + a % b := by simp [arT]
  rw [this, e, Int.emod_eq_of_lt a0 a1]
end Go.Proofs.YtmkhkgliipalaaaDoor
