/- Contracts over one translation: combine of the program: the lowest bits of the true outcome, or poison just where a flag asks for what the true outcome is not. -/
import Derived.Test.YtmkhkgliipalaaaDoorAr2
import Derived.DeepKeys
namespace Go.Proofs.YtmkhkgliipalaaaDoor
open Go.ChangeShapes Go.WideShapes Go.ChangeAt Go.RowKit
set_option linter.unusedVariables false
set_option linter.unusedSimpArgs false
theorem wf_u64 {n : Int} (h : 0 ≤ n ∧ n ≤ 18446744073709551615) : (Lit.int .u64 n).wf = true := by
  simp [Lit.wf, IntKind.min, IntKind.max, IntKind.signed, IntKind.bits]; omega
theorem cellsWide : Tryd.prog.cellsOf 59 = 2 := by kernel_rfl
theorem cellsU : Tryd.prog.cellsOf 25 = 1 := by kernel_rfl
theorem keyLits_wide (p q : Int) (hp : (Lit.int .u64 p).wf = true) (hq : (Lit.int .u64 q).wf = true) : Tryd.prog.keyLits 2 59 [.int .u64 p, .int .u64 q] = some [.int .u64 p, .int .u64 q] := by
  simp [Program.keyLits, Tryd.underlying59, Tryd.underlying25, cellsWide, cellsU, List.range, List.range.loop, hp, hq]
theorem eq_wide (p q r s : Int) (w : World) (hp : (Lit.int .u64 p).wf = true) (hq : (Lit.int .u64 q).wf = true) (hr : (Lit.int .u64 r).wf = true) (hs : (Lit.int .u64 s).wf = true) : (Op.equalIn 10000 59 (.agg #[.int .u64 p, .int .u64 q]) (.agg #[.int .u64 r, .int .u64 s])).run Tryd.prog w = .ok (p == r && q == s) w := by
  obtain ⟨b, hb, hi⟩ := run_equalIn_deep (P := Tryd.prog) 9998 2 59 (by kernel_rfl) w 2 2 (.agg #[.int .u64 p, .int .u64 q]) (.agg #[.int .u64 r, .int .u64 s]) [.int .u64 p, .int .u64 q] [.int .u64 r, .int .u64 s] (by kernel_rfl) (by kernel_rfl) (keyLits_wide p q hp hq) (keyLits_wide r s hr hs)
  have e : b = (p == r && q == s) := by
    rw [Bool.eq_iff_iff, hi]; simp
  rw [← e]; exact hb

def fitU (x T : Int) : Bool := decide (0 ≤ T ∧ T < 2 ^ x.toNat)
def fitS (x T : Int) : Bool := decide (-2 ^ (x.toNat - 1) ≤ T ∧ T < 2 ^ (x.toNat - 1))

theorem cutI_wLo {x : Int} (hx : vw x = true) (T : Int) : cutI x (wLo T) = cutI x T := by
  unfold cutI wLo
  rcases vw_cases hx with rfl | rfl | rfl | rfl | rfl <;> simp <;> omega
theorem sgn_cong {x a : Int} (h : vw x = true) : sgnI x a % 2 ^ x.toNat = a % 2 ^ x.toNat := by
  unfold sgnI
  split
  · rfl
  · rw [Int.sub_emod, Int.emod_self, Int.sub_zero, Int.emod_emod]
theorem arT_cong {op a b a' b' M : Int} (ha : a' % M = a % M) (hb : b' % M = b % M) : arT op a' b' % M = arT op a b % M := by
  unfold arT
  split
  · rw [Int.add_emod, ha, hb, ← Int.add_emod]
  · split
    · rw [Int.sub_emod, ha, hb, ← Int.sub_emod]
    · rw [Int.mul_emod, ha, hb, ← Int.mul_emod]
theorem cword_eq {op x a b : Int} (h : vw x = true) : cutI x (wLo (arT op a b)) = arT op (sgnI x a) (sgnI x b) % 2 ^ x.toNat := by
  rw [cutI_wLo h]
  unfold cutI
  exact (arT_cong (sgn_cong h) (sgn_cong h)).symm
theorem sgn_bd {x a : Int} (h : isW x a = true) : -9223372036854775808 ≤ sgnI x a ∧ sgnI x a ≤ 9223372036854775807 := by
  obtain ⟨h0, h1⟩ := isW_bd h
  unfold sgnI
  rcases vw_cases (isW_vw h) with rfl | rfl | rfl | rfl | rfl <;> (simp at h1 ⊢; split <;> omega)
theorem mul_bd {p q : Int} (h1 : -9223372036854775808 ≤ p ∧ p ≤ 9223372036854775807) (h2 : -9223372036854775808 ≤ q ∧ q ≤ 9223372036854775807) : -85070591730234615865843651857942052864 ≤ p * q ∧ p * q ≤ 85070591730234615865843651857942052864 := by
  have hp : p.natAbs ≤ 9223372036854775808 := by omega
  have hq : q.natAbs ≤ 9223372036854775808 := by omega
  have h := Nat.mul_le_mul hp hq
  rw [← Int.natAbs_mul] at h
  omega
theorem mulU_bd {p q : Int} (h1 : 0 ≤ p ∧ p ≤ 18446744073709551615) (h2 : 0 ≤ q ∧ q ≤ 18446744073709551615) : 0 ≤ p * q ∧ p * q < 340282366920938463463374607431768211456 := by
  obtain ⟨P, rfl⟩ := Int.eq_ofNat_of_zero_le h1.1
  obtain ⟨Q, rfl⟩ := Int.eq_ofNat_of_zero_le h2.1
  have h := Nat.mul_le_mul (show P ≤ 18446744073709551615 by omega) (show Q ≤ 18446744073709551615 by omega)
  have e : (P : Int) * Q = ((P * Q : Nat) : Int) := by simp
  rw [e]; omega
theorem u64_bd {a x : Int} (h : isW x a = true) : 0 ≤ a ∧ a ≤ 18446744073709551615 := by
  obtain ⟨a0, a1⟩ := isW_bd h
  rcases vw_cases (isW_vw h) with rfl | rfl | rfl | rfl | rfl <;> simp at a1 <;> omega
theorem tU_bd {op x a b : Int} (ha : isW x a = true) (hb : isW x b = true) : -18446744073709551616 ≤ arT op a b ∧ arT op a b < 340282366920938463463374607431768211456 := by
  have h1 := u64_bd ha
  have h2 := u64_bd hb
  have h3 := mulU_bd h1 h2
  unfold arT
  split
  · omega
  · split <;> omega
theorem tS_bd {op x a b : Int} (ha : isW x a = true) (hb : isW x b = true) : -170141183460469231731687303715884105728 ≤ arT op (sgnI x a) (sgnI x b) ∧ arT op (sgnI x a) (sgnI x b) < 170141183460469231731687303715884105728 := by
  have h1 := sgn_bd ha
  have h2 := sgn_bd hb
  have h3 := mul_bd h1 h2
  unfold arT
  split
  · omega
  · split <;> omega
theorem fitU_of {x T : Int} (hx : vw x = true) (hT : -18446744073709551616 ≤ T ∧ T < 340282366920938463463374607431768211456) : (wLo T == cutI x (wLo T) && wHi T == 0) = fitU x T := by
  rw [Bool.eq_iff_iff]
  simp only [Bool.and_eq_true, beq_iff_eq, fitU, decide_eq_true_eq]
  unfold cutI wLo wHi
  rcases vw_cases hx with rfl | rfl | rfl | rfl | rfl <;> simp <;> omega
theorem fitS_of {x T : Int} (hx : vw x = true) (hT : -170141183460469231731687303715884105728 ≤ T ∧ T < 170141183460469231731687303715884105728) :
    (wLo T == wLo (sgnI x (T % 2 ^ x.toNat)) && wHi T == wHi (sgnI x (T % 2 ^ x.toNat))) = fitS x T := by
  have hs : -9223372036854775808 ≤ sgnI x (T % 2 ^ x.toNat) ∧ sgnI x (T % 2 ^ x.toNat) ≤ 9223372036854775807 := by
    unfold sgnI
    rcases vw_cases hx with rfl | rfl | rfl | rfl | rfl <;> (simp; split <;> omega)
  have e : (wLo T == wLo (sgnI x (T % 2 ^ x.toNat)) && wHi T == wHi (sgnI x (T % 2 ^ x.toNat))) = decide (T = sgnI x (T % 2 ^ x.toNat)) := by
    rw [Bool.eq_iff_iff]
    simp only [Bool.and_eq_true, beq_iff_eq, decide_eq_true_eq]
    exact ⟨fun h => wide_inj hT (by omega) h, fun h => by rw [← h]; exact ⟨rfl, rfl⟩⟩
  rw [e, Bool.eq_iff_iff]
  simp only [fitS, decide_eq_true_eq]
  unfold sgnI
  rcases vw_cases hx with rfl | rfl | rfl | rfl | rfl <;> (simp; split <;> omega)
theorem isW_cut {x v : Int} (hx : vw x = true) : isW x (cutI x v) = true := by
  have hp : (0 : Int) < 2 ^ x.toNat := Int.pow_pos (by decide)
  simp only [isW, hx, Bool.true_and, cutI]
  exact decide_eq_true ⟨Int.emod_nonneg _ (by omega), Int.emod_lt_of_pos _ hp⟩
theorem signedI (x v : Int) (w : World) (hw : Wid w) (h : isW x v = true) :
    Calls Tryd.prog 14 #[.int .i64 x, .int .u64 v] w fun e w' => e = .returned (.int .i64 (sgnI x v)) ∧ w' = w :=
  signed_impl x v w hw (u64_bd h).1 (u64_bd h).2 h
set_option maxRecDepth 100000 in
set_option maxHeartbeats 2000000 in
theorem comb_1 (fl op x a b : Int) (w : World) (hw : Wid w) (ho : op = 1 ∨ op = 2 ∨ op = 3) (ha : isW x a = true) (hb : isW x b = true) (ku : (bits BinOp.and IntKind.i64 fl 2 != 0) = true) (hu : fitU x (arT op a b) = false) :
    Calls Tryd.prog 28 #[.int .i64 op, .int .i64 fl, .int .i64 x, .int .u64 a, .int .u64 b] w fun e w' => e = .returned (.agg #[.int .i64 1, .int .u64 0]) ∧ Below w.heap.size w w' := by
  have HX : Hid (vw x = true) := isW_vw ha
  have HO : Hid (op = 1 ∨ op = 2 ∨ op = 3) := ho
  have HA : Hid (isW x a = true) := ha
  have HB : Hid (isW x b = true) := hb
  have E1 : Hid (a = wLo a) := show a = wLo a by have := u64_bd ha; unfold wLo; omega
  have E2 : Hid (0 = wHi a) := show 0 = wHi a by have := u64_bd ha; unfold wHi; omega
  have E3 : Hid (b = wLo b) := show b = wLo b by have := u64_bd hb; unfold wLo; omega
  have E4 : Hid (0 = wHi b) := show 0 = wHi b by have := u64_bd hb; unfold wHi; omega
  have BA : Hid (-9223372036854775808 ≤ sgnI x a ∧ sgnI x a ≤ 9223372036854775807) := sgn_bd ha
  have BB : Hid (-9223372036854775808 ≤ sgnI x b ∧ sgnI x b ≤ 9223372036854775807) := sgn_bd hb
  have WC : Hid (isW x (cutI x (wLo (arT op a b))) = true) := isW_cut (isW_vw ha)
  have BC : Hid (-9223372036854775808 ≤ sgnI x (cutI x (wLo (arT op a b))) ∧ sgnI x (cutI x (wLo (arT op a b))) ≤ 9223372036854775807) := sgn_bd (isW_cut (isW_vw ha))
  have QU : ∀ W, (Op.equalIn 10000 59 (.agg #[.int .u64 (wLo (arT op a b)), .int .u64 (wHi (arT op a b))]) (.agg #[.int .u64 (cutI x (wLo (arT op a b))), .int .u64 0])).run Tryd.prog W = .ok false W := by
    intro W
    rw [eq_wide _ _ _ _ W (wf_u64 (wLo_bd _)) (wf_u64 (wHi_bd _)) (wf_u64 (u64_bd (isW_cut (isW_vw ha)))) (wf_u64 (by omega)), fitU_of (isW_vw ha) (tU_bd (op := op) ha hb)]
    exact congrArg (fun z => Result.ok z W) hu
  clear ha hb ho hu
  go_enter Tryd.func28, Tryd.ntmps28
  go_wp2_with fail
  refine (trueOutcome_any _ a b _ _ _ _ _ HO.out E1.out E2.out E3.out E4.out).mono ?_
  rintro e w1 ⟨rfl, hb1⟩
  have zw1 : w.heap.size < w1.heap.size := by have := hb1.size; simp at this; omega
  have c0w1 : w1.cell? ⟨w.heap.size, 0, none⟩ = some (.int .i64 0) := by rw [hb1.cell (p := ⟨w.heap.size, 0, none⟩) (by simp)]; simp [go_sem]
  have c1w1 : w1.cell? ⟨w.heap.size, 1, none⟩ = some (.int .u64 0) := by rw [hb1.cell (p := ⟨w.heap.size, 1, none⟩) (by simp)]; simp [go_sem]
  have d0w1 : w1.frozen? ⟨w.heap.size, 0, none⟩ = false := by rw [hb1.frozen (p := ⟨w.heap.size, 0, none⟩) (by simp)]; simp [go_sem]
  have d1w1 : w1.frozen? ⟨w.heap.size, 1, none⟩ = false := by rw [hb1.frozen (p := ⟨w.heap.size, 1, none⟩) (by simp)]; simp [go_sem]
  have hw1 : Wid w1 := hw.below (bel_trans (bel_alloc _ _) hb1)
  go_wp2_with fail
  refine (cut_impl _ _ _ (hw1.below (bel_alloc _ _)) HX.out (wLo_bd _).1 (wLo_bd _).2).mono ?_
  rintro e w2 ⟨rfl, rfl⟩
  go_wp2_with fail
  refine bodyPost_ret (v := .agg #[.int .i64 1, .int .u64 0]) (by simp [results, Tryd.results28, go_sem, c0w1, c1w1, zw1]) rfl ⟨rfl, ?_⟩
  first
  | exact ((bel_trans (bel_alloc _ _) (bel_trans hb1 (bel_alloc _ _))).setCell (by simp) _).setCell (by simp) _
  | exact (((bel_trans (bel_alloc _ _) hb1).setCell (by simp) _).setCell (by simp) _).alloc (by simp; omega) _
set_option maxRecDepth 100000 in
set_option maxHeartbeats 2000000 in
theorem comb_2 (fl op x a b : Int) (w : World) (hw : Wid w) (ho : op = 1 ∨ op = 2 ∨ op = 3) (ha : isW x a = true) (hb : isW x b = true) (ku : (bits BinOp.and IntKind.i64 fl 2 != 0) = true) (ks : (bits BinOp.and IntKind.i64 fl 1 != 0) = false) (hu : fitU x (arT op a b) = true) :
    Calls Tryd.prog 28 #[.int .i64 op, .int .i64 fl, .int .i64 x, .int .u64 a, .int .u64 b] w fun e w' => e = .returned (.agg #[.int .i64 0, .int .u64 (cutI x (wLo (arT op a b)))]) ∧ Below w.heap.size w w' := by
  have HX : Hid (vw x = true) := isW_vw ha
  have HO : Hid (op = 1 ∨ op = 2 ∨ op = 3) := ho
  have HA : Hid (isW x a = true) := ha
  have HB : Hid (isW x b = true) := hb
  have E1 : Hid (a = wLo a) := show a = wLo a by have := u64_bd ha; unfold wLo; omega
  have E2 : Hid (0 = wHi a) := show 0 = wHi a by have := u64_bd ha; unfold wHi; omega
  have E3 : Hid (b = wLo b) := show b = wLo b by have := u64_bd hb; unfold wLo; omega
  have E4 : Hid (0 = wHi b) := show 0 = wHi b by have := u64_bd hb; unfold wHi; omega
  have BA : Hid (-9223372036854775808 ≤ sgnI x a ∧ sgnI x a ≤ 9223372036854775807) := sgn_bd ha
  have BB : Hid (-9223372036854775808 ≤ sgnI x b ∧ sgnI x b ≤ 9223372036854775807) := sgn_bd hb
  have WC : Hid (isW x (cutI x (wLo (arT op a b))) = true) := isW_cut (isW_vw ha)
  have BC : Hid (-9223372036854775808 ≤ sgnI x (cutI x (wLo (arT op a b))) ∧ sgnI x (cutI x (wLo (arT op a b))) ≤ 9223372036854775807) := sgn_bd (isW_cut (isW_vw ha))
  have QU : ∀ W, (Op.equalIn 10000 59 (.agg #[.int .u64 (wLo (arT op a b)), .int .u64 (wHi (arT op a b))]) (.agg #[.int .u64 (cutI x (wLo (arT op a b))), .int .u64 0])).run Tryd.prog W = .ok true W := by
    intro W
    rw [eq_wide _ _ _ _ W (wf_u64 (wLo_bd _)) (wf_u64 (wHi_bd _)) (wf_u64 (u64_bd (isW_cut (isW_vw ha)))) (wf_u64 (by omega)), fitU_of (isW_vw ha) (tU_bd (op := op) ha hb)]
    exact congrArg (fun z => Result.ok z W) hu
  clear ha hb ho hu
  go_enter Tryd.func28, Tryd.ntmps28
  go_wp2_with fail
  refine (trueOutcome_any _ a b _ _ _ _ _ HO.out E1.out E2.out E3.out E4.out).mono ?_
  rintro e w1 ⟨rfl, hb1⟩
  have zw1 : w.heap.size < w1.heap.size := by have := hb1.size; simp at this; omega
  have c0w1 : w1.cell? ⟨w.heap.size, 0, none⟩ = some (.int .i64 0) := by rw [hb1.cell (p := ⟨w.heap.size, 0, none⟩) (by simp)]; simp [go_sem]
  have c1w1 : w1.cell? ⟨w.heap.size, 1, none⟩ = some (.int .u64 0) := by rw [hb1.cell (p := ⟨w.heap.size, 1, none⟩) (by simp)]; simp [go_sem]
  have d0w1 : w1.frozen? ⟨w.heap.size, 0, none⟩ = false := by rw [hb1.frozen (p := ⟨w.heap.size, 0, none⟩) (by simp)]; simp [go_sem]
  have d1w1 : w1.frozen? ⟨w.heap.size, 1, none⟩ = false := by rw [hb1.frozen (p := ⟨w.heap.size, 1, none⟩) (by simp)]; simp [go_sem]
  have hw1 : Wid w1 := hw.below (bel_trans (bel_alloc _ _) hb1)
  go_wp2_with fail
  refine (cut_impl _ _ _ (hw1.below (bel_alloc _ _)) HX.out (wLo_bd _).1 (wLo_bd _).2).mono ?_
  rintro e w2 ⟨rfl, rfl⟩
  go_wp2_with fail
  refine bodyPost_ret (v := .agg #[.int .i64 0, .int .u64 (cutI x (wLo (arT op a b)))]) (by simp [results, Tryd.results28, go_sem, c0w1, c1w1, zw1]) rfl ⟨rfl, ?_⟩
  first
  | exact ((bel_trans (bel_alloc _ _) (bel_trans hb1 (bel_alloc _ _))).setCell (by simp) _).setCell (by simp) _
  | exact (((bel_trans (bel_alloc _ _) hb1).setCell (by simp) _).setCell (by simp) _).alloc (by simp; omega) _
set_option maxRecDepth 100000 in
set_option maxHeartbeats 2000000 in
theorem comb_3 (fl op x a b : Int) (w : World) (hw : Wid w) (ho : op = 1 ∨ op = 2 ∨ op = 3) (ha : isW x a = true) (hb : isW x b = true) (ku : (bits BinOp.and IntKind.i64 fl 2 != 0) = true) (ks : (bits BinOp.and IntKind.i64 fl 1 != 0) = true) (hu : fitU x (arT op a b) = true) (hs : fitS x (arT op (sgnI x a) (sgnI x b)) = true) :
    Calls Tryd.prog 28 #[.int .i64 op, .int .i64 fl, .int .i64 x, .int .u64 a, .int .u64 b] w fun e w' => e = .returned (.agg #[.int .i64 0, .int .u64 (cutI x (wLo (arT op a b)))]) ∧ Below w.heap.size w w' := by
  have HX : Hid (vw x = true) := isW_vw ha
  have HO : Hid (op = 1 ∨ op = 2 ∨ op = 3) := ho
  have HA : Hid (isW x a = true) := ha
  have HB : Hid (isW x b = true) := hb
  have E1 : Hid (a = wLo a) := show a = wLo a by have := u64_bd ha; unfold wLo; omega
  have E2 : Hid (0 = wHi a) := show 0 = wHi a by have := u64_bd ha; unfold wHi; omega
  have E3 : Hid (b = wLo b) := show b = wLo b by have := u64_bd hb; unfold wLo; omega
  have E4 : Hid (0 = wHi b) := show 0 = wHi b by have := u64_bd hb; unfold wHi; omega
  have BA : Hid (-9223372036854775808 ≤ sgnI x a ∧ sgnI x a ≤ 9223372036854775807) := sgn_bd ha
  have BB : Hid (-9223372036854775808 ≤ sgnI x b ∧ sgnI x b ≤ 9223372036854775807) := sgn_bd hb
  have WC : Hid (isW x (cutI x (wLo (arT op a b))) = true) := isW_cut (isW_vw ha)
  have BC : Hid (-9223372036854775808 ≤ sgnI x (cutI x (wLo (arT op a b))) ∧ sgnI x (cutI x (wLo (arT op a b))) ≤ 9223372036854775807) := sgn_bd (isW_cut (isW_vw ha))
  have QU : ∀ W, (Op.equalIn 10000 59 (.agg #[.int .u64 (wLo (arT op a b)), .int .u64 (wHi (arT op a b))]) (.agg #[.int .u64 (cutI x (wLo (arT op a b))), .int .u64 0])).run Tryd.prog W = .ok true W := by
    intro W
    rw [eq_wide _ _ _ _ W (wf_u64 (wLo_bd _)) (wf_u64 (wHi_bd _)) (wf_u64 (u64_bd (isW_cut (isW_vw ha)))) (wf_u64 (by omega)), fitU_of (isW_vw ha) (tU_bd (op := op) ha hb)]
    exact congrArg (fun z => Result.ok z W) hu
  have QS : ∀ W, (Op.equalIn 10000 59 (.agg #[.int .u64 (wLo (arT op (sgnI x a) (sgnI x b))), .int .u64 (wHi (arT op (sgnI x a) (sgnI x b)))]) (.agg #[.int .u64 (wLo (sgnI x (cutI x (wLo (arT op a b))))), .int .u64 (wHi (sgnI x (cutI x (wLo (arT op a b)))))])).run Tryd.prog W = .ok true W := by
    intro W
    have ec : cutI x (wLo (arT op a b)) = arT op (sgnI x a) (sgnI x b) % 2 ^ x.toNat := cword_eq (isW_vw ha)
    rw [ec, eq_wide _ _ _ _ W (wf_u64 (wLo_bd _)) (wf_u64 (wHi_bd _)) (wf_u64 (wLo_bd _)) (wf_u64 (wHi_bd _)), fitS_of (isW_vw ha) (tS_bd (op := op) ha hb)]
    exact congrArg (fun z => Result.ok z W) hs
  clear ha hb ho hu hs
  go_enter Tryd.func28, Tryd.ntmps28
  go_wp2_with fail
  refine (trueOutcome_any _ a b _ _ _ _ _ HO.out E1.out E2.out E3.out E4.out).mono ?_
  rintro e w1 ⟨rfl, hb1⟩
  have zw1 : w.heap.size < w1.heap.size := by have := hb1.size; simp at this; omega
  have c0w1 : w1.cell? ⟨w.heap.size, 0, none⟩ = some (.int .i64 0) := by rw [hb1.cell (p := ⟨w.heap.size, 0, none⟩) (by simp)]; simp [go_sem]
  have c1w1 : w1.cell? ⟨w.heap.size, 1, none⟩ = some (.int .u64 0) := by rw [hb1.cell (p := ⟨w.heap.size, 1, none⟩) (by simp)]; simp [go_sem]
  have d0w1 : w1.frozen? ⟨w.heap.size, 0, none⟩ = false := by rw [hb1.frozen (p := ⟨w.heap.size, 0, none⟩) (by simp)]; simp [go_sem]
  have d1w1 : w1.frozen? ⟨w.heap.size, 1, none⟩ = false := by rw [hb1.frozen (p := ⟨w.heap.size, 1, none⟩) (by simp)]; simp [go_sem]
  have hw1 : Wid w1 := hw.below (bel_trans (bel_alloc _ _) hb1)
  go_wp2_with fail
  refine (cut_impl _ _ _ (hw1.below (bel_alloc _ _)) HX.out (wLo_bd _).1 (wLo_bd _).2).mono ?_
  rintro e w2 ⟨rfl, rfl⟩
  go_wp2_with fail
  refine (signedI _ _ _ (hw1.below (bel_alloc _ _)) HA.out).mono ?_
  rintro e w3 ⟨rfl, rfl⟩
  go_wp2_with fail
  refine (widen_any _ _ BA.out.1 BA.out.2).mono ?_
  rintro e w4 ⟨rfl, hb4⟩
  have hb4' := bel_trans (bel_trans hb1 (bel_alloc _ _)) hb4
  have hw4 : Wid w4 := hw.below (bel_trans (bel_alloc _ _) hb4')
  go_wp2_with fail
  refine (signedI _ _ _ hw4 HB.out).mono ?_
  rintro e w5 ⟨rfl, rfl⟩
  go_wp2_with fail
  refine (widen_any _ _ BB.out.1 BB.out.2).mono ?_
  rintro e w6 ⟨rfl, hb6⟩
  go_wp2_with fail
  refine (trueOutcome_any _ (sgnI x a) (sgnI x b) _ _ _ _ _ HO.out rfl rfl rfl rfl).mono ?_
  rintro e w7 ⟨rfl, hb7⟩
  have hb7' := bel_trans (bel_trans hb4' hb6) hb7
  have hw7 : Wid w7 := hw.below (bel_trans (bel_alloc _ _) hb7')
  go_wp2_with fail
  refine (signedI _ _ _ hw7 WC.out).mono ?_
  rintro e w8 ⟨rfl, rfl⟩
  go_wp2_with fail
  refine (widen_any _ _ BC.out.1 BC.out.2).mono ?_
  rintro e w9 ⟨rfl, hb9⟩
  have hb9' := bel_trans hb7' hb9
  have zw9 : w.heap.size < w9.heap.size := by have := hb9'.size; simp at this; omega
  have c0w9 : w9.cell? ⟨w.heap.size, 0, none⟩ = some (.int .i64 0) := by rw [hb9'.cell (p := ⟨w.heap.size, 0, none⟩) (by simp)]; simp [go_sem]
  have c1w9 : w9.cell? ⟨w.heap.size, 1, none⟩ = some (.int .u64 0) := by rw [hb9'.cell (p := ⟨w.heap.size, 1, none⟩) (by simp)]; simp [go_sem]
  have d0w9 : w9.frozen? ⟨w.heap.size, 0, none⟩ = false := by rw [hb9'.frozen (p := ⟨w.heap.size, 0, none⟩) (by simp)]; simp [go_sem]
  have d1w9 : w9.frozen? ⟨w.heap.size, 1, none⟩ = false := by rw [hb9'.frozen (p := ⟨w.heap.size, 1, none⟩) (by simp)]; simp [go_sem]
  clear c0w1 c1w1 d0w1 d1w1
  go_wp2_with fail
  refine bodyPost_ret (v := .agg #[.int .i64 0, .int .u64 (cutI x (wLo (arT op a b)))]) (by simp [results, Tryd.results28, go_sem, c0w9, c1w9, zw9]) rfl ⟨rfl, ?_⟩
  first
  | exact ((bel_trans (bel_alloc _ _) hb9').setCell (by simp) _).setCell (by simp) _
  | exact (((bel_trans (bel_alloc _ _) hb1).setCell (by simp) _).setCell (by simp) _).alloc (by simp; omega) _
set_option maxRecDepth 100000 in
set_option maxHeartbeats 2000000 in
theorem comb_4 (fl op x a b : Int) (w : World) (hw : Wid w) (ho : op = 1 ∨ op = 2 ∨ op = 3) (ha : isW x a = true) (hb : isW x b = true) (ku : (bits BinOp.and IntKind.i64 fl 2 != 0) = true) (ks : (bits BinOp.and IntKind.i64 fl 1 != 0) = true) (hu : fitU x (arT op a b) = true) (hs : fitS x (arT op (sgnI x a) (sgnI x b)) = false) :
    Calls Tryd.prog 28 #[.int .i64 op, .int .i64 fl, .int .i64 x, .int .u64 a, .int .u64 b] w fun e w' => e = .returned (.agg #[.int .i64 1, .int .u64 0]) ∧ Below w.heap.size w w' := by
  have HX : Hid (vw x = true) := isW_vw ha
  have HO : Hid (op = 1 ∨ op = 2 ∨ op = 3) := ho
  have HA : Hid (isW x a = true) := ha
  have HB : Hid (isW x b = true) := hb
  have E1 : Hid (a = wLo a) := show a = wLo a by have := u64_bd ha; unfold wLo; omega
  have E2 : Hid (0 = wHi a) := show 0 = wHi a by have := u64_bd ha; unfold wHi; omega
  have E3 : Hid (b = wLo b) := show b = wLo b by have := u64_bd hb; unfold wLo; omega
  have E4 : Hid (0 = wHi b) := show 0 = wHi b by have := u64_bd hb; unfold wHi; omega
  have BA : Hid (-9223372036854775808 ≤ sgnI x a ∧ sgnI x a ≤ 9223372036854775807) := sgn_bd ha
  have BB : Hid (-9223372036854775808 ≤ sgnI x b ∧ sgnI x b ≤ 9223372036854775807) := sgn_bd hb
  have WC : Hid (isW x (cutI x (wLo (arT op a b))) = true) := isW_cut (isW_vw ha)
  have BC : Hid (-9223372036854775808 ≤ sgnI x (cutI x (wLo (arT op a b))) ∧ sgnI x (cutI x (wLo (arT op a b))) ≤ 9223372036854775807) := sgn_bd (isW_cut (isW_vw ha))
  have QU : ∀ W, (Op.equalIn 10000 59 (.agg #[.int .u64 (wLo (arT op a b)), .int .u64 (wHi (arT op a b))]) (.agg #[.int .u64 (cutI x (wLo (arT op a b))), .int .u64 0])).run Tryd.prog W = .ok true W := by
    intro W
    rw [eq_wide _ _ _ _ W (wf_u64 (wLo_bd _)) (wf_u64 (wHi_bd _)) (wf_u64 (u64_bd (isW_cut (isW_vw ha)))) (wf_u64 (by omega)), fitU_of (isW_vw ha) (tU_bd (op := op) ha hb)]
    exact congrArg (fun z => Result.ok z W) hu
  have QS : ∀ W, (Op.equalIn 10000 59 (.agg #[.int .u64 (wLo (arT op (sgnI x a) (sgnI x b))), .int .u64 (wHi (arT op (sgnI x a) (sgnI x b)))]) (.agg #[.int .u64 (wLo (sgnI x (cutI x (wLo (arT op a b))))), .int .u64 (wHi (sgnI x (cutI x (wLo (arT op a b)))))])).run Tryd.prog W = .ok false W := by
    intro W
    have ec : cutI x (wLo (arT op a b)) = arT op (sgnI x a) (sgnI x b) % 2 ^ x.toNat := cword_eq (isW_vw ha)
    rw [ec, eq_wide _ _ _ _ W (wf_u64 (wLo_bd _)) (wf_u64 (wHi_bd _)) (wf_u64 (wLo_bd _)) (wf_u64 (wHi_bd _)), fitS_of (isW_vw ha) (tS_bd (op := op) ha hb)]
    exact congrArg (fun z => Result.ok z W) hs
  clear ha hb ho hu hs
  go_enter Tryd.func28, Tryd.ntmps28
  go_wp2_with fail
  refine (trueOutcome_any _ a b _ _ _ _ _ HO.out E1.out E2.out E3.out E4.out).mono ?_
  rintro e w1 ⟨rfl, hb1⟩
  have zw1 : w.heap.size < w1.heap.size := by have := hb1.size; simp at this; omega
  have c0w1 : w1.cell? ⟨w.heap.size, 0, none⟩ = some (.int .i64 0) := by rw [hb1.cell (p := ⟨w.heap.size, 0, none⟩) (by simp)]; simp [go_sem]
  have c1w1 : w1.cell? ⟨w.heap.size, 1, none⟩ = some (.int .u64 0) := by rw [hb1.cell (p := ⟨w.heap.size, 1, none⟩) (by simp)]; simp [go_sem]
  have d0w1 : w1.frozen? ⟨w.heap.size, 0, none⟩ = false := by rw [hb1.frozen (p := ⟨w.heap.size, 0, none⟩) (by simp)]; simp [go_sem]
  have d1w1 : w1.frozen? ⟨w.heap.size, 1, none⟩ = false := by rw [hb1.frozen (p := ⟨w.heap.size, 1, none⟩) (by simp)]; simp [go_sem]
  have hw1 : Wid w1 := hw.below (bel_trans (bel_alloc _ _) hb1)
  go_wp2_with fail
  refine (cut_impl _ _ _ (hw1.below (bel_alloc _ _)) HX.out (wLo_bd _).1 (wLo_bd _).2).mono ?_
  rintro e w2 ⟨rfl, rfl⟩
  go_wp2_with fail
  refine (signedI _ _ _ (hw1.below (bel_alloc _ _)) HA.out).mono ?_
  rintro e w3 ⟨rfl, rfl⟩
  go_wp2_with fail
  refine (widen_any _ _ BA.out.1 BA.out.2).mono ?_
  rintro e w4 ⟨rfl, hb4⟩
  have hb4' := bel_trans (bel_trans hb1 (bel_alloc _ _)) hb4
  have hw4 : Wid w4 := hw.below (bel_trans (bel_alloc _ _) hb4')
  go_wp2_with fail
  refine (signedI _ _ _ hw4 HB.out).mono ?_
  rintro e w5 ⟨rfl, rfl⟩
  go_wp2_with fail
  refine (widen_any _ _ BB.out.1 BB.out.2).mono ?_
  rintro e w6 ⟨rfl, hb6⟩
  go_wp2_with fail
  refine (trueOutcome_any _ (sgnI x a) (sgnI x b) _ _ _ _ _ HO.out rfl rfl rfl rfl).mono ?_
  rintro e w7 ⟨rfl, hb7⟩
  have hb7' := bel_trans (bel_trans hb4' hb6) hb7
  have hw7 : Wid w7 := hw.below (bel_trans (bel_alloc _ _) hb7')
  go_wp2_with fail
  refine (signedI _ _ _ hw7 WC.out).mono ?_
  rintro e w8 ⟨rfl, rfl⟩
  go_wp2_with fail
  refine (widen_any _ _ BC.out.1 BC.out.2).mono ?_
  rintro e w9 ⟨rfl, hb9⟩
  have hb9' := bel_trans hb7' hb9
  have zw9 : w.heap.size < w9.heap.size := by have := hb9'.size; simp at this; omega
  have c0w9 : w9.cell? ⟨w.heap.size, 0, none⟩ = some (.int .i64 0) := by rw [hb9'.cell (p := ⟨w.heap.size, 0, none⟩) (by simp)]; simp [go_sem]
  have c1w9 : w9.cell? ⟨w.heap.size, 1, none⟩ = some (.int .u64 0) := by rw [hb9'.cell (p := ⟨w.heap.size, 1, none⟩) (by simp)]; simp [go_sem]
  have d0w9 : w9.frozen? ⟨w.heap.size, 0, none⟩ = false := by rw [hb9'.frozen (p := ⟨w.heap.size, 0, none⟩) (by simp)]; simp [go_sem]
  have d1w9 : w9.frozen? ⟨w.heap.size, 1, none⟩ = false := by rw [hb9'.frozen (p := ⟨w.heap.size, 1, none⟩) (by simp)]; simp [go_sem]
  clear c0w1 c1w1 d0w1 d1w1
  go_wp2_with fail
  refine bodyPost_ret (v := .agg #[.int .i64 1, .int .u64 0]) (by simp [results, Tryd.results28, go_sem, c0w9, c1w9, zw9]) rfl ⟨rfl, ?_⟩
  first
  | exact ((bel_trans (bel_alloc _ _) hb9').setCell (by simp) _).setCell (by simp) _
  | exact (((bel_trans (bel_alloc _ _) hb1).setCell (by simp) _).setCell (by simp) _).alloc (by simp; omega) _
set_option maxRecDepth 100000 in
set_option maxHeartbeats 2000000 in
theorem comb_5 (fl op x a b : Int) (w : World) (hw : Wid w) (ho : op = 1 ∨ op = 2 ∨ op = 3) (ha : isW x a = true) (hb : isW x b = true) (ku : (bits BinOp.and IntKind.i64 fl 2 != 0) = false) (ks : (bits BinOp.and IntKind.i64 fl 1 != 0) = false) :
    Calls Tryd.prog 28 #[.int .i64 op, .int .i64 fl, .int .i64 x, .int .u64 a, .int .u64 b] w fun e w' => e = .returned (.agg #[.int .i64 0, .int .u64 (cutI x (wLo (arT op a b)))]) ∧ Below w.heap.size w w' := by
  have HX : Hid (vw x = true) := isW_vw ha
  have HO : Hid (op = 1 ∨ op = 2 ∨ op = 3) := ho
  have HA : Hid (isW x a = true) := ha
  have HB : Hid (isW x b = true) := hb
  have E1 : Hid (a = wLo a) := show a = wLo a by have := u64_bd ha; unfold wLo; omega
  have E2 : Hid (0 = wHi a) := show 0 = wHi a by have := u64_bd ha; unfold wHi; omega
  have E3 : Hid (b = wLo b) := show b = wLo b by have := u64_bd hb; unfold wLo; omega
  have E4 : Hid (0 = wHi b) := show 0 = wHi b by have := u64_bd hb; unfold wHi; omega
  have BA : Hid (-9223372036854775808 ≤ sgnI x a ∧ sgnI x a ≤ 9223372036854775807) := sgn_bd ha
  have BB : Hid (-9223372036854775808 ≤ sgnI x b ∧ sgnI x b ≤ 9223372036854775807) := sgn_bd hb
  have WC : Hid (isW x (cutI x (wLo (arT op a b))) = true) := isW_cut (isW_vw ha)
  have BC : Hid (-9223372036854775808 ≤ sgnI x (cutI x (wLo (arT op a b))) ∧ sgnI x (cutI x (wLo (arT op a b))) ≤ 9223372036854775807) := sgn_bd (isW_cut (isW_vw ha))
  clear ha hb ho
  go_enter Tryd.func28, Tryd.ntmps28
  go_wp2_with fail
  refine (trueOutcome_any _ a b _ _ _ _ _ HO.out E1.out E2.out E3.out E4.out).mono ?_
  rintro e w1 ⟨rfl, hb1⟩
  have zw1 : w.heap.size < w1.heap.size := by have := hb1.size; simp at this; omega
  have c0w1 : w1.cell? ⟨w.heap.size, 0, none⟩ = some (.int .i64 0) := by rw [hb1.cell (p := ⟨w.heap.size, 0, none⟩) (by simp)]; simp [go_sem]
  have c1w1 : w1.cell? ⟨w.heap.size, 1, none⟩ = some (.int .u64 0) := by rw [hb1.cell (p := ⟨w.heap.size, 1, none⟩) (by simp)]; simp [go_sem]
  have d0w1 : w1.frozen? ⟨w.heap.size, 0, none⟩ = false := by rw [hb1.frozen (p := ⟨w.heap.size, 0, none⟩) (by simp)]; simp [go_sem]
  have d1w1 : w1.frozen? ⟨w.heap.size, 1, none⟩ = false := by rw [hb1.frozen (p := ⟨w.heap.size, 1, none⟩) (by simp)]; simp [go_sem]
  have hw1 : Wid w1 := hw.below (bel_trans (bel_alloc _ _) hb1)
  go_wp2_with fail
  refine (cut_impl _ _ _ (hw1.below (bel_alloc _ _)) HX.out (wLo_bd _).1 (wLo_bd _).2).mono ?_
  rintro e w2 ⟨rfl, rfl⟩
  go_wp2_with fail
  refine bodyPost_ret (v := .agg #[.int .i64 0, .int .u64 (cutI x (wLo (arT op a b)))]) (by simp [results, Tryd.results28, go_sem, c0w1, c1w1, zw1]) rfl ⟨rfl, ?_⟩
  first
  | exact ((bel_trans (bel_alloc _ _) (bel_trans hb1 (bel_alloc _ _))).setCell (by simp) _).setCell (by simp) _
  | exact (((bel_trans (bel_alloc _ _) hb1).setCell (by simp) _).setCell (by simp) _).alloc (by simp; omega) _
set_option maxRecDepth 100000 in
set_option maxHeartbeats 2000000 in
theorem comb_6 (fl op x a b : Int) (w : World) (hw : Wid w) (ho : op = 1 ∨ op = 2 ∨ op = 3) (ha : isW x a = true) (hb : isW x b = true) (ku : (bits BinOp.and IntKind.i64 fl 2 != 0) = false) (ks : (bits BinOp.and IntKind.i64 fl 1 != 0) = true) (hs : fitS x (arT op (sgnI x a) (sgnI x b)) = true) :
    Calls Tryd.prog 28 #[.int .i64 op, .int .i64 fl, .int .i64 x, .int .u64 a, .int .u64 b] w fun e w' => e = .returned (.agg #[.int .i64 0, .int .u64 (cutI x (wLo (arT op a b)))]) ∧ Below w.heap.size w w' := by
  have HX : Hid (vw x = true) := isW_vw ha
  have HO : Hid (op = 1 ∨ op = 2 ∨ op = 3) := ho
  have HA : Hid (isW x a = true) := ha
  have HB : Hid (isW x b = true) := hb
  have E1 : Hid (a = wLo a) := show a = wLo a by have := u64_bd ha; unfold wLo; omega
  have E2 : Hid (0 = wHi a) := show 0 = wHi a by have := u64_bd ha; unfold wHi; omega
  have E3 : Hid (b = wLo b) := show b = wLo b by have := u64_bd hb; unfold wLo; omega
  have E4 : Hid (0 = wHi b) := show 0 = wHi b by have := u64_bd hb; unfold wHi; omega
  have BA : Hid (-9223372036854775808 ≤ sgnI x a ∧ sgnI x a ≤ 9223372036854775807) := sgn_bd ha
  have BB : Hid (-9223372036854775808 ≤ sgnI x b ∧ sgnI x b ≤ 9223372036854775807) := sgn_bd hb
  have WC : Hid (isW x (cutI x (wLo (arT op a b))) = true) := isW_cut (isW_vw ha)
  have BC : Hid (-9223372036854775808 ≤ sgnI x (cutI x (wLo (arT op a b))) ∧ sgnI x (cutI x (wLo (arT op a b))) ≤ 9223372036854775807) := sgn_bd (isW_cut (isW_vw ha))
  have QS : ∀ W, (Op.equalIn 10000 59 (.agg #[.int .u64 (wLo (arT op (sgnI x a) (sgnI x b))), .int .u64 (wHi (arT op (sgnI x a) (sgnI x b)))]) (.agg #[.int .u64 (wLo (sgnI x (cutI x (wLo (arT op a b))))), .int .u64 (wHi (sgnI x (cutI x (wLo (arT op a b)))))])).run Tryd.prog W = .ok true W := by
    intro W
    have ec : cutI x (wLo (arT op a b)) = arT op (sgnI x a) (sgnI x b) % 2 ^ x.toNat := cword_eq (isW_vw ha)
    rw [ec, eq_wide _ _ _ _ W (wf_u64 (wLo_bd _)) (wf_u64 (wHi_bd _)) (wf_u64 (wLo_bd _)) (wf_u64 (wHi_bd _)), fitS_of (isW_vw ha) (tS_bd (op := op) ha hb)]
    exact congrArg (fun z => Result.ok z W) hs
  clear ha hb ho hs
  go_enter Tryd.func28, Tryd.ntmps28
  go_wp2_with fail
  refine (trueOutcome_any _ a b _ _ _ _ _ HO.out E1.out E2.out E3.out E4.out).mono ?_
  rintro e w1 ⟨rfl, hb1⟩
  have zw1 : w.heap.size < w1.heap.size := by have := hb1.size; simp at this; omega
  have c0w1 : w1.cell? ⟨w.heap.size, 0, none⟩ = some (.int .i64 0) := by rw [hb1.cell (p := ⟨w.heap.size, 0, none⟩) (by simp)]; simp [go_sem]
  have c1w1 : w1.cell? ⟨w.heap.size, 1, none⟩ = some (.int .u64 0) := by rw [hb1.cell (p := ⟨w.heap.size, 1, none⟩) (by simp)]; simp [go_sem]
  have d0w1 : w1.frozen? ⟨w.heap.size, 0, none⟩ = false := by rw [hb1.frozen (p := ⟨w.heap.size, 0, none⟩) (by simp)]; simp [go_sem]
  have d1w1 : w1.frozen? ⟨w.heap.size, 1, none⟩ = false := by rw [hb1.frozen (p := ⟨w.heap.size, 1, none⟩) (by simp)]; simp [go_sem]
  have hw1 : Wid w1 := hw.below (bel_trans (bel_alloc _ _) hb1)
  go_wp2_with fail
  refine (cut_impl _ _ _ (hw1.below (bel_alloc _ _)) HX.out (wLo_bd _).1 (wLo_bd _).2).mono ?_
  rintro e w2 ⟨rfl, rfl⟩
  go_wp2_with fail
  refine (signedI _ _ _ (hw1.below (bel_alloc _ _)) HA.out).mono ?_
  rintro e w3 ⟨rfl, rfl⟩
  go_wp2_with fail
  refine (widen_any _ _ BA.out.1 BA.out.2).mono ?_
  rintro e w4 ⟨rfl, hb4⟩
  have hb4' := bel_trans (bel_trans hb1 (bel_alloc _ _)) hb4
  have hw4 : Wid w4 := hw.below (bel_trans (bel_alloc _ _) hb4')
  go_wp2_with fail
  refine (signedI _ _ _ hw4 HB.out).mono ?_
  rintro e w5 ⟨rfl, rfl⟩
  go_wp2_with fail
  refine (widen_any _ _ BB.out.1 BB.out.2).mono ?_
  rintro e w6 ⟨rfl, hb6⟩
  go_wp2_with fail
  refine (trueOutcome_any _ (sgnI x a) (sgnI x b) _ _ _ _ _ HO.out rfl rfl rfl rfl).mono ?_
  rintro e w7 ⟨rfl, hb7⟩
  have hb7' := bel_trans (bel_trans hb4' hb6) hb7
  have hw7 : Wid w7 := hw.below (bel_trans (bel_alloc _ _) hb7')
  go_wp2_with fail
  refine (signedI _ _ _ hw7 WC.out).mono ?_
  rintro e w8 ⟨rfl, rfl⟩
  go_wp2_with fail
  refine (widen_any _ _ BC.out.1 BC.out.2).mono ?_
  rintro e w9 ⟨rfl, hb9⟩
  have hb9' := bel_trans hb7' hb9
  have zw9 : w.heap.size < w9.heap.size := by have := hb9'.size; simp at this; omega
  have c0w9 : w9.cell? ⟨w.heap.size, 0, none⟩ = some (.int .i64 0) := by rw [hb9'.cell (p := ⟨w.heap.size, 0, none⟩) (by simp)]; simp [go_sem]
  have c1w9 : w9.cell? ⟨w.heap.size, 1, none⟩ = some (.int .u64 0) := by rw [hb9'.cell (p := ⟨w.heap.size, 1, none⟩) (by simp)]; simp [go_sem]
  have d0w9 : w9.frozen? ⟨w.heap.size, 0, none⟩ = false := by rw [hb9'.frozen (p := ⟨w.heap.size, 0, none⟩) (by simp)]; simp [go_sem]
  have d1w9 : w9.frozen? ⟨w.heap.size, 1, none⟩ = false := by rw [hb9'.frozen (p := ⟨w.heap.size, 1, none⟩) (by simp)]; simp [go_sem]
  clear c0w1 c1w1 d0w1 d1w1
  go_wp2_with fail
  refine bodyPost_ret (v := .agg #[.int .i64 0, .int .u64 (cutI x (wLo (arT op a b)))]) (by simp [results, Tryd.results28, go_sem, c0w9, c1w9, zw9]) rfl ⟨rfl, ?_⟩
  first
  | exact ((bel_trans (bel_alloc _ _) hb9').setCell (by simp) _).setCell (by simp) _
  | exact (((bel_trans (bel_alloc _ _) hb1).setCell (by simp) _).setCell (by simp) _).alloc (by simp; omega) _
set_option maxRecDepth 100000 in
set_option maxHeartbeats 2000000 in
theorem comb_7 (fl op x a b : Int) (w : World) (hw : Wid w) (ho : op = 1 ∨ op = 2 ∨ op = 3) (ha : isW x a = true) (hb : isW x b = true) (ku : (bits BinOp.and IntKind.i64 fl 2 != 0) = false) (ks : (bits BinOp.and IntKind.i64 fl 1 != 0) = true) (hs : fitS x (arT op (sgnI x a) (sgnI x b)) = false) :
    Calls Tryd.prog 28 #[.int .i64 op, .int .i64 fl, .int .i64 x, .int .u64 a, .int .u64 b] w fun e w' => e = .returned (.agg #[.int .i64 1, .int .u64 0]) ∧ Below w.heap.size w w' := by
  have HX : Hid (vw x = true) := isW_vw ha
  have HO : Hid (op = 1 ∨ op = 2 ∨ op = 3) := ho
  have HA : Hid (isW x a = true) := ha
  have HB : Hid (isW x b = true) := hb
  have E1 : Hid (a = wLo a) := show a = wLo a by have := u64_bd ha; unfold wLo; omega
  have E2 : Hid (0 = wHi a) := show 0 = wHi a by have := u64_bd ha; unfold wHi; omega
  have E3 : Hid (b = wLo b) := show b = wLo b by have := u64_bd hb; unfold wLo; omega
  have E4 : Hid (0 = wHi b) := show 0 = wHi b by have := u64_bd hb; unfold wHi; omega
  have BA : Hid (-9223372036854775808 ≤ sgnI x a ∧ sgnI x a ≤ 9223372036854775807) := sgn_bd ha
  have BB : Hid (-9223372036854775808 ≤ sgnI x b ∧ sgnI x b ≤ 9223372036854775807) := sgn_bd hb
  have WC : Hid (isW x (cutI x (wLo (arT op a b))) = true) := isW_cut (isW_vw ha)
  have BC : Hid (-9223372036854775808 ≤ sgnI x (cutI x (wLo (arT op a b))) ∧ sgnI x (cutI x (wLo (arT op a b))) ≤ 9223372036854775807) := sgn_bd (isW_cut (isW_vw ha))
  have QS : ∀ W, (Op.equalIn 10000 59 (.agg #[.int .u64 (wLo (arT op (sgnI x a) (sgnI x b))), .int .u64 (wHi (arT op (sgnI x a) (sgnI x b)))]) (.agg #[.int .u64 (wLo (sgnI x (cutI x (wLo (arT op a b))))), .int .u64 (wHi (sgnI x (cutI x (wLo (arT op a b)))))])).run Tryd.prog W = .ok false W := by
    intro W
    have ec : cutI x (wLo (arT op a b)) = arT op (sgnI x a) (sgnI x b) % 2 ^ x.toNat := cword_eq (isW_vw ha)
    rw [ec, eq_wide _ _ _ _ W (wf_u64 (wLo_bd _)) (wf_u64 (wHi_bd _)) (wf_u64 (wLo_bd _)) (wf_u64 (wHi_bd _)), fitS_of (isW_vw ha) (tS_bd (op := op) ha hb)]
    exact congrArg (fun z => Result.ok z W) hs
  clear ha hb ho hs
  go_enter Tryd.func28, Tryd.ntmps28
  go_wp2_with fail
  refine (trueOutcome_any _ a b _ _ _ _ _ HO.out E1.out E2.out E3.out E4.out).mono ?_
  rintro e w1 ⟨rfl, hb1⟩
  have zw1 : w.heap.size < w1.heap.size := by have := hb1.size; simp at this; omega
  have c0w1 : w1.cell? ⟨w.heap.size, 0, none⟩ = some (.int .i64 0) := by rw [hb1.cell (p := ⟨w.heap.size, 0, none⟩) (by simp)]; simp [go_sem]
  have c1w1 : w1.cell? ⟨w.heap.size, 1, none⟩ = some (.int .u64 0) := by rw [hb1.cell (p := ⟨w.heap.size, 1, none⟩) (by simp)]; simp [go_sem]
  have d0w1 : w1.frozen? ⟨w.heap.size, 0, none⟩ = false := by rw [hb1.frozen (p := ⟨w.heap.size, 0, none⟩) (by simp)]; simp [go_sem]
  have d1w1 : w1.frozen? ⟨w.heap.size, 1, none⟩ = false := by rw [hb1.frozen (p := ⟨w.heap.size, 1, none⟩) (by simp)]; simp [go_sem]
  have hw1 : Wid w1 := hw.below (bel_trans (bel_alloc _ _) hb1)
  go_wp2_with fail
  refine (cut_impl _ _ _ (hw1.below (bel_alloc _ _)) HX.out (wLo_bd _).1 (wLo_bd _).2).mono ?_
  rintro e w2 ⟨rfl, rfl⟩
  go_wp2_with fail
  refine (signedI _ _ _ (hw1.below (bel_alloc _ _)) HA.out).mono ?_
  rintro e w3 ⟨rfl, rfl⟩
  go_wp2_with fail
  refine (widen_any _ _ BA.out.1 BA.out.2).mono ?_
  rintro e w4 ⟨rfl, hb4⟩
  have hb4' := bel_trans (bel_trans hb1 (bel_alloc _ _)) hb4
  have hw4 : Wid w4 := hw.below (bel_trans (bel_alloc _ _) hb4')
  go_wp2_with fail
  refine (signedI _ _ _ hw4 HB.out).mono ?_
  rintro e w5 ⟨rfl, rfl⟩
  go_wp2_with fail
  refine (widen_any _ _ BB.out.1 BB.out.2).mono ?_
  rintro e w6 ⟨rfl, hb6⟩
  go_wp2_with fail
  refine (trueOutcome_any _ (sgnI x a) (sgnI x b) _ _ _ _ _ HO.out rfl rfl rfl rfl).mono ?_
  rintro e w7 ⟨rfl, hb7⟩
  have hb7' := bel_trans (bel_trans hb4' hb6) hb7
  have hw7 : Wid w7 := hw.below (bel_trans (bel_alloc _ _) hb7')
  go_wp2_with fail
  refine (signedI _ _ _ hw7 WC.out).mono ?_
  rintro e w8 ⟨rfl, rfl⟩
  go_wp2_with fail
  refine (widen_any _ _ BC.out.1 BC.out.2).mono ?_
  rintro e w9 ⟨rfl, hb9⟩
  have hb9' := bel_trans hb7' hb9
  have zw9 : w.heap.size < w9.heap.size := by have := hb9'.size; simp at this; omega
  have c0w9 : w9.cell? ⟨w.heap.size, 0, none⟩ = some (.int .i64 0) := by rw [hb9'.cell (p := ⟨w.heap.size, 0, none⟩) (by simp)]; simp [go_sem]
  have c1w9 : w9.cell? ⟨w.heap.size, 1, none⟩ = some (.int .u64 0) := by rw [hb9'.cell (p := ⟨w.heap.size, 1, none⟩) (by simp)]; simp [go_sem]
  have d0w9 : w9.frozen? ⟨w.heap.size, 0, none⟩ = false := by rw [hb9'.frozen (p := ⟨w.heap.size, 0, none⟩) (by simp)]; simp [go_sem]
  have d1w9 : w9.frozen? ⟨w.heap.size, 1, none⟩ = false := by rw [hb9'.frozen (p := ⟨w.heap.size, 1, none⟩) (by simp)]; simp [go_sem]
  clear c0w1 c1w1 d0w1 d1w1
  go_wp2_with fail
  refine bodyPost_ret (v := .agg #[.int .i64 1, .int .u64 0]) (by simp [results, Tryd.results28, go_sem, c0w9, c1w9, zw9]) rfl ⟨rfl, ?_⟩
  first
  | exact ((bel_trans (bel_alloc _ _) hb9').setCell (by simp) _).setCell (by simp) _
  | exact (((bel_trans (bel_alloc _ _) hb1).setCell (by simp) _).setCell (by simp) _).alloc (by simp; omega) _
end Go.Proofs.YtmkhkgliipalaaaDoor
