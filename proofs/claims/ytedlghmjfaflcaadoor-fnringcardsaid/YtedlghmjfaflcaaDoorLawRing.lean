/- Over one translation: at every code of at most lwMost bytes, and of more, the law FnRing answers true and turns nothing that was there. -/
import Derived.Test.YtedlghmjfaflcaaDoorLwC
namespace Go.Proofs.YtedlghmjfaflcaaDoor
open Go.ChangeShapes Go.WideShapes Go.ChangeAt Go.RowKit
set_option linter.unusedVariables false
set_option linter.unusedSimpArgs false
theorem sgn31 {x a : Int} (h : isW x a = true) (h64 : x < 64) : -2147483648 ≤ sgnI x a ∧ sgnI x a ≤ 2147483647 := by
  obtain ⟨h0, h1⟩ := isW_bd h
  unfold sgnI
  rcases vw_cases (isW_vw h) with rfl | rfl | rfl | rfl | rfl <;> (simp at h1 ⊢ <;> first | omega | (split <;> omega))
theorem bd32 {x a : Int} (h : isW x a = true) (h64 : x < 64) : 0 ≤ a ∧ a ≤ 4294967295 := by
  obtain ⟨h0, h1⟩ := isW_bd h
  rcases vw_cases (isW_vw h) with rfl | rfl | rfl | rfl | rfl <;> (simp at h1 <;> omega)
theorem mul31 {p q : Int} (h1 : -2147483648 ≤ p ∧ p ≤ 2147483647) (h2 : -2147483648 ≤ q ∧ q ≤ 2147483647) : -4611686018427387904 ≤ p * q ∧ p * q ≤ 4611686018427387904 := by
  have hp : p.natAbs ≤ 2147483648 := by omega
  have hq : q.natAbs ≤ 2147483648 := by omega
  have h := Nat.mul_le_mul hp hq
  rw [← Int.natAbs_mul] at h
  omega
theorem ringC (fl op x a b c : Int) (w : World) (hc : cdI (NotI fl op x a b) = c) (hw : Wid w) (hf : fl = 1 ∨ fl = 2 ∨ fl = 3) (ho : op = 1 ∨ op = 2 ∨ op = 3) (ha : isW x a = true) (hb : isW x b = true) :
    Calls Tryd.prog 13 #[.int .i64 op, .int .i64 fl, .int .i64 x, .int .u64 a, .int .u64 b] w fun e w' => ∃ v : Int, e = .returned (.agg #[.int .i64 c, .int .u64 v]) ∧ Below w.heap.size w w' := by
  rw [← hc]; exact ringF fl op x a b w hw hf ho ha hb
theorem lwTopT (x T : Int) (w : World) (hT : T = 2 ^ (x.toNat - 1)) (hx : vw x = true) :
    Calls Tryd.prog 16 #[.int .i64 x] w fun e w' => e = .returned (.int .u64 T) ∧ w' = w := by
  rw [hT]; exact lwTop_any x w hx
theorem T_bd {x T : Int} (hT : T = 2 ^ (x.toNat - 1)) (hx : vw x = true) (h64 : x < 64) : 1 ≤ T ∧ T ≤ 2147483648 ∧ (2 : Int) ^ x.toNat = T * 2 := by
  subst hT
  rcases vw_cases hx with rfl | rfl | rfl | rfl | rfl <;> simp at h64 ⊢
theorem sgnT {x T a : Int} (hT : T = 2 ^ (x.toNat - 1)) (ha : isW x a = true) (h64 : x < 64) : (a < T ∧ sgnI x a = a) ∨ (T ≤ a ∧ sgnI x a = a - T * 2) := by
  have h := T_bd hT (isW_vw ha) h64
  unfold sgnI
  rw [h.2.2, ← hT]
  by_cases l : a < T
  · exact .inl ⟨l, if_pos l⟩
  · exact .inr ⟨by omega, if_neg l⟩
theorem fitS_T {x T n : Int} (s : Bool) (hT : T = 2 ^ (x.toNat - 1)) (h : s = true ↔ (-T ≤ n ∧ n < T)) : fitS x n = s := by
  rw [Bool.eq_iff_iff, h]
  simp only [fitS, decide_eq_true_eq]
  rw [← hT]
theorem fitU_T {x T n : Int} (u : Bool) (h2 : (2 : Int) ^ x.toNat = T * 2) (h : u = true ↔ (0 ≤ n ∧ n < T * 2)) : fitU x n = u := by
  rw [Bool.eq_iff_iff, h]
  simp only [fitU, decide_eq_true_eq]
  rw [h2]
theorem code1 {op x a b : Int} {s : Bool} (hs : fitS x (arT op (sgnI x a) (sgnI x b)) = s) : cdI (NotI 1 op x a b) = cdI (!s) := by
  have k1 : (bits BinOp.and IntKind.i64 1 2 != 0) = false := by decide
  have k2 : (bits BinOp.and IntKind.i64 1 1 != 0) = true := by decide
  simp [NotI, k1, k2, hs]
theorem code2 {op x a b : Int} {u : Bool} (hu : fitU x (arT op a b) = u) : cdI (NotI 2 op x a b) = cdI (!u) := by
  have k1 : (bits BinOp.and IntKind.i64 2 2 != 0) = true := by decide
  have k2 : (bits BinOp.and IntKind.i64 2 1 != 0) = false := by decide
  simp [NotI, k1, k2, hu]
theorem code3 {op x a b : Int} {u s : Bool} (hu : fitU x (arT op a b) = u) (hs : fitS x (arT op (sgnI x a) (sgnI x b)) = s) : cdI (NotI 3 op x a b) = cdI (!u || !s) := by
  have k1 : (bits BinOp.and IntKind.i64 3 2 != 0) = true := by decide
  have k2 : (bits BinOp.and IntKind.i64 3 1 != 0) = true := by decide
  simp [NotI, k1, k2, hu, hs]
theorem mulU_in {a b M : Int} (h0 : 0 ≤ a) (hb : 0 < b) (hM : 0 < M) : (0 ≤ a * b ∧ a * b < M) ↔ a ≤ (M - 1) / b := by
  rw [Int.le_ediv_iff_mul_le hb]
  have := Int.mul_nonneg h0 (Int.le_of_lt hb)
  omega
theorem low_bits (op x a b n : Int) (hx : vw x = true) (hn : n = arT op (sgnI x a) (sgnI x b)) : cutI x (IntKind.u64.wrap n) = RW op x a b := by
  have e : cutI x (IntKind.u64.wrap n) = cutI x n := by rw [IntKind.wrap_u64]; exact cutI_wLo hx n
  rw [e, hn]
  unfold RW
  rw [cword_eq hx]; rfl
set_option maxRecDepth 100000 in
set_option maxHeartbeats 40000000 in
theorem ring_law (w : World) (al : Option Addr) (len cap : Nat) (zs : List Int) (h0 : IsRow .u8 w al len cap zs) (hl : len ≤ 1048576) (hw : Wid w) :
    Calls Tryd.prog 3 #[.slice al len cap] w fun e w' => e = .returned (.bool true) ∧ Below w.heap.size w w' := by
  have hl' : (len : Int) ≤ 1048576 := by omega
  go_enter Tryd.func3, Tryd.ntmps3
  go_wp2_with fail
  refine (lwAt_any _ _ _ _ _ _ _ h0 (by decide) (by decide) (by decide) (by decide)).mono ?_
  rintro e w1 ⟨k, rfl, k0, k1, hb1⟩
  go_wp2_with fail
  refine (lwWidth_any _ _ k0 k1).mono ?_
  rintro e w2 ⟨x, rfl, hx, hb2⟩
  have hB2 := bel_trans hb1 hb2
  have HX : Hid (vw x = true) := hx
  clear hx hb1 hb2
  go_wp2_with fail
  refine (lwWord_any _ _ _ _ _ _ _ (h0.bel hB2) (by decide) (by decide) HX.out).mono ?_
  rintro e w3 ⟨a, rfl, ha, hb3⟩
  have hB3 := bel_trans hB2 hb3
  have HA : Hid (isW x a = true) := ha
  clear ha hb3 hB2
  go_wp2_with fail
  refine (lwWord_any _ _ _ _ _ _ _ (h0.bel hB3) (by decide) (by decide) HX.out).mono ?_
  rintro e w4 ⟨b, rfl, hb, hb4⟩
  have hB4 := bel_trans hB3 hb4
  have HB : Hid (isW x b = true) := hb
  clear hb hb4 hB3
  go_wp2_with fail
  refine (lwWord_any _ _ _ _ _ _ _ (h0.bel hB4) (by decide) (by decide) HX.out).mono ?_
  rintro e w5 ⟨c, rfl, hc, hb5⟩
  have hB := bel_trans hB4 hb5
  have HC : Hid (isW x c = true) := hc
  have hW := hw.below hB
  clear hc hb5 hB4
  have F1 : (RW 2 x (RW 1 x a b) b != a) = false := by rw [ringE1 HX.out HA.out]; simp
  have F2 : (RW 1 x a b != RW 1 x b a) = false := by rw [ringE2 HX.out]; simp
  have F3 : (RW 3 x a b != RW 3 x b a) = false := by rw [ringE3 HX.out]; simp
  have F4 : (RW 3 x c (RW 1 x a b) != RW 1 x (RW 3 x c a) (RW 3 x c b)) = false := by rw [ringE4 HX.out]; simp
  have F5 : (cutI x a != a) = false := by rw [cut_same HA.out]; simp
  have F6 : ∀ v W, (Instr.field 29 (.agg #[.int .i64 0, .int .u64 v]) 0).run Tryd.prog W = .ok (.int .i64 0) W := fun v W => by kernel_rfl
  have BA := u64_bd HA.out
  have F7 : ∀ v W, (Instr.field 29 (.agg #[.int .i64 1, .int .u64 v]) 0).run Tryd.prog W = .ok (.int .i64 1) W := fun v W => by kernel_rfl
  clear h0 hl' hl k0 k1
  by_cases h64 : x = 64
  · have e64 : (x == 64) = true := by simp [h64]
    clear h64
    go_wp2_with (first | (go_at_call 12; refine (lwDo0 _ _ _ _ _ (by assumption) (by decide) (by first | exact HA.out | exact HB.out | exact HC.out | exact isW_RW HX.out) (by first | exact HA.out | exact HB.out | exact HC.out | exact isW_RW HX.out)).mono ?_; rintro e wn ⟨rfl, hbn⟩; have hWn := Wid.below (by assumption) hbn; have hBn : Below w.heap.size w wn := bel_trans (by assumption) hbn; clear hbn) | (go_at_call 13; refine (ring0 _ _ _ _ _ (by assumption) (by decide) HA.out HB.out).mono ?_; rintro e wn ⟨rfl, hbn⟩; have hWn := Wid.below (by assumption) hbn; have hBn : Below w.heap.size w wn := bel_trans (by assumption) hbn; clear hbn) | (go_at_call 14; refine (cut_impl _ _ _ (by assumption) HX.out BA.1 BA.2).mono ?_; rintro e wn ⟨rfl, rfl⟩))
    go_ret
    exact ⟨rfl, by assumption⟩
  · have e64 : (x == 64) = false := beq_eq_false_iff_ne.2 h64
    have HX64 : Hid (x < 64) := show x < 64 by
      rcases vw_cases HX.out with rfl | rfl | rfl | rfl | rfl <;> omega
    have sa := sgn31 HA.out HX64.out
    have sb := sgn31 HB.out HX64.out
    have sp := mul31 sa sb
    obtain ⟨T, hT⟩ : ∃ T : Int, T = 2 ^ (x.toNat - 1) := ⟨_, rfl⟩
    have HT : Hid (T = 2 ^ (x.toNat - 1)) := hT
    have HT2 : Hid ((2 : Int) ^ x.toNat = T * 2) := (T_bd hT HX.out HX64.out).2.2
    have t0 := (T_bd hT HX.out HX64.out).1
    have t1 := (T_bd hT HX.out HX64.out).2.1
    have RA : Hid ((a < T ∧ sgnI x a = a) ∨ (T ≤ a ∧ sgnI x a = a - T * 2)) := sgnT hT HA.out HX64.out
    have RB : Hid ((b < T ∧ sgnI x b = b) ∨ (T ≤ b ∧ sgnI x b = b - T * 2)) := sgnT hT HB.out HX64.out
    have a0 := (isW_bd HA.out).1
    have a1 : a < T * 2 := by have := (isW_bd HA.out).2; rw [HT2.out] at this; exact this
    have b0 := (isW_bd HB.out).1
    have b1 : b < T * 2 := by have := (isW_bd HB.out).2; rw [HT2.out] at this; exact this
    have hx1 : Hid (x.toNat ≤ 64) := show x.toNat ≤ 64 by have := HX64.out; omega
    clear hT
    clear h64
    go_wp2_with (first | (go_at_call 12; refine (lwDo0 _ _ _ _ _ (by assumption) (by decide) (by first | exact HA.out | exact HB.out | exact HC.out | exact isW_RW HX.out) (by first | exact HA.out | exact HB.out | exact HC.out | exact isW_RW HX.out)).mono ?_; rintro e wn ⟨rfl, hbn⟩; have hWn := Wid.below (by assumption) hbn; have hBn : Below w.heap.size w wn := bel_trans (by assumption) hbn; clear hbn) | (go_at_call 13; refine (ring0 _ _ _ _ _ (by assumption) (by decide) HA.out HB.out).mono ?_; rintro e wn ⟨rfl, hbn⟩; have hWn := Wid.below (by assumption) hbn; have hBn : Below w.heap.size w wn := bel_trans (by assumption) hbn; clear hbn) | (go_at_call 14; refine (cut_impl _ _ _ (by assumption) HX.out BA.1 BA.2).mono ?_; rintro e wn ⟨rfl, rfl⟩))
    clear F1 F2 F3 F4 F5
    go_loopw [8] (fun o wr => ∃ k : Nat, 1 ≤ k ∧ k ≤ 4 ∧ o = .int .i64 k ∧ Below w.heap.size w wr) (fun o _ => 4 - (intOf o).toNat)
    case atStart => exact ⟨1, by omega, by omega, rfl, by assumption⟩
    case round =>
      obtain ⟨k, k1, k2, rfl, hBr⟩ := hrel
      have hWr := hw.below hBr
      have hk : k = 1 ∨ k = 2 ∨ k = 3 ∨ k = 4 := by omega
      rcases hk with rfl | rfl | rfl | rfl
      · by_cases n1 : sgnI x a + sgnI x b < -T
        · have m1 : T * 2 ≤ a + b := by have := RA.out; have := RB.out; omega
          have hs : fitS x (arT 1 (sgnI x a) (sgnI x b)) = false := fitS_T false HT.out (by show _ ↔ (-T ≤ sgnI x a + sgnI x b ∧ sgnI x a + sgnI x b < T); simp; omega)
          have hu : fitU x (arT 1 a b) = false := fitU_T false HT2.out (by show _ ↔ (0 ≤ a + b ∧ a + b < T * 2); simp; omega)
          have C1 : Hid (cdI (NotI 1 1 x a b) = 1) := code1 hs
          have C2 : Hid (cdI (NotI 2 1 x a b) = 1) := code2 hu
          have C3 : Hid (cdI (NotI 3 1 x a b) = 1) := code3 hu hs
          have WE : bits .and .u64 (IntKind.u64.wrap (sgnI x a + sgnI x b)) (T * 2 - 1) = RW 1 x a b := by
            rw [and_mask x.toNat hx1.out _ _ (by rw [HT2.out]) (wrapU_bd _).1 (wrapU_bd _).2]; exact low_bits 1 x a b _ HX.out rfl
          have WDT : Hid (isW x (bits .and .u64 (IntKind.u64.wrap (sgnI x a + sgnI x b)) (T * 2 - 1)) = true) := by rw [WE]; exact isW_RW HX.out
          have F8 : (sgnI x (RW 1 x a b) != sgnI x (bits .and .u64 (IntKind.u64.wrap (sgnI x a + sgnI x b)) (T * 2 - 1))) = false := by rw [WE]; simp
          clear hs hu WE
          as_aux_lemma =>
            go_wp2_with (first | (go_at_call 15; refine (lwNumber_any _ _ _ (by first | exact HA.out | exact HB.out | exact WDT.out) HX64.out).mono ?_; rintro e wn ⟨rfl, rfl⟩) | (go_at_call 16; refine (lwTopT _ T _ HT.out HX.out).mono ?_; rintro e wn ⟨rfl, rfl⟩) | (go_at_call 13; refine (ringC _ _ _ _ _ _ _ (by first | exact C1.out | exact C2.out | exact C3.out) (by first | assumption | exact Wid.below (by assumption) (bel_alloc _ _) | exact Wid.below (by assumption) (bel2 _ _ _)) (by decide) (by decide) HA.out HB.out).mono ?_; rintro e wn ⟨vn, rfl, hbn⟩; have hBn : Below w.heap.size w wn := bel_trans (by first | assumption | exact bel_trans (by assumption) (bel_alloc _ _) | exact bel_trans (by assumption) (bel2 _ _ _)) hbn; have hWn := hw.below hBn; clear hbn) | (go_at_call 12; refine (lwDo0 _ _ _ _ _ (by first | assumption | exact Wid.below (by assumption) (bel_alloc _ _) | exact Wid.below (by assumption) (bel2 _ _ _)) (by decide) HA.out HB.out).mono ?_; rintro e wn ⟨rfl, hbn⟩; have hBn : Below w.heap.size w wn := bel_trans (by first | assumption | exact bel_trans (by assumption) (bel_alloc _ _) | exact bel_trans (by assumption) (bel2 _ _ _)) hbn; have hWn := hw.below hBn; clear hbn) | (go_at_call 17; refine (signedI _ _ _ (by first | assumption | exact Wid.below (by assumption) (bel_alloc _ _) | exact Wid.below (by assumption) (bel2 _ _ _)) (isW_RW HX.out)).mono ?_; rintro e wn ⟨rfl, rfl⟩))
            go_roundw
            case rel => exact ⟨2, by omega, by omega, rfl, by assumption⟩
            case measure => simp [intOf]
        · by_cases n2 : T ≤ sgnI x a + sgnI x b
          · have m1 : a + b < T * 2 := by have := RA.out; have := RB.out; omega
            have hs : fitS x (arT 1 (sgnI x a) (sgnI x b)) = false := fitS_T false HT.out (by show _ ↔ (-T ≤ sgnI x a + sgnI x b ∧ sgnI x a + sgnI x b < T); simp; omega)
            have hu : fitU x (arT 1 a b) = true := fitU_T true HT2.out (by show _ ↔ (0 ≤ a + b ∧ a + b < T * 2); simp; omega)
            have C1 : Hid (cdI (NotI 1 1 x a b) = 1) := code1 hs
            have C2 : Hid (cdI (NotI 2 1 x a b) = 0) := code2 hu
            have C3 : Hid (cdI (NotI 3 1 x a b) = 1) := code3 hu hs
            have WE : bits .and .u64 (IntKind.u64.wrap (sgnI x a + sgnI x b)) (T * 2 - 1) = RW 1 x a b := by
              rw [and_mask x.toNat hx1.out _ _ (by rw [HT2.out]) (wrapU_bd _).1 (wrapU_bd _).2]; exact low_bits 1 x a b _ HX.out rfl
            have WDT : Hid (isW x (bits .and .u64 (IntKind.u64.wrap (sgnI x a + sgnI x b)) (T * 2 - 1)) = true) := by rw [WE]; exact isW_RW HX.out
            have F8 : (sgnI x (RW 1 x a b) != sgnI x (bits .and .u64 (IntKind.u64.wrap (sgnI x a + sgnI x b)) (T * 2 - 1))) = false := by rw [WE]; simp
            have WN : bits .and .u64 (sgnI x a + sgnI x b) (T * 2 - 1) = RW 1 x a b := by rw [← WE, IntKind.wrap_u64, Int.emod_eq_of_lt (by omega) (by omega)]
            have WDT2 : Hid (isW x (bits .and .u64 (sgnI x a + sgnI x b) (T * 2 - 1)) = true) := by rw [WN]; exact isW_RW HX.out
            have F9 : (sgnI x (RW 1 x a b) != sgnI x (bits .and .u64 (sgnI x a + sgnI x b) (T * 2 - 1))) = false := by rw [WN]; simp
            clear hs hu WE WN
            as_aux_lemma =>
              go_wp2_with (first | (go_at_call 15; refine (lwNumber_any _ _ _ (by first | exact HA.out | exact HB.out | exact WDT.out | exact WDT2.out) HX64.out).mono ?_; rintro e wn ⟨rfl, rfl⟩) | (go_at_call 16; refine (lwTopT _ T _ HT.out HX.out).mono ?_; rintro e wn ⟨rfl, rfl⟩) | (go_at_call 13; refine (ringC _ _ _ _ _ _ _ (by first | exact C1.out | exact C2.out | exact C3.out) (by first | assumption | exact Wid.below (by assumption) (bel_alloc _ _) | exact Wid.below (by assumption) (bel2 _ _ _)) (by decide) (by decide) HA.out HB.out).mono ?_; rintro e wn ⟨vn, rfl, hbn⟩; have hBn : Below w.heap.size w wn := bel_trans (by first | assumption | exact bel_trans (by assumption) (bel_alloc _ _) | exact bel_trans (by assumption) (bel2 _ _ _)) hbn; have hWn := hw.below hBn; clear hbn) | (go_at_call 12; refine (lwDo0 _ _ _ _ _ (by first | assumption | exact Wid.below (by assumption) (bel_alloc _ _) | exact Wid.below (by assumption) (bel2 _ _ _)) (by decide) HA.out HB.out).mono ?_; rintro e wn ⟨rfl, hbn⟩; have hBn : Below w.heap.size w wn := bel_trans (by first | assumption | exact bel_trans (by assumption) (bel_alloc _ _) | exact bel_trans (by assumption) (bel2 _ _ _)) hbn; have hWn := hw.below hBn; clear hbn) | (go_at_call 17; refine (signedI _ _ _ (by first | assumption | exact Wid.below (by assumption) (bel_alloc _ _) | exact Wid.below (by assumption) (bel2 _ _ _)) (isW_RW HX.out)).mono ?_; rintro e wn ⟨rfl, rfl⟩))
              go_roundw
              case rel => exact ⟨2, by omega, by omega, rfl, by assumption⟩
              case measure => simp [intOf]
          · by_cases m1 : a + b < T * 2
            · have hs : fitS x (arT 1 (sgnI x a) (sgnI x b)) = true := fitS_T true HT.out (by show _ ↔ (-T ≤ sgnI x a + sgnI x b ∧ sgnI x a + sgnI x b < T); simp; omega)
              have hu : fitU x (arT 1 a b) = true := fitU_T true HT2.out (by show _ ↔ (0 ≤ a + b ∧ a + b < T * 2); simp; omega)
              have C1 : Hid (cdI (NotI 1 1 x a b) = 0) := code1 hs
              have C2 : Hid (cdI (NotI 2 1 x a b) = 0) := code2 hu
              have C3 : Hid (cdI (NotI 3 1 x a b) = 0) := code3 hu hs
              have WE : bits .and .u64 (IntKind.u64.wrap (sgnI x a + sgnI x b)) (T * 2 - 1) = RW 1 x a b := by
                rw [and_mask x.toNat hx1.out _ _ (by rw [HT2.out]) (wrapU_bd _).1 (wrapU_bd _).2]; exact low_bits 1 x a b _ HX.out rfl
              have WDT : Hid (isW x (bits .and .u64 (IntKind.u64.wrap (sgnI x a + sgnI x b)) (T * 2 - 1)) = true) := by rw [WE]; exact isW_RW HX.out
              have F8 : (sgnI x (RW 1 x a b) != sgnI x (bits .and .u64 (IntKind.u64.wrap (sgnI x a + sgnI x b)) (T * 2 - 1))) = false := by rw [WE]; simp
              clear hs hu WE
              as_aux_lemma =>
                go_wp2_with (first | (go_at_call 15; refine (lwNumber_any _ _ _ (by first | exact HA.out | exact HB.out | exact WDT.out) HX64.out).mono ?_; rintro e wn ⟨rfl, rfl⟩) | (go_at_call 16; refine (lwTopT _ T _ HT.out HX.out).mono ?_; rintro e wn ⟨rfl, rfl⟩) | (go_at_call 13; refine (ringC _ _ _ _ _ _ _ (by first | exact C1.out | exact C2.out | exact C3.out) (by first | assumption | exact Wid.below (by assumption) (bel_alloc _ _) | exact Wid.below (by assumption) (bel2 _ _ _)) (by decide) (by decide) HA.out HB.out).mono ?_; rintro e wn ⟨vn, rfl, hbn⟩; have hBn : Below w.heap.size w wn := bel_trans (by first | assumption | exact bel_trans (by assumption) (bel_alloc _ _) | exact bel_trans (by assumption) (bel2 _ _ _)) hbn; have hWn := hw.below hBn; clear hbn) | (go_at_call 12; refine (lwDo0 _ _ _ _ _ (by first | assumption | exact Wid.below (by assumption) (bel_alloc _ _) | exact Wid.below (by assumption) (bel2 _ _ _)) (by decide) HA.out HB.out).mono ?_; rintro e wn ⟨rfl, hbn⟩; have hBn : Below w.heap.size w wn := bel_trans (by first | assumption | exact bel_trans (by assumption) (bel_alloc _ _) | exact bel_trans (by assumption) (bel2 _ _ _)) hbn; have hWn := hw.below hBn; clear hbn) | (go_at_call 17; refine (signedI _ _ _ (by first | assumption | exact Wid.below (by assumption) (bel_alloc _ _) | exact Wid.below (by assumption) (bel2 _ _ _)) (isW_RW HX.out)).mono ?_; rintro e wn ⟨rfl, rfl⟩))
                go_roundw
                case rel => exact ⟨2, by omega, by omega, rfl, by assumption⟩
                case measure => simp [intOf]
            · have hs : fitS x (arT 1 (sgnI x a) (sgnI x b)) = true := fitS_T true HT.out (by show _ ↔ (-T ≤ sgnI x a + sgnI x b ∧ sgnI x a + sgnI x b < T); simp; omega)
              have hu : fitU x (arT 1 a b) = false := fitU_T false HT2.out (by show _ ↔ (0 ≤ a + b ∧ a + b < T * 2); simp; omega)
              have C1 : Hid (cdI (NotI 1 1 x a b) = 0) := code1 hs
              have C2 : Hid (cdI (NotI 2 1 x a b) = 1) := code2 hu
              have C3 : Hid (cdI (NotI 3 1 x a b) = 1) := code3 hu hs
              have WE : bits .and .u64 (IntKind.u64.wrap (sgnI x a + sgnI x b)) (T * 2 - 1) = RW 1 x a b := by
                rw [and_mask x.toNat hx1.out _ _ (by rw [HT2.out]) (wrapU_bd _).1 (wrapU_bd _).2]; exact low_bits 1 x a b _ HX.out rfl
              have WDT : Hid (isW x (bits .and .u64 (IntKind.u64.wrap (sgnI x a + sgnI x b)) (T * 2 - 1)) = true) := by rw [WE]; exact isW_RW HX.out
              have F8 : (sgnI x (RW 1 x a b) != sgnI x (bits .and .u64 (IntKind.u64.wrap (sgnI x a + sgnI x b)) (T * 2 - 1))) = false := by rw [WE]; simp
              clear hs hu WE
              as_aux_lemma =>
                go_wp2_with (first | (go_at_call 15; refine (lwNumber_any _ _ _ (by first | exact HA.out | exact HB.out | exact WDT.out) HX64.out).mono ?_; rintro e wn ⟨rfl, rfl⟩) | (go_at_call 16; refine (lwTopT _ T _ HT.out HX.out).mono ?_; rintro e wn ⟨rfl, rfl⟩) | (go_at_call 13; refine (ringC _ _ _ _ _ _ _ (by first | exact C1.out | exact C2.out | exact C3.out) (by first | assumption | exact Wid.below (by assumption) (bel_alloc _ _) | exact Wid.below (by assumption) (bel2 _ _ _)) (by decide) (by decide) HA.out HB.out).mono ?_; rintro e wn ⟨vn, rfl, hbn⟩; have hBn : Below w.heap.size w wn := bel_trans (by first | assumption | exact bel_trans (by assumption) (bel_alloc _ _) | exact bel_trans (by assumption) (bel2 _ _ _)) hbn; have hWn := hw.below hBn; clear hbn) | (go_at_call 12; refine (lwDo0 _ _ _ _ _ (by first | assumption | exact Wid.below (by assumption) (bel_alloc _ _) | exact Wid.below (by assumption) (bel2 _ _ _)) (by decide) HA.out HB.out).mono ?_; rintro e wn ⟨rfl, hbn⟩; have hBn : Below w.heap.size w wn := bel_trans (by first | assumption | exact bel_trans (by assumption) (bel_alloc _ _) | exact bel_trans (by assumption) (bel2 _ _ _)) hbn; have hWn := hw.below hBn; clear hbn) | (go_at_call 17; refine (signedI _ _ _ (by first | assumption | exact Wid.below (by assumption) (bel_alloc _ _) | exact Wid.below (by assumption) (bel2 _ _ _)) (isW_RW HX.out)).mono ?_; rintro e wn ⟨rfl, rfl⟩))
                go_roundw
                case rel => exact ⟨2, by omega, by omega, rfl, by assumption⟩
                case measure => simp [intOf]
      · by_cases n1 : sgnI x a - sgnI x b < -T
        · have m1 : 0 ≤ a - b := by have := RA.out; have := RB.out; omega
          have hs : fitS x (arT 2 (sgnI x a) (sgnI x b)) = false := fitS_T false HT.out (by show _ ↔ (-T ≤ sgnI x a - sgnI x b ∧ sgnI x a - sgnI x b < T); simp; omega)
          have hu : fitU x (arT 2 a b) = true := fitU_T true HT2.out (by show _ ↔ (0 ≤ a - b ∧ a - b < T * 2); simp; omega)
          have C1 : Hid (cdI (NotI 1 2 x a b) = 1) := code1 hs
          have C2 : Hid (cdI (NotI 2 2 x a b) = 0) := code2 hu
          have C3 : Hid (cdI (NotI 3 2 x a b) = 1) := code3 hu hs
          have WE : bits .and .u64 (IntKind.u64.wrap (sgnI x a - sgnI x b)) (T * 2 - 1) = RW 2 x a b := by
            rw [and_mask x.toNat hx1.out _ _ (by rw [HT2.out]) (wrapU_bd _).1 (wrapU_bd _).2]; exact low_bits 2 x a b _ HX.out rfl
          have WDT : Hid (isW x (bits .and .u64 (IntKind.u64.wrap (sgnI x a - sgnI x b)) (T * 2 - 1)) = true) := by rw [WE]; exact isW_RW HX.out
          have F8 : (sgnI x (RW 2 x a b) != sgnI x (bits .and .u64 (IntKind.u64.wrap (sgnI x a - sgnI x b)) (T * 2 - 1))) = false := by rw [WE]; simp
          clear hs hu WE
          as_aux_lemma =>
            go_wp2_with (first | (go_at_call 15; refine (lwNumber_any _ _ _ (by first | exact HA.out | exact HB.out | exact WDT.out) HX64.out).mono ?_; rintro e wn ⟨rfl, rfl⟩) | (go_at_call 16; refine (lwTopT _ T _ HT.out HX.out).mono ?_; rintro e wn ⟨rfl, rfl⟩) | (go_at_call 13; refine (ringC _ _ _ _ _ _ _ (by first | exact C1.out | exact C2.out | exact C3.out) (by first | assumption | exact Wid.below (by assumption) (bel_alloc _ _) | exact Wid.below (by assumption) (bel2 _ _ _)) (by decide) (by decide) HA.out HB.out).mono ?_; rintro e wn ⟨vn, rfl, hbn⟩; have hBn : Below w.heap.size w wn := bel_trans (by first | assumption | exact bel_trans (by assumption) (bel_alloc _ _) | exact bel_trans (by assumption) (bel2 _ _ _)) hbn; have hWn := hw.below hBn; clear hbn) | (go_at_call 12; refine (lwDo0 _ _ _ _ _ (by first | assumption | exact Wid.below (by assumption) (bel_alloc _ _) | exact Wid.below (by assumption) (bel2 _ _ _)) (by decide) HA.out HB.out).mono ?_; rintro e wn ⟨rfl, hbn⟩; have hBn : Below w.heap.size w wn := bel_trans (by first | assumption | exact bel_trans (by assumption) (bel_alloc _ _) | exact bel_trans (by assumption) (bel2 _ _ _)) hbn; have hWn := hw.below hBn; clear hbn) | (go_at_call 17; refine (signedI _ _ _ (by first | assumption | exact Wid.below (by assumption) (bel_alloc _ _) | exact Wid.below (by assumption) (bel2 _ _ _)) (isW_RW HX.out)).mono ?_; rintro e wn ⟨rfl, rfl⟩))
            go_roundw
            case rel => exact ⟨3, by omega, by omega, rfl, by assumption⟩
            case measure => simp [intOf]
        · by_cases n2 : T ≤ sgnI x a - sgnI x b
          · have m1 : a - b < 0 := by have := RA.out; have := RB.out; omega
            have hs : fitS x (arT 2 (sgnI x a) (sgnI x b)) = false := fitS_T false HT.out (by show _ ↔ (-T ≤ sgnI x a - sgnI x b ∧ sgnI x a - sgnI x b < T); simp; omega)
            have hu : fitU x (arT 2 a b) = false := fitU_T false HT2.out (by show _ ↔ (0 ≤ a - b ∧ a - b < T * 2); simp; omega)
            have C1 : Hid (cdI (NotI 1 2 x a b) = 1) := code1 hs
            have C2 : Hid (cdI (NotI 2 2 x a b) = 1) := code2 hu
            have C3 : Hid (cdI (NotI 3 2 x a b) = 1) := code3 hu hs
            have WE : bits .and .u64 (IntKind.u64.wrap (sgnI x a - sgnI x b)) (T * 2 - 1) = RW 2 x a b := by
              rw [and_mask x.toNat hx1.out _ _ (by rw [HT2.out]) (wrapU_bd _).1 (wrapU_bd _).2]; exact low_bits 2 x a b _ HX.out rfl
            have WDT : Hid (isW x (bits .and .u64 (IntKind.u64.wrap (sgnI x a - sgnI x b)) (T * 2 - 1)) = true) := by rw [WE]; exact isW_RW HX.out
            have F8 : (sgnI x (RW 2 x a b) != sgnI x (bits .and .u64 (IntKind.u64.wrap (sgnI x a - sgnI x b)) (T * 2 - 1))) = false := by rw [WE]; simp
            have WN : bits .and .u64 (sgnI x a - sgnI x b) (T * 2 - 1) = RW 2 x a b := by rw [← WE, IntKind.wrap_u64, Int.emod_eq_of_lt (by omega) (by omega)]
            have WDT2 : Hid (isW x (bits .and .u64 (sgnI x a - sgnI x b) (T * 2 - 1)) = true) := by rw [WN]; exact isW_RW HX.out
            have F9 : (sgnI x (RW 2 x a b) != sgnI x (bits .and .u64 (sgnI x a - sgnI x b) (T * 2 - 1))) = false := by rw [WN]; simp
            clear hs hu WE WN
            as_aux_lemma =>
              go_wp2_with (first | (go_at_call 15; refine (lwNumber_any _ _ _ (by first | exact HA.out | exact HB.out | exact WDT.out | exact WDT2.out) HX64.out).mono ?_; rintro e wn ⟨rfl, rfl⟩) | (go_at_call 16; refine (lwTopT _ T _ HT.out HX.out).mono ?_; rintro e wn ⟨rfl, rfl⟩) | (go_at_call 13; refine (ringC _ _ _ _ _ _ _ (by first | exact C1.out | exact C2.out | exact C3.out) (by first | assumption | exact Wid.below (by assumption) (bel_alloc _ _) | exact Wid.below (by assumption) (bel2 _ _ _)) (by decide) (by decide) HA.out HB.out).mono ?_; rintro e wn ⟨vn, rfl, hbn⟩; have hBn : Below w.heap.size w wn := bel_trans (by first | assumption | exact bel_trans (by assumption) (bel_alloc _ _) | exact bel_trans (by assumption) (bel2 _ _ _)) hbn; have hWn := hw.below hBn; clear hbn) | (go_at_call 12; refine (lwDo0 _ _ _ _ _ (by first | assumption | exact Wid.below (by assumption) (bel_alloc _ _) | exact Wid.below (by assumption) (bel2 _ _ _)) (by decide) HA.out HB.out).mono ?_; rintro e wn ⟨rfl, hbn⟩; have hBn : Below w.heap.size w wn := bel_trans (by first | assumption | exact bel_trans (by assumption) (bel_alloc _ _) | exact bel_trans (by assumption) (bel2 _ _ _)) hbn; have hWn := hw.below hBn; clear hbn) | (go_at_call 17; refine (signedI _ _ _ (by first | assumption | exact Wid.below (by assumption) (bel_alloc _ _) | exact Wid.below (by assumption) (bel2 _ _ _)) (isW_RW HX.out)).mono ?_; rintro e wn ⟨rfl, rfl⟩))
              go_roundw
              case rel => exact ⟨3, by omega, by omega, rfl, by assumption⟩
              case measure => simp [intOf]
          · by_cases m1 : 0 ≤ a - b
            · have hs : fitS x (arT 2 (sgnI x a) (sgnI x b)) = true := fitS_T true HT.out (by show _ ↔ (-T ≤ sgnI x a - sgnI x b ∧ sgnI x a - sgnI x b < T); simp; omega)
              have hu : fitU x (arT 2 a b) = true := fitU_T true HT2.out (by show _ ↔ (0 ≤ a - b ∧ a - b < T * 2); simp; omega)
              have C1 : Hid (cdI (NotI 1 2 x a b) = 0) := code1 hs
              have C2 : Hid (cdI (NotI 2 2 x a b) = 0) := code2 hu
              have C3 : Hid (cdI (NotI 3 2 x a b) = 0) := code3 hu hs
              have WE : bits .and .u64 (IntKind.u64.wrap (sgnI x a - sgnI x b)) (T * 2 - 1) = RW 2 x a b := by
                rw [and_mask x.toNat hx1.out _ _ (by rw [HT2.out]) (wrapU_bd _).1 (wrapU_bd _).2]; exact low_bits 2 x a b _ HX.out rfl
              have WDT : Hid (isW x (bits .and .u64 (IntKind.u64.wrap (sgnI x a - sgnI x b)) (T * 2 - 1)) = true) := by rw [WE]; exact isW_RW HX.out
              have F8 : (sgnI x (RW 2 x a b) != sgnI x (bits .and .u64 (IntKind.u64.wrap (sgnI x a - sgnI x b)) (T * 2 - 1))) = false := by rw [WE]; simp
              clear hs hu WE
              as_aux_lemma =>
                go_wp2_with (first | (go_at_call 15; refine (lwNumber_any _ _ _ (by first | exact HA.out | exact HB.out | exact WDT.out) HX64.out).mono ?_; rintro e wn ⟨rfl, rfl⟩) | (go_at_call 16; refine (lwTopT _ T _ HT.out HX.out).mono ?_; rintro e wn ⟨rfl, rfl⟩) | (go_at_call 13; refine (ringC _ _ _ _ _ _ _ (by first | exact C1.out | exact C2.out | exact C3.out) (by first | assumption | exact Wid.below (by assumption) (bel_alloc _ _) | exact Wid.below (by assumption) (bel2 _ _ _)) (by decide) (by decide) HA.out HB.out).mono ?_; rintro e wn ⟨vn, rfl, hbn⟩; have hBn : Below w.heap.size w wn := bel_trans (by first | assumption | exact bel_trans (by assumption) (bel_alloc _ _) | exact bel_trans (by assumption) (bel2 _ _ _)) hbn; have hWn := hw.below hBn; clear hbn) | (go_at_call 12; refine (lwDo0 _ _ _ _ _ (by first | assumption | exact Wid.below (by assumption) (bel_alloc _ _) | exact Wid.below (by assumption) (bel2 _ _ _)) (by decide) HA.out HB.out).mono ?_; rintro e wn ⟨rfl, hbn⟩; have hBn : Below w.heap.size w wn := bel_trans (by first | assumption | exact bel_trans (by assumption) (bel_alloc _ _) | exact bel_trans (by assumption) (bel2 _ _ _)) hbn; have hWn := hw.below hBn; clear hbn) | (go_at_call 17; refine (signedI _ _ _ (by first | assumption | exact Wid.below (by assumption) (bel_alloc _ _) | exact Wid.below (by assumption) (bel2 _ _ _)) (isW_RW HX.out)).mono ?_; rintro e wn ⟨rfl, rfl⟩))
                go_roundw
                case rel => exact ⟨3, by omega, by omega, rfl, by assumption⟩
                case measure => simp [intOf]
            · have hs : fitS x (arT 2 (sgnI x a) (sgnI x b)) = true := fitS_T true HT.out (by show _ ↔ (-T ≤ sgnI x a - sgnI x b ∧ sgnI x a - sgnI x b < T); simp; omega)
              have hu : fitU x (arT 2 a b) = false := fitU_T false HT2.out (by show _ ↔ (0 ≤ a - b ∧ a - b < T * 2); simp; omega)
              have C1 : Hid (cdI (NotI 1 2 x a b) = 0) := code1 hs
              have C2 : Hid (cdI (NotI 2 2 x a b) = 1) := code2 hu
              have C3 : Hid (cdI (NotI 3 2 x a b) = 1) := code3 hu hs
              have WE : bits .and .u64 (IntKind.u64.wrap (sgnI x a - sgnI x b)) (T * 2 - 1) = RW 2 x a b := by
                rw [and_mask x.toNat hx1.out _ _ (by rw [HT2.out]) (wrapU_bd _).1 (wrapU_bd _).2]; exact low_bits 2 x a b _ HX.out rfl
              have WDT : Hid (isW x (bits .and .u64 (IntKind.u64.wrap (sgnI x a - sgnI x b)) (T * 2 - 1)) = true) := by rw [WE]; exact isW_RW HX.out
              have F8 : (sgnI x (RW 2 x a b) != sgnI x (bits .and .u64 (IntKind.u64.wrap (sgnI x a - sgnI x b)) (T * 2 - 1))) = false := by rw [WE]; simp
              clear hs hu WE
              as_aux_lemma =>
                go_wp2_with (first | (go_at_call 15; refine (lwNumber_any _ _ _ (by first | exact HA.out | exact HB.out | exact WDT.out) HX64.out).mono ?_; rintro e wn ⟨rfl, rfl⟩) | (go_at_call 16; refine (lwTopT _ T _ HT.out HX.out).mono ?_; rintro e wn ⟨rfl, rfl⟩) | (go_at_call 13; refine (ringC _ _ _ _ _ _ _ (by first | exact C1.out | exact C2.out | exact C3.out) (by first | assumption | exact Wid.below (by assumption) (bel_alloc _ _) | exact Wid.below (by assumption) (bel2 _ _ _)) (by decide) (by decide) HA.out HB.out).mono ?_; rintro e wn ⟨vn, rfl, hbn⟩; have hBn : Below w.heap.size w wn := bel_trans (by first | assumption | exact bel_trans (by assumption) (bel_alloc _ _) | exact bel_trans (by assumption) (bel2 _ _ _)) hbn; have hWn := hw.below hBn; clear hbn) | (go_at_call 12; refine (lwDo0 _ _ _ _ _ (by first | assumption | exact Wid.below (by assumption) (bel_alloc _ _) | exact Wid.below (by assumption) (bel2 _ _ _)) (by decide) HA.out HB.out).mono ?_; rintro e wn ⟨rfl, hbn⟩; have hBn : Below w.heap.size w wn := bel_trans (by first | assumption | exact bel_trans (by assumption) (bel_alloc _ _) | exact bel_trans (by assumption) (bel2 _ _ _)) hbn; have hWn := hw.below hBn; clear hbn) | (go_at_call 17; refine (signedI _ _ _ (by first | assumption | exact Wid.below (by assumption) (bel_alloc _ _) | exact Wid.below (by assumption) (bel2 _ _ _)) (isW_RW HX.out)).mono ?_; rintro e wn ⟨rfl, rfl⟩))
                go_roundw
                case rel => exact ⟨3, by omega, by omega, rfl, by assumption⟩
                case measure => simp [intOf]
      · by_cases bz : b = 0
        · have bz1 : (b != 0) = false := by simp [bz]
          have zs : sgnI x b = 0 := by have := RB.out; omega
          have zN : sgnI x a * sgnI x b = 0 := by rw [zs]; simp
          have n1 : -T ≤ sgnI x a * sgnI x b := by omega
          have n2 : sgnI x a * sgnI x b < T := by omega
          have hu : fitU x (arT 3 a b) = true := fitU_T true HT2.out (by show _ ↔ (0 ≤ a * b ∧ a * b < T * 2); rw [bz]; simp; omega)
          clear zs zN bz
          have hs : fitS x (arT 3 (sgnI x a) (sgnI x b)) = true := fitS_T true HT.out (by show _ ↔ (-T ≤ sgnI x a * sgnI x b ∧ sgnI x a * sgnI x b < T); simp; omega)
          have C1 : Hid (cdI (NotI 1 3 x a b) = 0) := code1 hs
          have C2 : Hid (cdI (NotI 2 3 x a b) = 0) := code2 hu
          have C3 : Hid (cdI (NotI 3 3 x a b) = 0) := code3 hu hs
          have WE : bits .and .u64 (IntKind.u64.wrap (sgnI x a * sgnI x b)) (T * 2 - 1) = RW 3 x a b := by
            rw [and_mask x.toNat hx1.out _ _ (by rw [HT2.out]) (wrapU_bd _).1 (wrapU_bd _).2]; exact low_bits 3 x a b _ HX.out rfl
          have WDT : Hid (isW x (bits .and .u64 (IntKind.u64.wrap (sgnI x a * sgnI x b)) (T * 2 - 1)) = true) := by rw [WE]; exact isW_RW HX.out
          have F8 : (sgnI x (RW 3 x a b) != sgnI x (bits .and .u64 (IntKind.u64.wrap (sgnI x a * sgnI x b)) (T * 2 - 1))) = false := by rw [WE]; simp
          clear hs hu WE
          as_aux_lemma =>
            go_wp2_with (first | (go_at_call 15; refine (lwNumber_any _ _ _ (by first | exact HA.out | exact HB.out | exact WDT.out) HX64.out).mono ?_; rintro e wn ⟨rfl, rfl⟩) | (go_at_call 16; refine (lwTopT _ T _ HT.out HX.out).mono ?_; rintro e wn ⟨rfl, rfl⟩) | (go_at_call 13; refine (ringC _ _ _ _ _ _ _ (by first | exact C1.out | exact C2.out | exact C3.out) (by first | assumption | exact Wid.below (by assumption) (bel_alloc _ _) | exact Wid.below (by assumption) (bel2 _ _ _)) (by decide) (by decide) HA.out HB.out).mono ?_; rintro e wn ⟨vn, rfl, hbn⟩; have hBn : Below w.heap.size w wn := bel_trans (by first | assumption | exact bel_trans (by assumption) (bel_alloc _ _) | exact bel_trans (by assumption) (bel2 _ _ _)) hbn; have hWn := hw.below hBn; clear hbn) | (go_at_call 12; refine (lwDo0 _ _ _ _ _ (by first | assumption | exact Wid.below (by assumption) (bel_alloc _ _) | exact Wid.below (by assumption) (bel2 _ _ _)) (by decide) HA.out HB.out).mono ?_; rintro e wn ⟨rfl, hbn⟩; have hBn : Below w.heap.size w wn := bel_trans (by first | assumption | exact bel_trans (by assumption) (bel_alloc _ _) | exact bel_trans (by assumption) (bel2 _ _ _)) hbn; have hWn := hw.below hBn; clear hbn) | (go_at_call 17; refine (signedI _ _ _ (by first | assumption | exact Wid.below (by assumption) (bel_alloc _ _) | exact Wid.below (by assumption) (bel2 _ _ _)) (isW_RW HX.out)).mono ?_; rintro e wn ⟨rfl, rfl⟩))
            go_roundw
            case rel => exact ⟨4, by omega, by omega, rfl, by assumption⟩
            case measure => simp [intOf]
        · have bz1 : (b != 0) = true := by simp [bz]
          have bp : 0 < b := by omega
          have MU : Hid ((0 ≤ a * b ∧ a * b < T * 2) ↔ a ≤ (T * 2 - 1) / b) := mulU_in a0 bp (by omega)
          by_cases m1 : a ≤ (T * 2 - 1) / b
          · by_cases n1 : sgnI x a * sgnI x b < -T
            · have hs : fitS x (arT 3 (sgnI x a) (sgnI x b)) = false := fitS_T false HT.out (by show _ ↔ (-T ≤ sgnI x a * sgnI x b ∧ sgnI x a * sgnI x b < T); simp; omega)
              have hu : fitU x (arT 3 a b) = true := fitU_T true HT2.out (by show _ ↔ (0 ≤ a * b ∧ a * b < T * 2); rw [MU.out]; simp; exact m1)
              have C1 : Hid (cdI (NotI 1 3 x a b) = 1) := code1 hs
              have C2 : Hid (cdI (NotI 2 3 x a b) = 0) := code2 hu
              have C3 : Hid (cdI (NotI 3 3 x a b) = 1) := code3 hu hs
              have WE : bits .and .u64 (IntKind.u64.wrap (sgnI x a * sgnI x b)) (T * 2 - 1) = RW 3 x a b := by
                rw [and_mask x.toNat hx1.out _ _ (by rw [HT2.out]) (wrapU_bd _).1 (wrapU_bd _).2]; exact low_bits 3 x a b _ HX.out rfl
              have WDT : Hid (isW x (bits .and .u64 (IntKind.u64.wrap (sgnI x a * sgnI x b)) (T * 2 - 1)) = true) := by rw [WE]; exact isW_RW HX.out
              have F8 : (sgnI x (RW 3 x a b) != sgnI x (bits .and .u64 (IntKind.u64.wrap (sgnI x a * sgnI x b)) (T * 2 - 1))) = false := by rw [WE]; simp
              clear hs hu WE
              as_aux_lemma =>
                go_wp2_with (first | (go_at_call 15; refine (lwNumber_any _ _ _ (by first | exact HA.out | exact HB.out | exact WDT.out) HX64.out).mono ?_; rintro e wn ⟨rfl, rfl⟩) | (go_at_call 16; refine (lwTopT _ T _ HT.out HX.out).mono ?_; rintro e wn ⟨rfl, rfl⟩) | (go_at_call 13; refine (ringC _ _ _ _ _ _ _ (by first | exact C1.out | exact C2.out | exact C3.out) (by first | assumption | exact Wid.below (by assumption) (bel_alloc _ _) | exact Wid.below (by assumption) (bel2 _ _ _)) (by decide) (by decide) HA.out HB.out).mono ?_; rintro e wn ⟨vn, rfl, hbn⟩; have hBn : Below w.heap.size w wn := bel_trans (by first | assumption | exact bel_trans (by assumption) (bel_alloc _ _) | exact bel_trans (by assumption) (bel2 _ _ _)) hbn; have hWn := hw.below hBn; clear hbn) | (go_at_call 12; refine (lwDo0 _ _ _ _ _ (by first | assumption | exact Wid.below (by assumption) (bel_alloc _ _) | exact Wid.below (by assumption) (bel2 _ _ _)) (by decide) HA.out HB.out).mono ?_; rintro e wn ⟨rfl, hbn⟩; have hBn : Below w.heap.size w wn := bel_trans (by first | assumption | exact bel_trans (by assumption) (bel_alloc _ _) | exact bel_trans (by assumption) (bel2 _ _ _)) hbn; have hWn := hw.below hBn; clear hbn) | (go_at_call 17; refine (signedI _ _ _ (by first | assumption | exact Wid.below (by assumption) (bel_alloc _ _) | exact Wid.below (by assumption) (bel2 _ _ _)) (isW_RW HX.out)).mono ?_; rintro e wn ⟨rfl, rfl⟩))
                go_roundw
                case rel => exact ⟨4, by omega, by omega, rfl, by assumption⟩
                case measure => simp [intOf]
            · by_cases n2 : T ≤ sgnI x a * sgnI x b
              · have hs : fitS x (arT 3 (sgnI x a) (sgnI x b)) = false := fitS_T false HT.out (by show _ ↔ (-T ≤ sgnI x a * sgnI x b ∧ sgnI x a * sgnI x b < T); simp; omega)
                have hu : fitU x (arT 3 a b) = true := fitU_T true HT2.out (by show _ ↔ (0 ≤ a * b ∧ a * b < T * 2); rw [MU.out]; simp; exact m1)
                have C1 : Hid (cdI (NotI 1 3 x a b) = 1) := code1 hs
                have C2 : Hid (cdI (NotI 2 3 x a b) = 0) := code2 hu
                have C3 : Hid (cdI (NotI 3 3 x a b) = 1) := code3 hu hs
                have WE : bits .and .u64 (IntKind.u64.wrap (sgnI x a * sgnI x b)) (T * 2 - 1) = RW 3 x a b := by
                  rw [and_mask x.toNat hx1.out _ _ (by rw [HT2.out]) (wrapU_bd _).1 (wrapU_bd _).2]; exact low_bits 3 x a b _ HX.out rfl
                have WDT : Hid (isW x (bits .and .u64 (IntKind.u64.wrap (sgnI x a * sgnI x b)) (T * 2 - 1)) = true) := by rw [WE]; exact isW_RW HX.out
                have F8 : (sgnI x (RW 3 x a b) != sgnI x (bits .and .u64 (IntKind.u64.wrap (sgnI x a * sgnI x b)) (T * 2 - 1))) = false := by rw [WE]; simp
                have WN : bits .and .u64 (sgnI x a * sgnI x b) (T * 2 - 1) = RW 3 x a b := by rw [← WE, IntKind.wrap_u64, Int.emod_eq_of_lt (by omega) (by omega)]
                have WDT2 : Hid (isW x (bits .and .u64 (sgnI x a * sgnI x b) (T * 2 - 1)) = true) := by rw [WN]; exact isW_RW HX.out
                have F9 : (sgnI x (RW 3 x a b) != sgnI x (bits .and .u64 (sgnI x a * sgnI x b) (T * 2 - 1))) = false := by rw [WN]; simp
                clear hs hu WE WN
                as_aux_lemma =>
                  go_wp2_with (first | (go_at_call 15; refine (lwNumber_any _ _ _ (by first | exact HA.out | exact HB.out | exact WDT.out | exact WDT2.out) HX64.out).mono ?_; rintro e wn ⟨rfl, rfl⟩) | (go_at_call 16; refine (lwTopT _ T _ HT.out HX.out).mono ?_; rintro e wn ⟨rfl, rfl⟩) | (go_at_call 13; refine (ringC _ _ _ _ _ _ _ (by first | exact C1.out | exact C2.out | exact C3.out) (by first | assumption | exact Wid.below (by assumption) (bel_alloc _ _) | exact Wid.below (by assumption) (bel2 _ _ _)) (by decide) (by decide) HA.out HB.out).mono ?_; rintro e wn ⟨vn, rfl, hbn⟩; have hBn : Below w.heap.size w wn := bel_trans (by first | assumption | exact bel_trans (by assumption) (bel_alloc _ _) | exact bel_trans (by assumption) (bel2 _ _ _)) hbn; have hWn := hw.below hBn; clear hbn) | (go_at_call 12; refine (lwDo0 _ _ _ _ _ (by first | assumption | exact Wid.below (by assumption) (bel_alloc _ _) | exact Wid.below (by assumption) (bel2 _ _ _)) (by decide) HA.out HB.out).mono ?_; rintro e wn ⟨rfl, hbn⟩; have hBn : Below w.heap.size w wn := bel_trans (by first | assumption | exact bel_trans (by assumption) (bel_alloc _ _) | exact bel_trans (by assumption) (bel2 _ _ _)) hbn; have hWn := hw.below hBn; clear hbn) | (go_at_call 17; refine (signedI _ _ _ (by first | assumption | exact Wid.below (by assumption) (bel_alloc _ _) | exact Wid.below (by assumption) (bel2 _ _ _)) (isW_RW HX.out)).mono ?_; rintro e wn ⟨rfl, rfl⟩))
                  go_roundw
                  case rel => exact ⟨4, by omega, by omega, rfl, by assumption⟩
                  case measure => simp [intOf]
              · have hs : fitS x (arT 3 (sgnI x a) (sgnI x b)) = true := fitS_T true HT.out (by show _ ↔ (-T ≤ sgnI x a * sgnI x b ∧ sgnI x a * sgnI x b < T); simp; omega)
                have hu : fitU x (arT 3 a b) = true := fitU_T true HT2.out (by show _ ↔ (0 ≤ a * b ∧ a * b < T * 2); rw [MU.out]; simp; exact m1)
                have C1 : Hid (cdI (NotI 1 3 x a b) = 0) := code1 hs
                have C2 : Hid (cdI (NotI 2 3 x a b) = 0) := code2 hu
                have C3 : Hid (cdI (NotI 3 3 x a b) = 0) := code3 hu hs
                have WE : bits .and .u64 (IntKind.u64.wrap (sgnI x a * sgnI x b)) (T * 2 - 1) = RW 3 x a b := by
                  rw [and_mask x.toNat hx1.out _ _ (by rw [HT2.out]) (wrapU_bd _).1 (wrapU_bd _).2]; exact low_bits 3 x a b _ HX.out rfl
                have WDT : Hid (isW x (bits .and .u64 (IntKind.u64.wrap (sgnI x a * sgnI x b)) (T * 2 - 1)) = true) := by rw [WE]; exact isW_RW HX.out
                have F8 : (sgnI x (RW 3 x a b) != sgnI x (bits .and .u64 (IntKind.u64.wrap (sgnI x a * sgnI x b)) (T * 2 - 1))) = false := by rw [WE]; simp
                clear hs hu WE
                as_aux_lemma =>
                  go_wp2_with (first | (go_at_call 15; refine (lwNumber_any _ _ _ (by first | exact HA.out | exact HB.out | exact WDT.out) HX64.out).mono ?_; rintro e wn ⟨rfl, rfl⟩) | (go_at_call 16; refine (lwTopT _ T _ HT.out HX.out).mono ?_; rintro e wn ⟨rfl, rfl⟩) | (go_at_call 13; refine (ringC _ _ _ _ _ _ _ (by first | exact C1.out | exact C2.out | exact C3.out) (by first | assumption | exact Wid.below (by assumption) (bel_alloc _ _) | exact Wid.below (by assumption) (bel2 _ _ _)) (by decide) (by decide) HA.out HB.out).mono ?_; rintro e wn ⟨vn, rfl, hbn⟩; have hBn : Below w.heap.size w wn := bel_trans (by first | assumption | exact bel_trans (by assumption) (bel_alloc _ _) | exact bel_trans (by assumption) (bel2 _ _ _)) hbn; have hWn := hw.below hBn; clear hbn) | (go_at_call 12; refine (lwDo0 _ _ _ _ _ (by first | assumption | exact Wid.below (by assumption) (bel_alloc _ _) | exact Wid.below (by assumption) (bel2 _ _ _)) (by decide) HA.out HB.out).mono ?_; rintro e wn ⟨rfl, hbn⟩; have hBn : Below w.heap.size w wn := bel_trans (by first | assumption | exact bel_trans (by assumption) (bel_alloc _ _) | exact bel_trans (by assumption) (bel2 _ _ _)) hbn; have hWn := hw.below hBn; clear hbn) | (go_at_call 17; refine (signedI _ _ _ (by first | assumption | exact Wid.below (by assumption) (bel_alloc _ _) | exact Wid.below (by assumption) (bel2 _ _ _)) (isW_RW HX.out)).mono ?_; rintro e wn ⟨rfl, rfl⟩))
                  go_roundw
                  case rel => exact ⟨4, by omega, by omega, rfl, by assumption⟩
                  case measure => simp [intOf]
          · by_cases n1 : sgnI x a * sgnI x b < -T
            · have hs : fitS x (arT 3 (sgnI x a) (sgnI x b)) = false := fitS_T false HT.out (by show _ ↔ (-T ≤ sgnI x a * sgnI x b ∧ sgnI x a * sgnI x b < T); simp; omega)
              have hu : fitU x (arT 3 a b) = false := fitU_T false HT2.out (by show _ ↔ (0 ≤ a * b ∧ a * b < T * 2); rw [MU.out]; simp; omega)
              have C1 : Hid (cdI (NotI 1 3 x a b) = 1) := code1 hs
              have C2 : Hid (cdI (NotI 2 3 x a b) = 1) := code2 hu
              have C3 : Hid (cdI (NotI 3 3 x a b) = 1) := code3 hu hs
              have WE : bits .and .u64 (IntKind.u64.wrap (sgnI x a * sgnI x b)) (T * 2 - 1) = RW 3 x a b := by
                rw [and_mask x.toNat hx1.out _ _ (by rw [HT2.out]) (wrapU_bd _).1 (wrapU_bd _).2]; exact low_bits 3 x a b _ HX.out rfl
              have WDT : Hid (isW x (bits .and .u64 (IntKind.u64.wrap (sgnI x a * sgnI x b)) (T * 2 - 1)) = true) := by rw [WE]; exact isW_RW HX.out
              have F8 : (sgnI x (RW 3 x a b) != sgnI x (bits .and .u64 (IntKind.u64.wrap (sgnI x a * sgnI x b)) (T * 2 - 1))) = false := by rw [WE]; simp
              clear hs hu WE
              as_aux_lemma =>
                go_wp2_with (first | (go_at_call 15; refine (lwNumber_any _ _ _ (by first | exact HA.out | exact HB.out | exact WDT.out) HX64.out).mono ?_; rintro e wn ⟨rfl, rfl⟩) | (go_at_call 16; refine (lwTopT _ T _ HT.out HX.out).mono ?_; rintro e wn ⟨rfl, rfl⟩) | (go_at_call 13; refine (ringC _ _ _ _ _ _ _ (by first | exact C1.out | exact C2.out | exact C3.out) (by first | assumption | exact Wid.below (by assumption) (bel_alloc _ _) | exact Wid.below (by assumption) (bel2 _ _ _)) (by decide) (by decide) HA.out HB.out).mono ?_; rintro e wn ⟨vn, rfl, hbn⟩; have hBn : Below w.heap.size w wn := bel_trans (by first | assumption | exact bel_trans (by assumption) (bel_alloc _ _) | exact bel_trans (by assumption) (bel2 _ _ _)) hbn; have hWn := hw.below hBn; clear hbn) | (go_at_call 12; refine (lwDo0 _ _ _ _ _ (by first | assumption | exact Wid.below (by assumption) (bel_alloc _ _) | exact Wid.below (by assumption) (bel2 _ _ _)) (by decide) HA.out HB.out).mono ?_; rintro e wn ⟨rfl, hbn⟩; have hBn : Below w.heap.size w wn := bel_trans (by first | assumption | exact bel_trans (by assumption) (bel_alloc _ _) | exact bel_trans (by assumption) (bel2 _ _ _)) hbn; have hWn := hw.below hBn; clear hbn) | (go_at_call 17; refine (signedI _ _ _ (by first | assumption | exact Wid.below (by assumption) (bel_alloc _ _) | exact Wid.below (by assumption) (bel2 _ _ _)) (isW_RW HX.out)).mono ?_; rintro e wn ⟨rfl, rfl⟩))
                go_roundw
                case rel => exact ⟨4, by omega, by omega, rfl, by assumption⟩
                case measure => simp [intOf]
            · by_cases n2 : T ≤ sgnI x a * sgnI x b
              · have hs : fitS x (arT 3 (sgnI x a) (sgnI x b)) = false := fitS_T false HT.out (by show _ ↔ (-T ≤ sgnI x a * sgnI x b ∧ sgnI x a * sgnI x b < T); simp; omega)
                have hu : fitU x (arT 3 a b) = false := fitU_T false HT2.out (by show _ ↔ (0 ≤ a * b ∧ a * b < T * 2); rw [MU.out]; simp; omega)
                have C1 : Hid (cdI (NotI 1 3 x a b) = 1) := code1 hs
                have C2 : Hid (cdI (NotI 2 3 x a b) = 1) := code2 hu
                have C3 : Hid (cdI (NotI 3 3 x a b) = 1) := code3 hu hs
                have WE : bits .and .u64 (IntKind.u64.wrap (sgnI x a * sgnI x b)) (T * 2 - 1) = RW 3 x a b := by
                  rw [and_mask x.toNat hx1.out _ _ (by rw [HT2.out]) (wrapU_bd _).1 (wrapU_bd _).2]; exact low_bits 3 x a b _ HX.out rfl
                have WDT : Hid (isW x (bits .and .u64 (IntKind.u64.wrap (sgnI x a * sgnI x b)) (T * 2 - 1)) = true) := by rw [WE]; exact isW_RW HX.out
                have F8 : (sgnI x (RW 3 x a b) != sgnI x (bits .and .u64 (IntKind.u64.wrap (sgnI x a * sgnI x b)) (T * 2 - 1))) = false := by rw [WE]; simp
                have WN : bits .and .u64 (sgnI x a * sgnI x b) (T * 2 - 1) = RW 3 x a b := by rw [← WE, IntKind.wrap_u64, Int.emod_eq_of_lt (by omega) (by omega)]
                have WDT2 : Hid (isW x (bits .and .u64 (sgnI x a * sgnI x b) (T * 2 - 1)) = true) := by rw [WN]; exact isW_RW HX.out
                have F9 : (sgnI x (RW 3 x a b) != sgnI x (bits .and .u64 (sgnI x a * sgnI x b) (T * 2 - 1))) = false := by rw [WN]; simp
                clear hs hu WE WN
                as_aux_lemma =>
                  go_wp2_with (first | (go_at_call 15; refine (lwNumber_any _ _ _ (by first | exact HA.out | exact HB.out | exact WDT.out | exact WDT2.out) HX64.out).mono ?_; rintro e wn ⟨rfl, rfl⟩) | (go_at_call 16; refine (lwTopT _ T _ HT.out HX.out).mono ?_; rintro e wn ⟨rfl, rfl⟩) | (go_at_call 13; refine (ringC _ _ _ _ _ _ _ (by first | exact C1.out | exact C2.out | exact C3.out) (by first | assumption | exact Wid.below (by assumption) (bel_alloc _ _) | exact Wid.below (by assumption) (bel2 _ _ _)) (by decide) (by decide) HA.out HB.out).mono ?_; rintro e wn ⟨vn, rfl, hbn⟩; have hBn : Below w.heap.size w wn := bel_trans (by first | assumption | exact bel_trans (by assumption) (bel_alloc _ _) | exact bel_trans (by assumption) (bel2 _ _ _)) hbn; have hWn := hw.below hBn; clear hbn) | (go_at_call 12; refine (lwDo0 _ _ _ _ _ (by first | assumption | exact Wid.below (by assumption) (bel_alloc _ _) | exact Wid.below (by assumption) (bel2 _ _ _)) (by decide) HA.out HB.out).mono ?_; rintro e wn ⟨rfl, hbn⟩; have hBn : Below w.heap.size w wn := bel_trans (by first | assumption | exact bel_trans (by assumption) (bel_alloc _ _) | exact bel_trans (by assumption) (bel2 _ _ _)) hbn; have hWn := hw.below hBn; clear hbn) | (go_at_call 17; refine (signedI _ _ _ (by first | assumption | exact Wid.below (by assumption) (bel_alloc _ _) | exact Wid.below (by assumption) (bel2 _ _ _)) (isW_RW HX.out)).mono ?_; rintro e wn ⟨rfl, rfl⟩))
                  go_roundw
                  case rel => exact ⟨4, by omega, by omega, rfl, by assumption⟩
                  case measure => simp [intOf]
              · have hs : fitS x (arT 3 (sgnI x a) (sgnI x b)) = true := fitS_T true HT.out (by show _ ↔ (-T ≤ sgnI x a * sgnI x b ∧ sgnI x a * sgnI x b < T); simp; omega)
                have hu : fitU x (arT 3 a b) = false := fitU_T false HT2.out (by show _ ↔ (0 ≤ a * b ∧ a * b < T * 2); rw [MU.out]; simp; omega)
                have C1 : Hid (cdI (NotI 1 3 x a b) = 0) := code1 hs
                have C2 : Hid (cdI (NotI 2 3 x a b) = 1) := code2 hu
                have C3 : Hid (cdI (NotI 3 3 x a b) = 1) := code3 hu hs
                have WE : bits .and .u64 (IntKind.u64.wrap (sgnI x a * sgnI x b)) (T * 2 - 1) = RW 3 x a b := by
                  rw [and_mask x.toNat hx1.out _ _ (by rw [HT2.out]) (wrapU_bd _).1 (wrapU_bd _).2]; exact low_bits 3 x a b _ HX.out rfl
                have WDT : Hid (isW x (bits .and .u64 (IntKind.u64.wrap (sgnI x a * sgnI x b)) (T * 2 - 1)) = true) := by rw [WE]; exact isW_RW HX.out
                have F8 : (sgnI x (RW 3 x a b) != sgnI x (bits .and .u64 (IntKind.u64.wrap (sgnI x a * sgnI x b)) (T * 2 - 1))) = false := by rw [WE]; simp
                clear hs hu WE
                as_aux_lemma =>
                  go_wp2_with (first | (go_at_call 15; refine (lwNumber_any _ _ _ (by first | exact HA.out | exact HB.out | exact WDT.out) HX64.out).mono ?_; rintro e wn ⟨rfl, rfl⟩) | (go_at_call 16; refine (lwTopT _ T _ HT.out HX.out).mono ?_; rintro e wn ⟨rfl, rfl⟩) | (go_at_call 13; refine (ringC _ _ _ _ _ _ _ (by first | exact C1.out | exact C2.out | exact C3.out) (by first | assumption | exact Wid.below (by assumption) (bel_alloc _ _) | exact Wid.below (by assumption) (bel2 _ _ _)) (by decide) (by decide) HA.out HB.out).mono ?_; rintro e wn ⟨vn, rfl, hbn⟩; have hBn : Below w.heap.size w wn := bel_trans (by first | assumption | exact bel_trans (by assumption) (bel_alloc _ _) | exact bel_trans (by assumption) (bel2 _ _ _)) hbn; have hWn := hw.below hBn; clear hbn) | (go_at_call 12; refine (lwDo0 _ _ _ _ _ (by first | assumption | exact Wid.below (by assumption) (bel_alloc _ _) | exact Wid.below (by assumption) (bel2 _ _ _)) (by decide) HA.out HB.out).mono ?_; rintro e wn ⟨rfl, hbn⟩; have hBn : Below w.heap.size w wn := bel_trans (by first | assumption | exact bel_trans (by assumption) (bel_alloc _ _) | exact bel_trans (by assumption) (bel2 _ _ _)) hbn; have hWn := hw.below hBn; clear hbn) | (go_at_call 17; refine (signedI _ _ _ (by first | assumption | exact Wid.below (by assumption) (bel_alloc _ _) | exact Wid.below (by assumption) (bel2 _ _ _)) (isW_RW HX.out)).mono ?_; rintro e wn ⟨rfl, rfl⟩))
                  go_roundw
                  case rel => exact ⟨4, by omega, by omega, rfl, by assumption⟩
                  case measure => simp [intOf]
      · go_wp2_with fail
        go_ret
        exact ⟨rfl, hBr⟩
end Go.Proofs.YtedlghmjfaflcaaDoor
