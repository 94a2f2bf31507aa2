/- Over one translation: at every code the law FnOrders answers true and turns nothing that was there. -/
import Derived.Test.YtmkhkgliipalaaaDoorLex
namespace Go.Proofs.YtmkhkgliipalaaaDoor
open Go.ChangeShapes Go.WideShapes Go.ChangeAt Go.RowKit
set_option linter.unusedVariables false
set_option linter.unusedSimpArgs false
/-- A fact that the walk does not take for a rule. -/
structure Kp (p : Prop) : Prop where
  out : p
/-- The row of answers behind k - 1 rounds. -/
def PRow (x a b : Int) (B k : Nat) (w : World) : Prop := ∀ j : Nat, j < 11 → w.frozen? ⟨B, j, none⟩ = false ∧ w.cell? ⟨B, j, none⟩ = some (.bool (if 1 ≤ j ∧ j < k then cmpI j x a b else false))
theorem PRow.bel {x a b : Int} {B k : Nat} {w w' : World} (h : PRow x a b B k w) (hB : B < w.heap.size) (hb : Below w.heap.size w w') : PRow x a b B k w' := fun j hj =>
  ⟨by rw [hb.frozen (p := ⟨B, j, none⟩) hB]; exact (h j hj).1, by rw [hb.cell (p := ⟨B, j, none⟩) hB]; exact (h j hj).2⟩
theorem res_cells {wa wb : World} {c r : Int} {n : TypeId} (h : Below (wa.alloc (Obj.cells #[.int .i64 c, .int .u64 r] n)).heap.size (wa.alloc (Obj.cells #[.int .i64 c, .int .u64 r] n)) wb) :
    wa.heap.size < wb.heap.size ∧ wb.cell? ⟨wa.heap.size, 0, none⟩ = some (.int .i64 c) ∧ wb.cell? ⟨wa.heap.size, 1, none⟩ = some (.int .u64 r) := by
  have hs := h.size
  simp at hs
  refine ⟨by omega, ?_, ?_⟩
  · rw [h.cell (p := ⟨wa.heap.size, 0, none⟩) (by simp)]; simp
  · rw [h.cell (p := ⟨wa.heap.size, 1, none⟩) (by simp)]; simp
theorem bI_le (b : Bool) : 0 ≤ bI b ∧ bI b ≤ 1 := by cases b <;> decide
theorem bI_one (b : Bool) : (bI b == 1) = b := by cases b <;> decide
theorem prow_step {x a b : Int} {B k : Nat} {w : World} (o : Obj) (h : PRow x a b B k w) (hB : B < w.heap.size) (hk : k < 11) (k1 : 1 ≤ k) : PRow x a b B (k + 1) ((w.setCell ⟨B, k, none⟩ (.bool (cmpI k x a b))).alloc o) := by
  intro j hj
  obtain ⟨f, c⟩ := h j hj
  have hB' : B < (w.setCell ⟨B, k, none⟩ (.bool (cmpI k x a b))).heap.size := by simpa using hB
  refine ⟨?_, ?_⟩
  · rw [World.frozen?_alloc_past _ _ _ hB']; simpa [go_sem] using f
  · rw [World.cell?_alloc_lt _ _ _ hB']
    by_cases e : j = k
    · subst e
      rw [World.cell?_setCell_same _ _ _ c, if_pos (by omega)]
    · rw [World.cell?_setCell_other _ _ _ _ (by intro h; injection h; omega), c]
      by_cases q : 1 ≤ j ∧ j < k
      · rw [if_pos q, if_pos (by omega)]
      · rw [if_neg q, if_neg (by omega)]
theorem nat_or_and : ∀ (n a b : Nat), a ≤ n → (a ||| b) + (a &&& b) = a + b ∧ (a ^^^ b) + (a &&& b) = (a ||| b)
  | 0, a, b, h => by
    have : a = 0 := by omega
    subst this; simp
  | n + 1, a, b, h => by
    by_cases h0 : a = 0
    · subst h0; simp
    · have ih := nat_or_and n (a / 2) (b / 2) (by omega)
      have e1 : (a ||| b) = 2 * (a / 2 ||| b / 2) + (a ||| b) % 2 := by rw [← Nat.or_div_two]; omega
      have e2 : (a &&& b) = 2 * (a / 2 &&& b / 2) + (a &&& b) % 2 := by rw [← Nat.and_div_two]; omega
      have e3 : (a ^^^ b) = 2 * (a / 2 ^^^ b / 2) + (a ^^^ b) % 2 := by rw [← Nat.xor_div_two]; omega
      have m1 := Nat.or_mod_two_eq_one (a := a) (b := b)
      have m2 := Nat.and_mod_two_eq_one (a := a) (b := b)
      have m3 := Nat.xor_mod_two_eq_one (a := a) (b := b)
      omega
theorem bw_facts {x a b : Int} (ha : isW x a = true) (hb : isW x b = true) : bwI 12 a b + bwI 11 a b = a + b ∧ bwI 13 a b + bwI 11 a b = bwI 12 a b ∧ isW x (bwI 11 a b) = true ∧ isW x (bwI 12 a b) = true := by
  have h1 := u64_bd ha
  have h2 := u64_bd hb
  obtain ⟨a0, a1⟩ := isW_bd ha
  obtain ⟨b0, b1⟩ := isW_bd hb
  have q := nat_or_and a.toNat a.toNat b.toNat (Nat.le_refl _)
  have e1 : bwI 11 a b = ((a.toNat &&& b.toNat : Nat) : Int) := by simp only [bwI, if_true]; exact u64_and a b h1.1 (by omega) h2.1 (by omega)
  have e2 : bwI 12 a b = ((a.toNat ||| b.toNat : Nat) : Int) := by simp only [bwI, show ¬ (12 : Int) = 11 by decide, if_false, if_true]; exact u64_or a b h1.1 (by omega) h2.1 (by omega)
  have e3 : bwI 13 a b = ((a.toNat ^^^ b.toNat : Nat) : Int) := by simp only [bwI, show ¬ (13 : Int) = 11 by decide, show ¬ (13 : Int) = 12 by decide, if_false]; exact u64_xor a b h1.1 (by omega) h2.1 (by omega)
  have hp : ((2 : Int) ^ x.toNat) = ((2 ^ x.toNat : Nat) : Int) := by simp
  rw [hp] at a1 b1
  have l1 : a.toNat ||| b.toNat < 2 ^ x.toNat := Nat.or_lt_two_pow (by omega) (by omega)
  have l2 : a.toNat &&& b.toNat ≤ a.toNat := Nat.and_le_left
  refine ⟨by rw [e1, e2]; omega, by rw [e1, e2, e3]; omega, ?_, ?_⟩
  · rw [e1]; simp only [isW, isW_vw ha, Bool.true_and]; refine decide_eq_true ⟨by omega, ?_⟩; rw [hp]; omega
  · rw [e2]; simp only [isW, isW_vw ha, Bool.true_and]; refine decide_eq_true ⟨by omega, ?_⟩; rw [hp]; omega
theorem xor_top {x a T : Int} (ha : isW x a = true) (hT : T = 2 ^ (x.toNat - 1)) : bits .xor .u64 a T = sgnI x a + T := by
  have h1 := u64_bd ha
  obtain ⟨a0, a1⟩ := isW_bd ha
  have hx1 : 1 ≤ x.toNat ∧ x.toNat ≤ 64 := by rcases vw_cases (isW_vw ha) with rfl | rfl | rfl | rfl | rfl <;> decide
  have hp : ((2 : Int) ^ (x.toNat - 1)) = ((2 ^ (x.toNat - 1) : Nat) : Int) := by simp
  have hle : (2 : Nat) ^ (x.toNat - 1) ≤ 2 ^ 63 := Nat.pow_le_pow_right (by decide) (by omega)
  have h2x : (2 : Nat) ^ x.toNat = 2 * 2 ^ (x.toNat - 1) := by rw [← Nat.pow_succ']; congr 1; omega
  have h2i : ((2 : Int) ^ x.toNat) = 2 * 2 ^ (x.toNat - 1) := by
    have : ((2 : Int) ^ x.toNat) = ((2 ^ x.toNat : Nat) : Int) := by simp
    rw [this, hp, h2x]; omega
  have hTn : T.toNat = 2 ^ (x.toNat - 1) := by rw [hT, hp]; omega
  rw [u64_xor a T h1.1 (by omega) (by rw [hT, hp]; omega) (by rw [hT, hp]; omega)]
  have q := nat_or_and a.toNat a.toNat T.toNat (Nat.le_refl _)
  rw [hTn] at q ⊢
  rw [nat_bit] at q
  unfold sgnI
  rw [h2i] at a1 ⊢
  rw [hT]
  have pos : 0 < 2 ^ (x.toNat - 1) := Nat.two_pow_pos _
  by_cases l : a < 2 ^ (x.toNat - 1)
  · rw [if_pos l]
    have d : a.toNat / 2 ^ (x.toNat - 1) = 0 := Nat.div_eq_of_lt (by rw [hp] at l; omega)
    rw [d] at q
    rw [hp] at l ⊢
    simp at q
    omega
  · rw [if_neg l]
    have d : a.toNat / 2 ^ (x.toNat - 1) = 1 := Nat.div_eq_of_lt_le (by rw [hp] at l; omega) (by rw [hp] at a1; omega)
    rw [d] at q
    rw [hp] at l a1 ⊢
    simp at q
    omega
theorem lwDoB (op x a b : Int) (w : World) (hw : Wid w) (ho : op = 11 ∨ op = 12 ∨ op = 13) (ha : isW x a = true) (hb : isW x b = true) :
    Calls Tryd.prog 13 #[.int .i64 op, .int .i64 x, .int .u64 a, .int .u64 b] w fun e w' => e = .returned (.int .u64 (bwI op a b)) ∧ Below w.heap.size w w' :=
  lwDo_any op x a b 0 _ w hw (fun w hw => arith_f6 op 0 x a b w hw ho (by decide) ha hb)
theorem lwTopT (x T : Int) (w : World) (hT : T = 2 ^ (x.toNat - 1)) (hx : vw x = true) :
    Calls Tryd.prog 15 #[.int .i64 x] w fun e w' => e = .returned (.int .u64 T) ∧ w' = w := by
  rw [hT]; exact lwTop_any x w hx
theorem cmp_facts {x a b : Int} {e1 l1 m1 : Bool} (h1 : (a == b) = e1) (h3 : decide (a < b) = l1) (h4 : decide (a ≤ b) = m1) :
    cmpI 1 x a b = e1 ∧ cmpI 2 x a b = (!e1) ∧ cmpI 3 x a b = l1 ∧ cmpI 4 x a b = m1 ∧ cmpI 5 x a b = (!m1) ∧ cmpI 6 x a b = (!l1) := by
  subst h1 h3 h4
  refine ⟨by simp [cmpI], by simp [cmpI, bne], by simp [cmpI], by simp [cmpI], ?_, ?_⟩
  · rw [← decide_not]; simp [cmpI]
  · rw [← decide_not]; simp [cmpI]
theorem cmp_true {x a b : Int} {e1 : Bool} (ha : isW x a = true) (hb : isW x b = true) (h1 : (a == b) = e1) (d : decide (sgnI x a < sgnI x b) = true) :
    cmpI 7 x a b = true ∧ cmpI 8 x a b = true ∧ cmpI 9 x a b = false ∧ cmpI 10 x a b = false := by
  have d' : sgnI x a < sgnI x b := of_decide_eq_true d
  have d2 : sgnI x a ≤ sgnI x b := by omega
  have d3 : ¬ sgnI x b < sgnI x a := by omega
  have d5 : ¬ sgnI x b ≤ sgnI x a := by omega
  refine ⟨?_, ?_, ?_, ?_⟩ <;> simp [cmpI, d', d2, d3, d5]
theorem cmp_false {x a b : Int} {e1 : Bool} (ha : isW x a = true) (hb : isW x b = true) (h1 : (a == b) = e1) (d : decide (sgnI x a < sgnI x b) = false) :
    cmpI 7 x a b = false ∧ cmpI 8 x a b = e1 ∧ cmpI 9 x a b = (!e1) ∧ cmpI 10 x a b = true := by
  have d' : ¬ sgnI x a < sgnI x b := of_decide_eq_false d
  have d5 : sgnI x b ≤ sgnI x a := by omega
  subst h1
  by_cases e : a = b
  · subst e; refine ⟨?_, ?_, ?_, ?_⟩ <;> simp [cmpI]
  · have ne : ¬ sgnI x a = sgnI x b := fun h => e (sgn_inj ha hb h)
    have d2 : ¬ sgnI x a ≤ sgnI x b := by omega
    have d3 : sgnI x b < sgnI x a := by omega
    refine ⟨?_, ?_, ?_, ?_⟩ <;> simp [cmpI, d', d2, d3, d5, e]
set_option maxRecDepth 100000 in
set_option maxHeartbeats 40000000 in
theorem orders_law (w : World) (al : Option Addr) (len cap : Nat) (zs : List Int) (h0 : IsRow .u8 w al len cap zs) (hl : len ≤ 1048576) (hw : Wid w) :
    Calls Tryd.prog 5 #[.slice al len cap] w fun e w' => e = .returned (.bool true) ∧ Below w.heap.size w w' := by
  have hl' : (len : Int) ≤ 1048576 := by omega
  go_enter Tryd.func5, Tryd.ntmps5
  go_wp2_with fail
  refine (lwAt_any _ _ _ _ _ _ _ h0 (by decide) (by decide) (by decide) (by decide)).mono ?_
  rintro e w1 ⟨k, rfl, k0, k1, hb1⟩
  go_wp2_with fail
  refine (lwWidth_any _ _ k0 k1).mono ?_
  rintro e w2 ⟨x, rfl, hx, hb2⟩
  have hB2 := bel_trans hb1 hb2
  have HX : Hid (vw x = true) := hx
  clear hx hb1 hb2
  go_wp2_with fail
  refine (lwWord_any _ _ _ _ _ _ _ (h0.bel hB2) (by decide) (by decide) HX.out).mono ?_
  rintro e w3 ⟨a, rfl, ha, hb3⟩
  have hB3 := bel_trans hB2 hb3
  have HA : Hid (isW x a = true) := ha
  clear ha hb3 hB2
  go_wp2_with fail
  refine (lwWord_any _ _ _ _ _ _ _ (h0.bel hB3) (by decide) (by decide) HX.out).mono ?_
  rintro e w4 ⟨b', rfl, hb, hb4⟩
  have hB4 := bel_trans hB3 hb4
  have HB' : Hid (isW x b' = true) := hb
  clear hb hb4 hB3
  go_wp2_with fail
  refine (lwAt_any _ _ _ _ _ _ _ (h0.bel hB4) (by decide) (by decide) (by decide) (by decide)).mono ?_
  rintro e w5 ⟨q, rfl, q0, q1, hb5⟩
  have hB := bel_trans hB4 hb5
  clear hb5 hB4 h0
  go_upto_if 25 with (fail)
  go_cut [5] (fun s w' => ∃ b : Int, s = .int .u64 b ∧ isW x b = true ∧ w' = w5)
  case first =>
    go_wp2
    all_goals go_meet
    · exact ⟨_, rfl, HA.out, rfl⟩
    · exact ⟨_, rfl, HB'.out, rfl⟩
  case rest =>
    obtain ⟨b, rfl, hb, rfl⟩ := hcut
    have HB : Hid (isW x b = true) := hb
    clear hb
    have hmk : ∀ W, (Instr.makeSlice 36 (.int .i64 11) (.int .i64 11)).run Tryd.prog W = .ok (.slice (some ⟨W.heap.size, 0, none⟩) 11 11) (W.alloc (.cells #[.bool false, .bool false, .bool false, .bool false, .bool false, .bool false, .bool false, .bool false, .bool false, .bool false, .bool false] 4)) := fun _ => by kernel_rfl
    have hW := hw.below hB
    go_wp2_with fail
    go_loopw [7] (fun s wr => ∃ k : Nat, 1 ≤ k ∧ k ≤ 11 ∧ s = .int .i64 k ∧ Below w.heap.size w wr ∧ wc.heap.size < wr.heap.size ∧ PRow x a b wc.heap.size k wr) (fun s _ => 11 - (intOf s).toNat)
    case atStart =>
      refine ⟨1, by omega, by omega, rfl, bel_trans hB (bel_alloc _ _), by simp, fun j hj => ⟨by simp [go_sem], ?_⟩⟩
      have hj' : j = 0 ∨ j = 1 ∨ j = 2 ∨ j = 3 ∨ j = 4 ∨ j = 5 ∨ j = 6 ∨ j = 7 ∨ j = 8 ∨ j = 9 ∨ j = 10 := by omega
      rcases hj' with rfl | rfl | rfl | rfl | rfl | rfl | rfl | rfl | rfl | rfl | rfl <;> simp [go_sem]
    case round =>
      obtain ⟨k, k1, k2, rfl, hBr, hPr, hrow⟩ := hrel
      have hWr := hw.below hBr
      by_cases hk : k ≤ 10
      · have hk' : (k : Int) ≤ 10 := by omega
        have hk1 : 1 ≤ (k : Int) := by omega
        go_wp2_with fail
        refine (compare_impl _ _ _ _ _ hWr hk1 hk' HA.out HB.out).mono ?_
        rintro e w6 ⟨rfl, hb6⟩
        go_wp2_with fail
        refine (swap_any _ _ hk1 hk').mono ?_
        rintro e w7 ⟨rfl, rfl⟩
        go_wp2_with fail
        have hB6 := bel_trans hBr hb6
        refine (compare_impl _ _ _ _ _ (hw.below (bel_trans hB6 (bel_alloc _ _))) (sw_bd hk1 hk').1 (sw_bd hk1 hk').2 HB.out HA.out).mono ?_
        rw [cmp_swap hk1 hk']
        rintro e w8 ⟨rfl, hb8⟩
        obtain ⟨z8, r80, r81⟩ := res_cells hb8
        have hB8 := bel_trans (bel_trans hB6 (bel_alloc _ _)) hb8
        have hb68 := bel_trans (bel_trans hb6 (bel_alloc _ _)) hb8
        have hP8 : wc.heap.size < w8.heap.size := Nat.lt_of_lt_of_le hPr hb68.size
        obtain ⟨pf, pc⟩ := (hrow.bel hPr hb68) k (by omega)
        rw [if_neg (by omega)] at pc
        have ble := bI_le (cmpI k x a b)
        have bon := bI_one (cmpI k x a b)
        go_wp2_with fail
        refine ⟨⟨k + 1, by omega, by omega, by go_num, ?_, ?_, prow_step _ (hrow.bel hPr hb68) hP8 (by omega) k1⟩, by simp [intOf]; omega⟩
        · exact (hB8.setCell hB.size _).alloc (by simp; exact hB8.size) _
        · simp; omega
      · have hk11 : k = 11 := by omega
        subst hk11
        clear k1 k2 hk hmk
        obtain ⟨T, hT⟩ : ∃ T : Int, T = 2 ^ (x.toNat - 1) := ⟨_, rfl⟩
        have HT : Hid (T = 2 ^ (x.toNat - 1)) := hT
        have XA : bits BinOp.xor IntKind.u64 a T = sgnI x a + T := xor_top HA.out hT
        have XB : bits BinOp.xor IntKind.u64 b T = sgnI x b + T := xor_top HB.out hT
        clear hT
        obtain ⟨ba1, ba2, ba3, ba4⟩ := bw_facts HA.out HB.out
        have W11 : Hid (isW x (bwI 11 a b) = true) := ba3
        have W12 : Hid (isW x (bwI 12 a b) = true) := ba4
        have J1 : (bwI 13 a b == RW 2 x (bwI 12 a b) (bwI 11 a b)) = true := by
          rw [RW_eq HX.out]
          have e : arT 2 (bwI 12 a b) (bwI 11 a b) = bwI 13 a b := by simp only [arT, if_true, show ¬ (2 : Int) = 1 by decide, if_false]; omega
          rw [e, Int.emod_eq_of_lt]
          · simp
          · have := (bitsU_bd BinOp.xor a b).1; simp only [bwI, show ¬ (13 : Int) = 11 by decide, show ¬ (13 : Int) = 12 by decide, if_false]; exact this
          · have := (isW_bd ba4).2; have := (isW_bd ba3).1; omega
        have J2 : (RW 1 x a b == RW 1 x (bwI 12 a b) (bwI 11 a b)) = true := by
          rw [RW_eq HX.out, RW_eq HX.out]
          have e : arT 1 (bwI 12 a b) (bwI 11 a b) = arT 1 a b := by simp only [arT, if_true]; exact ba1
          rw [e]; simp
        clear ba1 ba2 ba3 ba4
        obtain ⟨e1, h1⟩ : ∃ e1, (a == b) = e1 := ⟨_, rfl⟩
        obtain ⟨l1, h3⟩ : ∃ l1, decide (a < b) = l1 := ⟨_, rfl⟩
        obtain ⟨m1, h4⟩ : ∃ m1, decide (a ≤ b) = m1 := ⟨_, rfl⟩
        obtain ⟨C1, C2, C3, C4, C5, C6⟩ := cmp_facts (x := x) h1 h3 h4
        have P1 : wr.cell? ⟨wc.heap.size, 1, none⟩ = some (.bool e1) := by rw [← C1]; exact (hrow 1 (by omega)).2
        have P2 : wr.cell? ⟨wc.heap.size, 2, none⟩ = some (.bool (!e1)) := by rw [← C2]; exact (hrow 2 (by omega)).2
        have P3 : wr.cell? ⟨wc.heap.size, 3, none⟩ = some (.bool l1) := by rw [← C3]; exact (hrow 3 (by omega)).2
        have P4 : wr.cell? ⟨wc.heap.size, 4, none⟩ = some (.bool m1) := by rw [← C4]; exact (hrow 4 (by omega)).2
        have P5 : wr.cell? ⟨wc.heap.size, 5, none⟩ = some (.bool (!m1)) := by rw [← C5]; exact (hrow 5 (by omega)).2
        have P6 : wr.cell? ⟨wc.heap.size, 6, none⟩ = some (.bool (!l1)) := by rw [← C6]; exact (hrow 6 (by omega)).2
        have Q7 := (hrow 7 (by omega)).2
        have Q8 := (hrow 8 (by omega)).2
        have Q9 := (hrow 9 (by omega)).2
        have Q10 := (hrow 10 (by omega)).2
        clear C1 C2 C3 C4 C5 C6 hrow hPr hWr
        go_wp2_with (first | (go_at_call 15; refine (lwTopT _ T _ HT.out HX.out).mono ?_; rintro e wn ⟨rfl, rfl⟩))
        simp only [List.append_eq, List.cons_append, List.nil_append]
        refine wp_region_quiet_lit (by kernel_rfl) (lexB_of (n := 97) (by kernel_rfl) (by kernel_rfl) (parts (by as_aux_lemma => kernel_rfl) (by as_aux_lemma => kernel_rfl) (by as_aux_lemma => kernel_rfl) (by as_aux_lemma => kernel_rfl) (by as_aux_lemma => kernel_rfl) (by as_aux_lemma => kernel_rfl) (by as_aux_lemma => kernel_rfl)) (by kernel_rfl)) ?_
        cases d4 : decide (sgnI x a < sgnI x b) with
        | true =>
          obtain ⟨C7, C8, C9, C10⟩ := cmp_true HA.out HB.out h1 d4
          have P7 : wn.cell? ⟨wc.heap.size, 7, none⟩ = some (.bool true) := by rw [← C7]; exact Q7
          have P8 : wn.cell? ⟨wc.heap.size, 8, none⟩ = some (.bool true) := by rw [← C8]; exact Q8
          have P9 : wn.cell? ⟨wc.heap.size, 9, none⟩ = some (.bool false) := by rw [← C9]; exact Q9
          have P10 : wn.cell? ⟨wc.heap.size, 10, none⟩ = some (.bool false) := by rw [← C10]; exact Q10
          clear Q7 Q8 Q9 Q10 C7 C8 C9 C10
          rcases Int.lt_trichotomy a b with hq | hq | hq
          · obtain rfl : e1 = false := by rw [← h1]; simp; omega
            obtain rfl : l1 = true := by rw [← h3]; simp; omega
            obtain rfl : m1 = true := by rw [← h4]; simp; omega
            replace P1 : wn.cell? ⟨wc.heap.size, 1, none⟩ = some (.bool false) := P1
            replace P2 : wn.cell? ⟨wc.heap.size, 2, none⟩ = some (.bool true) := P2
            replace P3 : wn.cell? ⟨wc.heap.size, 3, none⟩ = some (.bool true) := P3
            replace P4 : wn.cell? ⟨wc.heap.size, 4, none⟩ = some (.bool true) := P4
            replace P5 : wn.cell? ⟨wc.heap.size, 5, none⟩ = some (.bool false) := P5
            replace P6 : wn.cell? ⟨wc.heap.size, 6, none⟩ = some (.bool false) := P6
            clear hq
            as_aux_lemma =>
              repeat (go_big_quiet_step (fail))
              refine wpQuiet_nil ?_
              intro _ hw'
              obtain ⟨nq, hw''⟩ := hw'
              subst hw''
              have hBq : Below w.heap.size w (World.drewN _ nq) := hBr.trans ⟨rfl, rfl, rfl, Nat.le_refl _, fun _ _ => rfl⟩
              have hWq := hw.below hBq
              clear P1 P2 P3 P4 P5 P6 P7 P8 P9 P10 XA XB
              have T13 : Kp (∀ W, Wid W → Calls Tryd.prog 13 #[.int .i64 13, .int .i64 x, .int .u64 a, .int .u64 b] W fun e w' => e = .returned (.int .u64 (bwI 13 a b)) ∧ Below W.heap.size W w') := ⟨fun W h => lwDoB 13 x a b W h (by decide) HA.out HB.out⟩
              have T12 : Kp (∀ W, Wid W → Calls Tryd.prog 13 #[.int .i64 12, .int .i64 x, .int .u64 a, .int .u64 b] W fun e w' => e = .returned (.int .u64 (bwI 12 a b)) ∧ Below W.heap.size W w') := ⟨fun W h => lwDoB 12 x a b W h (by decide) HA.out HB.out⟩
              have T11 : Kp (∀ W, Wid W → Calls Tryd.prog 13 #[.int .i64 11, .int .i64 x, .int .u64 a, .int .u64 b] W fun e w' => e = .returned (.int .u64 (bwI 11 a b)) ∧ Below W.heap.size W w') := ⟨fun W h => lwDoB 11 x a b W h (by decide) HA.out HB.out⟩
              have T2 : Kp (∀ W, Wid W → Calls Tryd.prog 13 #[.int .i64 2, .int .i64 x, .int .u64 (bwI 12 a b), .int .u64 (bwI 11 a b)] W fun e w' => e = .returned (.int .u64 (RW 2 x (bwI 12 a b) (bwI 11 a b))) ∧ Below W.heap.size W w') := ⟨fun W h => lwDo0 2 x _ _ W h (by decide) W12.out W11.out⟩
              have T1 : Kp (∀ W, Wid W → Calls Tryd.prog 13 #[.int .i64 1, .int .i64 x, .int .u64 a, .int .u64 b] W fun e w' => e = .returned (.int .u64 (RW 1 x a b)) ∧ Below W.heap.size W w') := ⟨fun W h => lwDo0 1 x a b W h (by decide) HA.out HB.out⟩
              have S1 : Kp (∀ W, Wid W → Calls Tryd.prog 13 #[.int .i64 1, .int .i64 x, .int .u64 (bwI 12 a b), .int .u64 (bwI 11 a b)] W fun e w' => e = .returned (.int .u64 (RW 1 x (bwI 12 a b) (bwI 11 a b))) ∧ Below W.heap.size W w') := ⟨fun W h => lwDo0 1 x _ _ W h (by decide) W12.out W11.out⟩
              have K1 : RW 2 x (bwI 12 a b) (bwI 11 a b) = bwI 13 a b := (eq_of_beq J1).symm
              have K2 : RW 1 x (bwI 12 a b) (bwI 11 a b) = RW 1 x a b := (eq_of_beq J2).symm
              rw [K1] at T2
              rw [K2] at S1
              have hWk := Kp.mk hWq
              have hBk := Kp.mk hBq
              clear K1 K2 J1 J2 HT W11 W12 HA HB hWq hBq h1 h3 h4 d4
              generalize RW 1 x a b = r1 at *
              generalize bwI 13 a b = r13 at *
              generalize bwI 12 a b = r12 at *
              generalize bwI 11 a b = r11 at *
              go_wp2_with fail
              refine (T13.out _ hWk.out).mono ?_
              rintro e w20 ⟨rfl, hb⟩
              replace hBk := Kp.mk (bel_trans hBk.out hb)
              replace hWk := Kp.mk (hWk.out.below hb)
              clear hb
              go_wp2_with fail
              refine (T12.out _ hWk.out).mono ?_
              rintro e w21 ⟨rfl, hb⟩
              replace hBk := Kp.mk (bel_trans hBk.out hb)
              replace hWk := Kp.mk (hWk.out.below hb)
              clear hb
              go_wp2_with fail
              refine (T11.out _ hWk.out).mono ?_
              rintro e w22 ⟨rfl, hb⟩
              replace hBk := Kp.mk (bel_trans hBk.out hb)
              replace hWk := Kp.mk (hWk.out.below hb)
              clear hb
              go_wp2_with fail
              refine (T2.out _ hWk.out).mono ?_
              rintro e w23 ⟨rfl, hb⟩
              replace hBk := Kp.mk (bel_trans hBk.out hb)
              replace hWk := Kp.mk (hWk.out.below hb)
              clear hb
              go_wp2_with fail
              refine (T1.out _ hWk.out).mono ?_
              rintro e w24 ⟨rfl, hb⟩
              replace hBk := Kp.mk (bel_trans hBk.out hb)
              replace hWk := Kp.mk (hWk.out.below hb)
              clear hb
              go_wp2_with fail
              refine (T12.out _ hWk.out).mono ?_
              rintro e w25 ⟨rfl, hb⟩
              replace hBk := Kp.mk (bel_trans hBk.out hb)
              replace hWk := Kp.mk (hWk.out.below hb)
              clear hb
              go_wp2_with fail
              refine (T11.out _ hWk.out).mono ?_
              rintro e w26 ⟨rfl, hb⟩
              replace hBk := Kp.mk (bel_trans hBk.out hb)
              replace hWk := Kp.mk (hWk.out.below hb)
              clear hb
              go_wp2_with fail
              refine (S1.out _ hWk.out).mono ?_
              rintro e w27 ⟨rfl, hb⟩
              replace hBk := Kp.mk (bel_trans hBk.out hb)
              replace hWk := Kp.mk (hWk.out.below hb)
              clear hb
              go_wp2_with fail
              go_ret
              exact ⟨rfl, hBk.out⟩
          · subst hq; simp at d4
          · obtain rfl : e1 = false := by rw [← h1]; simp; omega
            obtain rfl : l1 = false := by rw [← h3]; simp; omega
            obtain rfl : m1 = false := by rw [← h4]; simp; omega
            replace P1 : wn.cell? ⟨wc.heap.size, 1, none⟩ = some (.bool false) := P1
            replace P2 : wn.cell? ⟨wc.heap.size, 2, none⟩ = some (.bool true) := P2
            replace P3 : wn.cell? ⟨wc.heap.size, 3, none⟩ = some (.bool false) := P3
            replace P4 : wn.cell? ⟨wc.heap.size, 4, none⟩ = some (.bool false) := P4
            replace P5 : wn.cell? ⟨wc.heap.size, 5, none⟩ = some (.bool true) := P5
            replace P6 : wn.cell? ⟨wc.heap.size, 6, none⟩ = some (.bool true) := P6
            clear hq
            as_aux_lemma =>
              repeat (go_big_quiet_step (fail))
              refine wpQuiet_nil ?_
              intro _ hw'
              obtain ⟨nq, hw''⟩ := hw'
              subst hw''
              have hBq : Below w.heap.size w (World.drewN _ nq) := hBr.trans ⟨rfl, rfl, rfl, Nat.le_refl _, fun _ _ => rfl⟩
              have hWq := hw.below hBq
              clear P1 P2 P3 P4 P5 P6 P7 P8 P9 P10 XA XB
              have T13 : Kp (∀ W, Wid W → Calls Tryd.prog 13 #[.int .i64 13, .int .i64 x, .int .u64 a, .int .u64 b] W fun e w' => e = .returned (.int .u64 (bwI 13 a b)) ∧ Below W.heap.size W w') := ⟨fun W h => lwDoB 13 x a b W h (by decide) HA.out HB.out⟩
              have T12 : Kp (∀ W, Wid W → Calls Tryd.prog 13 #[.int .i64 12, .int .i64 x, .int .u64 a, .int .u64 b] W fun e w' => e = .returned (.int .u64 (bwI 12 a b)) ∧ Below W.heap.size W w') := ⟨fun W h => lwDoB 12 x a b W h (by decide) HA.out HB.out⟩
              have T11 : Kp (∀ W, Wid W → Calls Tryd.prog 13 #[.int .i64 11, .int .i64 x, .int .u64 a, .int .u64 b] W fun e w' => e = .returned (.int .u64 (bwI 11 a b)) ∧ Below W.heap.size W w') := ⟨fun W h => lwDoB 11 x a b W h (by decide) HA.out HB.out⟩
              have T2 : Kp (∀ W, Wid W → Calls Tryd.prog 13 #[.int .i64 2, .int .i64 x, .int .u64 (bwI 12 a b), .int .u64 (bwI 11 a b)] W fun e w' => e = .returned (.int .u64 (RW 2 x (bwI 12 a b) (bwI 11 a b))) ∧ Below W.heap.size W w') := ⟨fun W h => lwDo0 2 x _ _ W h (by decide) W12.out W11.out⟩
              have T1 : Kp (∀ W, Wid W → Calls Tryd.prog 13 #[.int .i64 1, .int .i64 x, .int .u64 a, .int .u64 b] W fun e w' => e = .returned (.int .u64 (RW 1 x a b)) ∧ Below W.heap.size W w') := ⟨fun W h => lwDo0 1 x a b W h (by decide) HA.out HB.out⟩
              have S1 : Kp (∀ W, Wid W → Calls Tryd.prog 13 #[.int .i64 1, .int .i64 x, .int .u64 (bwI 12 a b), .int .u64 (bwI 11 a b)] W fun e w' => e = .returned (.int .u64 (RW 1 x (bwI 12 a b) (bwI 11 a b))) ∧ Below W.heap.size W w') := ⟨fun W h => lwDo0 1 x _ _ W h (by decide) W12.out W11.out⟩
              have K1 : RW 2 x (bwI 12 a b) (bwI 11 a b) = bwI 13 a b := (eq_of_beq J1).symm
              have K2 : RW 1 x (bwI 12 a b) (bwI 11 a b) = RW 1 x a b := (eq_of_beq J2).symm
              rw [K1] at T2
              rw [K2] at S1
              have hWk := Kp.mk hWq
              have hBk := Kp.mk hBq
              clear K1 K2 J1 J2 HT W11 W12 HA HB hWq hBq h1 h3 h4 d4
              generalize RW 1 x a b = r1 at *
              generalize bwI 13 a b = r13 at *
              generalize bwI 12 a b = r12 at *
              generalize bwI 11 a b = r11 at *
              go_wp2_with fail
              refine (T13.out _ hWk.out).mono ?_
              rintro e w20 ⟨rfl, hb⟩
              replace hBk := Kp.mk (bel_trans hBk.out hb)
              replace hWk := Kp.mk (hWk.out.below hb)
              clear hb
              go_wp2_with fail
              refine (T12.out _ hWk.out).mono ?_
              rintro e w21 ⟨rfl, hb⟩
              replace hBk := Kp.mk (bel_trans hBk.out hb)
              replace hWk := Kp.mk (hWk.out.below hb)
              clear hb
              go_wp2_with fail
              refine (T11.out _ hWk.out).mono ?_
              rintro e w22 ⟨rfl, hb⟩
              replace hBk := Kp.mk (bel_trans hBk.out hb)
              replace hWk := Kp.mk (hWk.out.below hb)
              clear hb
              go_wp2_with fail
              refine (T2.out _ hWk.out).mono ?_
              rintro e w23 ⟨rfl, hb⟩
              replace hBk := Kp.mk (bel_trans hBk.out hb)
              replace hWk := Kp.mk (hWk.out.below hb)
              clear hb
              go_wp2_with fail
              refine (T1.out _ hWk.out).mono ?_
              rintro e w24 ⟨rfl, hb⟩
              replace hBk := Kp.mk (bel_trans hBk.out hb)
              replace hWk := Kp.mk (hWk.out.below hb)
              clear hb
              go_wp2_with fail
              refine (T12.out _ hWk.out).mono ?_
              rintro e w25 ⟨rfl, hb⟩
              replace hBk := Kp.mk (bel_trans hBk.out hb)
              replace hWk := Kp.mk (hWk.out.below hb)
              clear hb
              go_wp2_with fail
              refine (T11.out _ hWk.out).mono ?_
              rintro e w26 ⟨rfl, hb⟩
              replace hBk := Kp.mk (bel_trans hBk.out hb)
              replace hWk := Kp.mk (hWk.out.below hb)
              clear hb
              go_wp2_with fail
              refine (S1.out _ hWk.out).mono ?_
              rintro e w27 ⟨rfl, hb⟩
              replace hBk := Kp.mk (bel_trans hBk.out hb)
              replace hWk := Kp.mk (hWk.out.below hb)
              clear hb
              go_wp2_with fail
              go_ret
              exact ⟨rfl, hBk.out⟩
        | false =>
          obtain ⟨C7, C8, C9, C10⟩ := cmp_false HA.out HB.out h1 d4
          have P7 : wn.cell? ⟨wc.heap.size, 7, none⟩ = some (.bool false) := by rw [← C7]; exact Q7
          have P8 : wn.cell? ⟨wc.heap.size, 8, none⟩ = some (.bool e1) := by rw [← C8]; exact Q8
          have P9 : wn.cell? ⟨wc.heap.size, 9, none⟩ = some (.bool (!e1)) := by rw [← C9]; exact Q9
          have P10 : wn.cell? ⟨wc.heap.size, 10, none⟩ = some (.bool true) := by rw [← C10]; exact Q10
          clear Q7 Q8 Q9 Q10 C7 C8 C9 C10
          rcases Int.lt_trichotomy a b with hq | hq | hq
          · obtain rfl : e1 = false := by rw [← h1]; simp; omega
            obtain rfl : l1 = true := by rw [← h3]; simp; omega
            obtain rfl : m1 = true := by rw [← h4]; simp; omega
            replace P1 : wn.cell? ⟨wc.heap.size, 1, none⟩ = some (.bool false) := P1
            replace P2 : wn.cell? ⟨wc.heap.size, 2, none⟩ = some (.bool true) := P2
            replace P3 : wn.cell? ⟨wc.heap.size, 3, none⟩ = some (.bool true) := P3
            replace P4 : wn.cell? ⟨wc.heap.size, 4, none⟩ = some (.bool true) := P4
            replace P5 : wn.cell? ⟨wc.heap.size, 5, none⟩ = some (.bool false) := P5
            replace P6 : wn.cell? ⟨wc.heap.size, 6, none⟩ = some (.bool false) := P6
            replace P8 : wn.cell? ⟨wc.heap.size, 8, none⟩ = some (.bool false) := P8
            replace P9 : wn.cell? ⟨wc.heap.size, 9, none⟩ = some (.bool true) := P9
            clear hq
            as_aux_lemma =>
              repeat (go_big_quiet_step (fail))
              refine wpQuiet_nil ?_
              intro _ hw'
              obtain ⟨nq, hw''⟩ := hw'
              subst hw''
              have hBq : Below w.heap.size w (World.drewN _ nq) := hBr.trans ⟨rfl, rfl, rfl, Nat.le_refl _, fun _ _ => rfl⟩
              have hWq := hw.below hBq
              clear P1 P2 P3 P4 P5 P6 P7 P8 P9 P10 XA XB
              have T13 : Kp (∀ W, Wid W → Calls Tryd.prog 13 #[.int .i64 13, .int .i64 x, .int .u64 a, .int .u64 b] W fun e w' => e = .returned (.int .u64 (bwI 13 a b)) ∧ Below W.heap.size W w') := ⟨fun W h => lwDoB 13 x a b W h (by decide) HA.out HB.out⟩
              have T12 : Kp (∀ W, Wid W → Calls Tryd.prog 13 #[.int .i64 12, .int .i64 x, .int .u64 a, .int .u64 b] W fun e w' => e = .returned (.int .u64 (bwI 12 a b)) ∧ Below W.heap.size W w') := ⟨fun W h => lwDoB 12 x a b W h (by decide) HA.out HB.out⟩
              have T11 : Kp (∀ W, Wid W → Calls Tryd.prog 13 #[.int .i64 11, .int .i64 x, .int .u64 a, .int .u64 b] W fun e w' => e = .returned (.int .u64 (bwI 11 a b)) ∧ Below W.heap.size W w') := ⟨fun W h => lwDoB 11 x a b W h (by decide) HA.out HB.out⟩
              have T2 : Kp (∀ W, Wid W → Calls Tryd.prog 13 #[.int .i64 2, .int .i64 x, .int .u64 (bwI 12 a b), .int .u64 (bwI 11 a b)] W fun e w' => e = .returned (.int .u64 (RW 2 x (bwI 12 a b) (bwI 11 a b))) ∧ Below W.heap.size W w') := ⟨fun W h => lwDo0 2 x _ _ W h (by decide) W12.out W11.out⟩
              have T1 : Kp (∀ W, Wid W → Calls Tryd.prog 13 #[.int .i64 1, .int .i64 x, .int .u64 a, .int .u64 b] W fun e w' => e = .returned (.int .u64 (RW 1 x a b)) ∧ Below W.heap.size W w') := ⟨fun W h => lwDo0 1 x a b W h (by decide) HA.out HB.out⟩
              have S1 : Kp (∀ W, Wid W → Calls Tryd.prog 13 #[.int .i64 1, .int .i64 x, .int .u64 (bwI 12 a b), .int .u64 (bwI 11 a b)] W fun e w' => e = .returned (.int .u64 (RW 1 x (bwI 12 a b) (bwI 11 a b))) ∧ Below W.heap.size W w') := ⟨fun W h => lwDo0 1 x _ _ W h (by decide) W12.out W11.out⟩
              have K1 : RW 2 x (bwI 12 a b) (bwI 11 a b) = bwI 13 a b := (eq_of_beq J1).symm
              have K2 : RW 1 x (bwI 12 a b) (bwI 11 a b) = RW 1 x a b := (eq_of_beq J2).symm
              rw [K1] at T2
              rw [K2] at S1
              have hWk := Kp.mk hWq
              have hBk := Kp.mk hBq
              clear K1 K2 J1 J2 HT W11 W12 HA HB hWq hBq h1 h3 h4 d4
              generalize RW 1 x a b = r1 at *
              generalize bwI 13 a b = r13 at *
              generalize bwI 12 a b = r12 at *
              generalize bwI 11 a b = r11 at *
              go_wp2_with fail
              refine (T13.out _ hWk.out).mono ?_
              rintro e w20 ⟨rfl, hb⟩
              replace hBk := Kp.mk (bel_trans hBk.out hb)
              replace hWk := Kp.mk (hWk.out.below hb)
              clear hb
              go_wp2_with fail
              refine (T12.out _ hWk.out).mono ?_
              rintro e w21 ⟨rfl, hb⟩
              replace hBk := Kp.mk (bel_trans hBk.out hb)
              replace hWk := Kp.mk (hWk.out.below hb)
              clear hb
              go_wp2_with fail
              refine (T11.out _ hWk.out).mono ?_
              rintro e w22 ⟨rfl, hb⟩
              replace hBk := Kp.mk (bel_trans hBk.out hb)
              replace hWk := Kp.mk (hWk.out.below hb)
              clear hb
              go_wp2_with fail
              refine (T2.out _ hWk.out).mono ?_
              rintro e w23 ⟨rfl, hb⟩
              replace hBk := Kp.mk (bel_trans hBk.out hb)
              replace hWk := Kp.mk (hWk.out.below hb)
              clear hb
              go_wp2_with fail
              refine (T1.out _ hWk.out).mono ?_
              rintro e w24 ⟨rfl, hb⟩
              replace hBk := Kp.mk (bel_trans hBk.out hb)
              replace hWk := Kp.mk (hWk.out.below hb)
              clear hb
              go_wp2_with fail
              refine (T12.out _ hWk.out).mono ?_
              rintro e w25 ⟨rfl, hb⟩
              replace hBk := Kp.mk (bel_trans hBk.out hb)
              replace hWk := Kp.mk (hWk.out.below hb)
              clear hb
              go_wp2_with fail
              refine (T11.out _ hWk.out).mono ?_
              rintro e w26 ⟨rfl, hb⟩
              replace hBk := Kp.mk (bel_trans hBk.out hb)
              replace hWk := Kp.mk (hWk.out.below hb)
              clear hb
              go_wp2_with fail
              refine (S1.out _ hWk.out).mono ?_
              rintro e w27 ⟨rfl, hb⟩
              replace hBk := Kp.mk (bel_trans hBk.out hb)
              replace hWk := Kp.mk (hWk.out.below hb)
              clear hb
              go_wp2_with fail
              go_ret
              exact ⟨rfl, hBk.out⟩
          · obtain rfl : e1 = true := by rw [← h1]; simp; omega
            obtain rfl : l1 = false := by rw [← h3]; simp; omega
            obtain rfl : m1 = true := by rw [← h4]; simp; omega
            replace P1 : wn.cell? ⟨wc.heap.size, 1, none⟩ = some (.bool true) := P1
            replace P2 : wn.cell? ⟨wc.heap.size, 2, none⟩ = some (.bool false) := P2
            replace P3 : wn.cell? ⟨wc.heap.size, 3, none⟩ = some (.bool false) := P3
            replace P4 : wn.cell? ⟨wc.heap.size, 4, none⟩ = some (.bool true) := P4
            replace P5 : wn.cell? ⟨wc.heap.size, 5, none⟩ = some (.bool false) := P5
            replace P6 : wn.cell? ⟨wc.heap.size, 6, none⟩ = some (.bool true) := P6
            replace P8 : wn.cell? ⟨wc.heap.size, 8, none⟩ = some (.bool true) := P8
            replace P9 : wn.cell? ⟨wc.heap.size, 9, none⟩ = some (.bool false) := P9
            clear hq
            as_aux_lemma =>
              repeat (go_big_quiet_step (fail))
              refine wpQuiet_nil ?_
              intro _ hw'
              obtain ⟨nq, hw''⟩ := hw'
              subst hw''
              have hBq : Below w.heap.size w (World.drewN _ nq) := hBr.trans ⟨rfl, rfl, rfl, Nat.le_refl _, fun _ _ => rfl⟩
              have hWq := hw.below hBq
              clear P1 P2 P3 P4 P5 P6 P7 P8 P9 P10 XA XB
              have T13 : Kp (∀ W, Wid W → Calls Tryd.prog 13 #[.int .i64 13, .int .i64 x, .int .u64 a, .int .u64 b] W fun e w' => e = .returned (.int .u64 (bwI 13 a b)) ∧ Below W.heap.size W w') := ⟨fun W h => lwDoB 13 x a b W h (by decide) HA.out HB.out⟩
              have T12 : Kp (∀ W, Wid W → Calls Tryd.prog 13 #[.int .i64 12, .int .i64 x, .int .u64 a, .int .u64 b] W fun e w' => e = .returned (.int .u64 (bwI 12 a b)) ∧ Below W.heap.size W w') := ⟨fun W h => lwDoB 12 x a b W h (by decide) HA.out HB.out⟩
              have T11 : Kp (∀ W, Wid W → Calls Tryd.prog 13 #[.int .i64 11, .int .i64 x, .int .u64 a, .int .u64 b] W fun e w' => e = .returned (.int .u64 (bwI 11 a b)) ∧ Below W.heap.size W w') := ⟨fun W h => lwDoB 11 x a b W h (by decide) HA.out HB.out⟩
              have T2 : Kp (∀ W, Wid W → Calls Tryd.prog 13 #[.int .i64 2, .int .i64 x, .int .u64 (bwI 12 a b), .int .u64 (bwI 11 a b)] W fun e w' => e = .returned (.int .u64 (RW 2 x (bwI 12 a b) (bwI 11 a b))) ∧ Below W.heap.size W w') := ⟨fun W h => lwDo0 2 x _ _ W h (by decide) W12.out W11.out⟩
              have T1 : Kp (∀ W, Wid W → Calls Tryd.prog 13 #[.int .i64 1, .int .i64 x, .int .u64 a, .int .u64 b] W fun e w' => e = .returned (.int .u64 (RW 1 x a b)) ∧ Below W.heap.size W w') := ⟨fun W h => lwDo0 1 x a b W h (by decide) HA.out HB.out⟩
              have S1 : Kp (∀ W, Wid W → Calls Tryd.prog 13 #[.int .i64 1, .int .i64 x, .int .u64 (bwI 12 a b), .int .u64 (bwI 11 a b)] W fun e w' => e = .returned (.int .u64 (RW 1 x (bwI 12 a b) (bwI 11 a b))) ∧ Below W.heap.size W w') := ⟨fun W h => lwDo0 1 x _ _ W h (by decide) W12.out W11.out⟩
              have K1 : RW 2 x (bwI 12 a b) (bwI 11 a b) = bwI 13 a b := (eq_of_beq J1).symm
              have K2 : RW 1 x (bwI 12 a b) (bwI 11 a b) = RW 1 x a b := (eq_of_beq J2).symm
              rw [K1] at T2
              rw [K2] at S1
              have hWk := Kp.mk hWq
              have hBk := Kp.mk hBq
              clear K1 K2 J1 J2 HT W11 W12 HA HB hWq hBq h1 h3 h4 d4
              generalize RW 1 x a b = r1 at *
              generalize bwI 13 a b = r13 at *
              generalize bwI 12 a b = r12 at *
              generalize bwI 11 a b = r11 at *
              go_wp2_with fail
              refine (T13.out _ hWk.out).mono ?_
              rintro e w20 ⟨rfl, hb⟩
              replace hBk := Kp.mk (bel_trans hBk.out hb)
              replace hWk := Kp.mk (hWk.out.below hb)
              clear hb
              go_wp2_with fail
              refine (T12.out _ hWk.out).mono ?_
              rintro e w21 ⟨rfl, hb⟩
              replace hBk := Kp.mk (bel_trans hBk.out hb)
              replace hWk := Kp.mk (hWk.out.below hb)
              clear hb
              go_wp2_with fail
              refine (T11.out _ hWk.out).mono ?_
              rintro e w22 ⟨rfl, hb⟩
              replace hBk := Kp.mk (bel_trans hBk.out hb)
              replace hWk := Kp.mk (hWk.out.below hb)
              clear hb
              go_wp2_with fail
              refine (T2.out _ hWk.out).mono ?_
              rintro e w23 ⟨rfl, hb⟩
              replace hBk := Kp.mk (bel_trans hBk.out hb)
              replace hWk := Kp.mk (hWk.out.below hb)
              clear hb
              go_wp2_with fail
              refine (T1.out _ hWk.out).mono ?_
              rintro e w24 ⟨rfl, hb⟩
              replace hBk := Kp.mk (bel_trans hBk.out hb)
              replace hWk := Kp.mk (hWk.out.below hb)
              clear hb
              go_wp2_with fail
              refine (T12.out _ hWk.out).mono ?_
              rintro e w25 ⟨rfl, hb⟩
              replace hBk := Kp.mk (bel_trans hBk.out hb)
              replace hWk := Kp.mk (hWk.out.below hb)
              clear hb
              go_wp2_with fail
              refine (T11.out _ hWk.out).mono ?_
              rintro e w26 ⟨rfl, hb⟩
              replace hBk := Kp.mk (bel_trans hBk.out hb)
              replace hWk := Kp.mk (hWk.out.below hb)
              clear hb
              go_wp2_with fail
              refine (S1.out _ hWk.out).mono ?_
              rintro e w27 ⟨rfl, hb⟩
              replace hBk := Kp.mk (bel_trans hBk.out hb)
              replace hWk := Kp.mk (hWk.out.below hb)
              clear hb
              go_wp2_with fail
              go_ret
              exact ⟨rfl, hBk.out⟩
          · obtain rfl : e1 = false := by rw [← h1]; simp; omega
            obtain rfl : l1 = false := by rw [← h3]; simp; omega
            obtain rfl : m1 = false := by rw [← h4]; simp; omega
            replace P1 : wn.cell? ⟨wc.heap.size, 1, none⟩ = some (.bool false) := P1
            replace P2 : wn.cell? ⟨wc.heap.size, 2, none⟩ = some (.bool true) := P2
            replace P3 : wn.cell? ⟨wc.heap.size, 3, none⟩ = some (.bool false) := P3
            replace P4 : wn.cell? ⟨wc.heap.size, 4, none⟩ = some (.bool false) := P4
            replace P5 : wn.cell? ⟨wc.heap.size, 5, none⟩ = some (.bool true) := P5
            replace P6 : wn.cell? ⟨wc.heap.size, 6, none⟩ = some (.bool true) := P6
            replace P8 : wn.cell? ⟨wc.heap.size, 8, none⟩ = some (.bool false) := P8
            replace P9 : wn.cell? ⟨wc.heap.size, 9, none⟩ = some (.bool true) := P9
            clear hq
            as_aux_lemma =>
              repeat (go_big_quiet_step (fail))
              refine wpQuiet_nil ?_
              intro _ hw'
              obtain ⟨nq, hw''⟩ := hw'
              subst hw''
              have hBq : Below w.heap.size w (World.drewN _ nq) := hBr.trans ⟨rfl, rfl, rfl, Nat.le_refl _, fun _ _ => rfl⟩
              have hWq := hw.below hBq
              clear P1 P2 P3 P4 P5 P6 P7 P8 P9 P10 XA XB
              have T13 : Kp (∀ W, Wid W → Calls Tryd.prog 13 #[.int .i64 13, .int .i64 x, .int .u64 a, .int .u64 b] W fun e w' => e = .returned (.int .u64 (bwI 13 a b)) ∧ Below W.heap.size W w') := ⟨fun W h => lwDoB 13 x a b W h (by decide) HA.out HB.out⟩
              have T12 : Kp (∀ W, Wid W → Calls Tryd.prog 13 #[.int .i64 12, .int .i64 x, .int .u64 a, .int .u64 b] W fun e w' => e = .returned (.int .u64 (bwI 12 a b)) ∧ Below W.heap.size W w') := ⟨fun W h => lwDoB 12 x a b W h (by decide) HA.out HB.out⟩
              have T11 : Kp (∀ W, Wid W → Calls Tryd.prog 13 #[.int .i64 11, .int .i64 x, .int .u64 a, .int .u64 b] W fun e w' => e = .returned (.int .u64 (bwI 11 a b)) ∧ Below W.heap.size W w') := ⟨fun W h => lwDoB 11 x a b W h (by decide) HA.out HB.out⟩
              have T2 : Kp (∀ W, Wid W → Calls Tryd.prog 13 #[.int .i64 2, .int .i64 x, .int .u64 (bwI 12 a b), .int .u64 (bwI 11 a b)] W fun e w' => e = .returned (.int .u64 (RW 2 x (bwI 12 a b) (bwI 11 a b))) ∧ Below W.heap.size W w') := ⟨fun W h => lwDo0 2 x _ _ W h (by decide) W12.out W11.out⟩
              have T1 : Kp (∀ W, Wid W → Calls Tryd.prog 13 #[.int .i64 1, .int .i64 x, .int .u64 a, .int .u64 b] W fun e w' => e = .returned (.int .u64 (RW 1 x a b)) ∧ Below W.heap.size W w') := ⟨fun W h => lwDo0 1 x a b W h (by decide) HA.out HB.out⟩
              have S1 : Kp (∀ W, Wid W → Calls Tryd.prog 13 #[.int .i64 1, .int .i64 x, .int .u64 (bwI 12 a b), .int .u64 (bwI 11 a b)] W fun e w' => e = .returned (.int .u64 (RW 1 x (bwI 12 a b) (bwI 11 a b))) ∧ Below W.heap.size W w') := ⟨fun W h => lwDo0 1 x _ _ W h (by decide) W12.out W11.out⟩
              have K1 : RW 2 x (bwI 12 a b) (bwI 11 a b) = bwI 13 a b := (eq_of_beq J1).symm
              have K2 : RW 1 x (bwI 12 a b) (bwI 11 a b) = RW 1 x a b := (eq_of_beq J2).symm
              rw [K1] at T2
              rw [K2] at S1
              have hWk := Kp.mk hWq
              have hBk := Kp.mk hBq
              clear K1 K2 J1 J2 HT W11 W12 HA HB hWq hBq h1 h3 h4 d4
              generalize RW 1 x a b = r1 at *
              generalize bwI 13 a b = r13 at *
              generalize bwI 12 a b = r12 at *
              generalize bwI 11 a b = r11 at *
              go_wp2_with fail
              refine (T13.out _ hWk.out).mono ?_
              rintro e w20 ⟨rfl, hb⟩
              replace hBk := Kp.mk (bel_trans hBk.out hb)
              replace hWk := Kp.mk (hWk.out.below hb)
              clear hb
              go_wp2_with fail
              refine (T12.out _ hWk.out).mono ?_
              rintro e w21 ⟨rfl, hb⟩
              replace hBk := Kp.mk (bel_trans hBk.out hb)
              replace hWk := Kp.mk (hWk.out.below hb)
              clear hb
              go_wp2_with fail
              refine (T11.out _ hWk.out).mono ?_
              rintro e w22 ⟨rfl, hb⟩
              replace hBk := Kp.mk (bel_trans hBk.out hb)
              replace hWk := Kp.mk (hWk.out.below hb)
              clear hb
              go_wp2_with fail
              refine (T2.out _ hWk.out).mono ?_
              rintro e w23 ⟨rfl, hb⟩
              replace hBk := Kp.mk (bel_trans hBk.out hb)
              replace hWk := Kp.mk (hWk.out.below hb)
              clear hb
              go_wp2_with fail
              refine (T1.out _ hWk.out).mono ?_
              rintro e w24 ⟨rfl, hb⟩
              replace hBk := Kp.mk (bel_trans hBk.out hb)
              replace hWk := Kp.mk (hWk.out.below hb)
              clear hb
              go_wp2_with fail
              refine (T12.out _ hWk.out).mono ?_
              rintro e w25 ⟨rfl, hb⟩
              replace hBk := Kp.mk (bel_trans hBk.out hb)
              replace hWk := Kp.mk (hWk.out.below hb)
              clear hb
              go_wp2_with fail
              refine (T11.out _ hWk.out).mono ?_
              rintro e w26 ⟨rfl, hb⟩
              replace hBk := Kp.mk (bel_trans hBk.out hb)
              replace hWk := Kp.mk (hWk.out.below hb)
              clear hb
              go_wp2_with fail
              refine (S1.out _ hWk.out).mono ?_
              rintro e w27 ⟨rfl, hb⟩
              replace hBk := Kp.mk (bel_trans hBk.out hb)
              replace hWk := Kp.mk (hWk.out.below hb)
              clear hb
              go_wp2_with fail
              go_ret
              exact ⟨rfl, hBk.out⟩
end Go.Proofs.YtmkhkgliipalaaaDoor
