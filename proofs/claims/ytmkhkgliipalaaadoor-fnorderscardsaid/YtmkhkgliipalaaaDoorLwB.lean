/- Contract over one translation for a law's drawn word: it is a word of its width. -/
import Derived.Test.YtmkhkgliipalaaaDoorLwA
namespace Go.Proofs.YtmkhkgliipalaaaDoor
open Go.ChangeShapes Go.WideShapes Go.ChangeAt Go.RowKit
set_option linter.unusedVariables false
set_option linter.unusedSimpArgs false
theorem word_of (x V : Int) (hx : vw x = true) (h : x = 64 → isW 64 V = true) : isW x (if x < 64 then cutI x V else V) = true := by
  by_cases h64 : x < 64
  · rw [if_pos h64]; exact isW_cut hx
  · have e : x = 64 := by rcases vw_cases hx with rfl | rfl | rfl | rfl | rfl <;> simp at h64 ⊢
    subst e
    rw [if_neg h64]; exact h rfl
theorem isW64 {V : Int} (h : 0 ≤ V ∧ V ≤ 18446744073709551615) : isW 64 V = true := by simp [isW, vw]; omega
theorem bitsU_bd (o : BinOp) (a b : Int) : 0 ≤ bits o .u64 a b ∧ bits o .u64 a b ≤ 18446744073709551615 := bounds_u64 (wf_bits ..)
theorem wd1 (V : Int) (h : 0 ≤ V ∧ V ≤ 18446744073709551615) : isW 1 (bits .and .u64 V 1) = true := by rw [mask1 V h.1 h.2]; exact isW_cut (by decide)
theorem wd8 (V : Int) (h : 0 ≤ V ∧ V ≤ 18446744073709551615) : isW 8 (bits .and .u64 V 255) = true := by rw [mask8 V h.1 h.2]; exact isW_cut (by decide)
theorem wd16 (V : Int) (h : 0 ≤ V ∧ V ≤ 18446744073709551615) : isW 16 (bits .and .u64 V 65535) = true := by rw [mask16 V h.1 h.2]; exact isW_cut (by decide)
theorem wd32 (V : Int) (h : 0 ≤ V ∧ V ≤ 18446744073709551615) : isW 32 (bits .and .u64 V 4294967295) = true := by rw [mask32 V h.1 h.2]; exact isW_cut (by decide)
theorem wd64 (V : Int) (h : 0 ≤ V ∧ V ≤ 18446744073709551615) : isW 64 V = true := isW64 h
set_option maxRecDepth 100000 in
set_option maxHeartbeats 2000000 in
theorem lwWord_1 (a : Option Addr) (len cap : Nat) (zs : List Int) (i : Int) (w : World) (h : IsRow .u8 w a len cap zs) (i0 : 0 ≤ i) (i1 : i ≤ 80) :
    Calls Tryd.prog 11 #[.slice a len cap, .int .i64 i, .int .i64 1] w fun e w' => ∃ v : Int, e = .returned (.int .u64 v) ∧ isW 1 v = true ∧ Below w.heap.size w w' := by
  go_enter Tryd.func11, Tryd.ntmps11
  go_wp2_with fail
  refine (lwAt_any _ _ _ _ _ _ _ h i0 (by omega) (by decide) (by decide)).mono ?_
  rintro e w1 ⟨p, rfl, p0, p1, hb1⟩
  have h1 := h.bel hb1
  have hp : p = 0 ∨ p = 1 ∨ p = 2 ∨ 3 ≤ p := by omega
  rcases hp with rfl | rfl | rfl | hp
  · go_wp2_with fail
    refine (lwAt_any _ _ _ _ _ _ _ h1 (by omega) (by omega) (by decide) (by decide)).mono ?_
    rintro e w2 ⟨q, rfl, q0, q1, hb2⟩
    go_wp2_with fail
    go_ret
    exact ⟨_, rfl, wd1 _ (by first | exact wrapU_bd _ | exact bitsU_bd _ _ _ | omega), bel_trans hb1 hb2⟩
  · go_wp2_with fail
    refine (lwAt_any _ _ _ _ _ _ _ h1 (by omega) (by omega) (by decide) (by decide)).mono ?_
    rintro e w2 ⟨q, rfl, q0, q1, hb2⟩
    go_wp2_with fail
    go_ret
    exact ⟨_, rfl, wd1 _ (by first | exact wrapU_bd _ | exact bitsU_bd _ _ _ | omega), bel_trans hb1 hb2⟩
  · go_wp2_with fail
    refine (lwAt_any _ _ _ _ _ _ _ h1 (by omega) (by omega) (by decide) (by decide)).mono ?_
    rintro e w2 ⟨q, rfl, q0, q1, hb2⟩
    go_wp2_with fail
    go_ret
    exact ⟨_, rfl, wd1 _ (by first | exact wrapU_bd _ | exact bitsU_bd _ _ _ | omega), bel_trans hb1 hb2⟩
  · have e0 : (p == 0) = false := beq_eq_false_iff_ne.2 (by omega)
    have e1 : (p == 1) = false := beq_eq_false_iff_ne.2 (by omega)
    have e2 : (p == 2) = false := beq_eq_false_iff_ne.2 (by omega)
    go_wp2_with fail
    go_loopw [7, 8] (fun v k wr => ∃ (V : Int) (j : Nat), v = .int .u64 V ∧ 0 ≤ V ∧ V ≤ 18446744073709551615 ∧ k = .int .i64 j ∧ j ≤ 8 ∧ Below w.heap.size w wr) (fun _ k _ => 8 - (intOf k).toNat)
    case atStart => exact ⟨0, 0, rfl, by omega, by omega, rfl, by omega, hb1⟩
    case round =>
      obtain ⟨V, j, rfl, V0, V1, rfl, hj, hbr⟩ := hrel
      have hr := h.bel hbr
      by_cases hlt : j < 8
      · go_wp2_with fail
        refine (lwAt_any _ _ _ _ _ _ _ hr (by omega) (by omega) (by decide) (by decide)).mono ?_
        rintro e w2 ⟨q, rfl, q0, q1, hb2⟩
        go_wp2_with fail
        go_roundw
        case rel => exact ⟨_, j + 1, rfl, (bitsU_bd _ _ _).1, (bitsU_bd _ _ _).2, by go_num, by omega, bel_trans hbr hb2⟩
        case measure => simp [intOf]; omega
      · go_wp2_with fail
        go_ret
        exact ⟨_, rfl, wd1 _ (by first | exact wrapU_bd _ | exact bitsU_bd _ _ _ | omega), hbr⟩
set_option maxRecDepth 100000 in
set_option maxHeartbeats 2000000 in
theorem lwWord_8 (a : Option Addr) (len cap : Nat) (zs : List Int) (i : Int) (w : World) (h : IsRow .u8 w a len cap zs) (i0 : 0 ≤ i) (i1 : i ≤ 80) :
    Calls Tryd.prog 11 #[.slice a len cap, .int .i64 i, .int .i64 8] w fun e w' => ∃ v : Int, e = .returned (.int .u64 v) ∧ isW 8 v = true ∧ Below w.heap.size w w' := by
  go_enter Tryd.func11, Tryd.ntmps11
  go_wp2_with fail
  refine (lwAt_any _ _ _ _ _ _ _ h i0 (by omega) (by decide) (by decide)).mono ?_
  rintro e w1 ⟨p, rfl, p0, p1, hb1⟩
  have h1 := h.bel hb1
  have hp : p = 0 ∨ p = 1 ∨ p = 2 ∨ 3 ≤ p := by omega
  rcases hp with rfl | rfl | rfl | hp
  · go_wp2_with fail
    refine (lwAt_any _ _ _ _ _ _ _ h1 (by omega) (by omega) (by decide) (by decide)).mono ?_
    rintro e w2 ⟨q, rfl, q0, q1, hb2⟩
    go_wp2_with fail
    go_ret
    exact ⟨_, rfl, wd8 _ (by first | exact wrapU_bd _ | exact bitsU_bd _ _ _ | omega), bel_trans hb1 hb2⟩
  · go_wp2_with fail
    refine (lwAt_any _ _ _ _ _ _ _ h1 (by omega) (by omega) (by decide) (by decide)).mono ?_
    rintro e w2 ⟨q, rfl, q0, q1, hb2⟩
    go_wp2_with fail
    go_ret
    exact ⟨_, rfl, wd8 _ (by first | exact wrapU_bd _ | exact bitsU_bd _ _ _ | omega), bel_trans hb1 hb2⟩
  · go_wp2_with fail
    refine (lwAt_any _ _ _ _ _ _ _ h1 (by omega) (by omega) (by decide) (by decide)).mono ?_
    rintro e w2 ⟨q, rfl, q0, q1, hb2⟩
    go_wp2_with fail
    go_ret
    exact ⟨_, rfl, wd8 _ (by first | exact wrapU_bd _ | exact bitsU_bd _ _ _ | omega), bel_trans hb1 hb2⟩
  · have e0 : (p == 0) = false := beq_eq_false_iff_ne.2 (by omega)
    have e1 : (p == 1) = false := beq_eq_false_iff_ne.2 (by omega)
    have e2 : (p == 2) = false := beq_eq_false_iff_ne.2 (by omega)
    go_wp2_with fail
    go_loopw [7, 8] (fun v k wr => ∃ (V : Int) (j : Nat), v = .int .u64 V ∧ 0 ≤ V ∧ V ≤ 18446744073709551615 ∧ k = .int .i64 j ∧ j ≤ 8 ∧ Below w.heap.size w wr) (fun _ k _ => 8 - (intOf k).toNat)
    case atStart => exact ⟨0, 0, rfl, by omega, by omega, rfl, by omega, hb1⟩
    case round =>
      obtain ⟨V, j, rfl, V0, V1, rfl, hj, hbr⟩ := hrel
      have hr := h.bel hbr
      by_cases hlt : j < 8
      · go_wp2_with fail
        refine (lwAt_any _ _ _ _ _ _ _ hr (by omega) (by omega) (by decide) (by decide)).mono ?_
        rintro e w2 ⟨q, rfl, q0, q1, hb2⟩
        go_wp2_with fail
        go_roundw
        case rel => exact ⟨_, j + 1, rfl, (bitsU_bd _ _ _).1, (bitsU_bd _ _ _).2, by go_num, by omega, bel_trans hbr hb2⟩
        case measure => simp [intOf]; omega
      · go_wp2_with fail
        go_ret
        exact ⟨_, rfl, wd8 _ (by first | exact wrapU_bd _ | exact bitsU_bd _ _ _ | omega), hbr⟩
set_option maxRecDepth 100000 in
set_option maxHeartbeats 2000000 in
theorem lwWord_16 (a : Option Addr) (len cap : Nat) (zs : List Int) (i : Int) (w : World) (h : IsRow .u8 w a len cap zs) (i0 : 0 ≤ i) (i1 : i ≤ 80) :
    Calls Tryd.prog 11 #[.slice a len cap, .int .i64 i, .int .i64 16] w fun e w' => ∃ v : Int, e = .returned (.int .u64 v) ∧ isW 16 v = true ∧ Below w.heap.size w w' := by
  go_enter Tryd.func11, Tryd.ntmps11
  go_wp2_with fail
  refine (lwAt_any _ _ _ _ _ _ _ h i0 (by omega) (by decide) (by decide)).mono ?_
  rintro e w1 ⟨p, rfl, p0, p1, hb1⟩
  have h1 := h.bel hb1
  have hp : p = 0 ∨ p = 1 ∨ p = 2 ∨ 3 ≤ p := by omega
  rcases hp with rfl | rfl | rfl | hp
  · go_wp2_with fail
    refine (lwAt_any _ _ _ _ _ _ _ h1 (by omega) (by omega) (by decide) (by decide)).mono ?_
    rintro e w2 ⟨q, rfl, q0, q1, hb2⟩
    go_wp2_with fail
    go_ret
    exact ⟨_, rfl, wd16 _ (by first | exact wrapU_bd _ | exact bitsU_bd _ _ _ | omega), bel_trans hb1 hb2⟩
  · go_wp2_with fail
    refine (lwAt_any _ _ _ _ _ _ _ h1 (by omega) (by omega) (by decide) (by decide)).mono ?_
    rintro e w2 ⟨q, rfl, q0, q1, hb2⟩
    go_wp2_with fail
    go_ret
    exact ⟨_, rfl, wd16 _ (by first | exact wrapU_bd _ | exact bitsU_bd _ _ _ | omega), bel_trans hb1 hb2⟩
  · go_wp2_with fail
    refine (lwAt_any _ _ _ _ _ _ _ h1 (by omega) (by omega) (by decide) (by decide)).mono ?_
    rintro e w2 ⟨q, rfl, q0, q1, hb2⟩
    go_wp2_with fail
    go_ret
    exact ⟨_, rfl, wd16 _ (by first | exact wrapU_bd _ | exact bitsU_bd _ _ _ | omega), bel_trans hb1 hb2⟩
  · have e0 : (p == 0) = false := beq_eq_false_iff_ne.2 (by omega)
    have e1 : (p == 1) = false := beq_eq_false_iff_ne.2 (by omega)
    have e2 : (p == 2) = false := beq_eq_false_iff_ne.2 (by omega)
    go_wp2_with fail
    go_loopw [7, 8] (fun v k wr => ∃ (V : Int) (j : Nat), v = .int .u64 V ∧ 0 ≤ V ∧ V ≤ 18446744073709551615 ∧ k = .int .i64 j ∧ j ≤ 8 ∧ Below w.heap.size w wr) (fun _ k _ => 8 - (intOf k).toNat)
    case atStart => exact ⟨0, 0, rfl, by omega, by omega, rfl, by omega, hb1⟩
    case round =>
      obtain ⟨V, j, rfl, V0, V1, rfl, hj, hbr⟩ := hrel
      have hr := h.bel hbr
      by_cases hlt : j < 8
      · go_wp2_with fail
        refine (lwAt_any _ _ _ _ _ _ _ hr (by omega) (by omega) (by decide) (by decide)).mono ?_
        rintro e w2 ⟨q, rfl, q0, q1, hb2⟩
        go_wp2_with fail
        go_roundw
        case rel => exact ⟨_, j + 1, rfl, (bitsU_bd _ _ _).1, (bitsU_bd _ _ _).2, by go_num, by omega, bel_trans hbr hb2⟩
        case measure => simp [intOf]; omega
      · go_wp2_with fail
        go_ret
        exact ⟨_, rfl, wd16 _ (by first | exact wrapU_bd _ | exact bitsU_bd _ _ _ | omega), hbr⟩
set_option maxRecDepth 100000 in
set_option maxHeartbeats 2000000 in
theorem lwWord_32 (a : Option Addr) (len cap : Nat) (zs : List Int) (i : Int) (w : World) (h : IsRow .u8 w a len cap zs) (i0 : 0 ≤ i) (i1 : i ≤ 80) :
    Calls Tryd.prog 11 #[.slice a len cap, .int .i64 i, .int .i64 32] w fun e w' => ∃ v : Int, e = .returned (.int .u64 v) ∧ isW 32 v = true ∧ Below w.heap.size w w' := by
  go_enter Tryd.func11, Tryd.ntmps11
  go_wp2_with fail
  refine (lwAt_any _ _ _ _ _ _ _ h i0 (by omega) (by decide) (by decide)).mono ?_
  rintro e w1 ⟨p, rfl, p0, p1, hb1⟩
  have h1 := h.bel hb1
  have hp : p = 0 ∨ p = 1 ∨ p = 2 ∨ 3 ≤ p := by omega
  rcases hp with rfl | rfl | rfl | hp
  · go_wp2_with fail
    refine (lwAt_any _ _ _ _ _ _ _ h1 (by omega) (by omega) (by decide) (by decide)).mono ?_
    rintro e w2 ⟨q, rfl, q0, q1, hb2⟩
    go_wp2_with fail
    go_ret
    exact ⟨_, rfl, wd32 _ (by first | exact wrapU_bd _ | exact bitsU_bd _ _ _ | omega), bel_trans hb1 hb2⟩
  · go_wp2_with fail
    refine (lwAt_any _ _ _ _ _ _ _ h1 (by omega) (by omega) (by decide) (by decide)).mono ?_
    rintro e w2 ⟨q, rfl, q0, q1, hb2⟩
    go_wp2_with fail
    go_ret
    exact ⟨_, rfl, wd32 _ (by first | exact wrapU_bd _ | exact bitsU_bd _ _ _ | omega), bel_trans hb1 hb2⟩
  · go_wp2_with fail
    refine (lwAt_any _ _ _ _ _ _ _ h1 (by omega) (by omega) (by decide) (by decide)).mono ?_
    rintro e w2 ⟨q, rfl, q0, q1, hb2⟩
    go_wp2_with fail
    go_ret
    exact ⟨_, rfl, wd32 _ (by first | exact wrapU_bd _ | exact bitsU_bd _ _ _ | omega), bel_trans hb1 hb2⟩
  · have e0 : (p == 0) = false := beq_eq_false_iff_ne.2 (by omega)
    have e1 : (p == 1) = false := beq_eq_false_iff_ne.2 (by omega)
    have e2 : (p == 2) = false := beq_eq_false_iff_ne.2 (by omega)
    go_wp2_with fail
    go_loopw [7, 8] (fun v k wr => ∃ (V : Int) (j : Nat), v = .int .u64 V ∧ 0 ≤ V ∧ V ≤ 18446744073709551615 ∧ k = .int .i64 j ∧ j ≤ 8 ∧ Below w.heap.size w wr) (fun _ k _ => 8 - (intOf k).toNat)
    case atStart => exact ⟨0, 0, rfl, by omega, by omega, rfl, by omega, hb1⟩
    case round =>
      obtain ⟨V, j, rfl, V0, V1, rfl, hj, hbr⟩ := hrel
      have hr := h.bel hbr
      by_cases hlt : j < 8
      · go_wp2_with fail
        refine (lwAt_any _ _ _ _ _ _ _ hr (by omega) (by omega) (by decide) (by decide)).mono ?_
        rintro e w2 ⟨q, rfl, q0, q1, hb2⟩
        go_wp2_with fail
        go_roundw
        case rel => exact ⟨_, j + 1, rfl, (bitsU_bd _ _ _).1, (bitsU_bd _ _ _).2, by go_num, by omega, bel_trans hbr hb2⟩
        case measure => simp [intOf]; omega
      · go_wp2_with fail
        go_ret
        exact ⟨_, rfl, wd32 _ (by first | exact wrapU_bd _ | exact bitsU_bd _ _ _ | omega), hbr⟩
set_option maxRecDepth 100000 in
set_option maxHeartbeats 2000000 in
theorem lwWord_64 (a : Option Addr) (len cap : Nat) (zs : List Int) (i : Int) (w : World) (h : IsRow .u8 w a len cap zs) (i0 : 0 ≤ i) (i1 : i ≤ 80) :
    Calls Tryd.prog 11 #[.slice a len cap, .int .i64 i, .int .i64 64] w fun e w' => ∃ v : Int, e = .returned (.int .u64 v) ∧ isW 64 v = true ∧ Below w.heap.size w w' := by
  go_enter Tryd.func11, Tryd.ntmps11
  go_wp2_with fail
  refine (lwAt_any _ _ _ _ _ _ _ h i0 (by omega) (by decide) (by decide)).mono ?_
  rintro e w1 ⟨p, rfl, p0, p1, hb1⟩
  have h1 := h.bel hb1
  have hp : p = 0 ∨ p = 1 ∨ p = 2 ∨ 3 ≤ p := by omega
  rcases hp with rfl | rfl | rfl | hp
  · go_wp2_with fail
    refine (lwAt_any _ _ _ _ _ _ _ h1 (by omega) (by omega) (by decide) (by decide)).mono ?_
    rintro e w2 ⟨q, rfl, q0, q1, hb2⟩
    go_wp2_with fail
    go_ret
    exact ⟨_, rfl, wd64 _ (by first | exact wrapU_bd _ | exact bitsU_bd _ _ _ | omega), bel_trans hb1 hb2⟩
  · go_wp2_with fail
    refine (lwAt_any _ _ _ _ _ _ _ h1 (by omega) (by omega) (by decide) (by decide)).mono ?_
    rintro e w2 ⟨q, rfl, q0, q1, hb2⟩
    go_wp2_with fail
    go_ret
    exact ⟨_, rfl, wd64 _ (by first | exact wrapU_bd _ | exact bitsU_bd _ _ _ | omega), bel_trans hb1 hb2⟩
  · go_wp2_with fail
    refine (lwAt_any _ _ _ _ _ _ _ h1 (by omega) (by omega) (by decide) (by decide)).mono ?_
    rintro e w2 ⟨q, rfl, q0, q1, hb2⟩
    go_wp2_with fail
    go_ret
    exact ⟨_, rfl, wd64 _ (by first | exact wrapU_bd _ | exact bitsU_bd _ _ _ | omega), bel_trans hb1 hb2⟩
  · have e0 : (p == 0) = false := beq_eq_false_iff_ne.2 (by omega)
    have e1 : (p == 1) = false := beq_eq_false_iff_ne.2 (by omega)
    have e2 : (p == 2) = false := beq_eq_false_iff_ne.2 (by omega)
    go_wp2_with fail
    go_loopw [7, 8] (fun v k wr => ∃ (V : Int) (j : Nat), v = .int .u64 V ∧ 0 ≤ V ∧ V ≤ 18446744073709551615 ∧ k = .int .i64 j ∧ j ≤ 8 ∧ Below w.heap.size w wr) (fun _ k _ => 8 - (intOf k).toNat)
    case atStart => exact ⟨0, 0, rfl, by omega, by omega, rfl, by omega, hb1⟩
    case round =>
      obtain ⟨V, j, rfl, V0, V1, rfl, hj, hbr⟩ := hrel
      have hr := h.bel hbr
      by_cases hlt : j < 8
      · go_wp2_with fail
        refine (lwAt_any _ _ _ _ _ _ _ hr (by omega) (by omega) (by decide) (by decide)).mono ?_
        rintro e w2 ⟨q, rfl, q0, q1, hb2⟩
        go_wp2_with fail
        go_roundw
        case rel => exact ⟨_, j + 1, rfl, (bitsU_bd _ _ _).1, (bitsU_bd _ _ _).2, by go_num, by omega, bel_trans hbr hb2⟩
        case measure => simp [intOf]; omega
      · go_wp2_with fail
        go_ret
        exact ⟨_, rfl, wd64 _ (by first | exact wrapU_bd _ | exact bitsU_bd _ _ _ | omega), hbr⟩
theorem lwWord_any (a : Option Addr) (len cap : Nat) (zs : List Int) (i x : Int) (w : World) (h : IsRow .u8 w a len cap zs) (i0 : 0 ≤ i) (i1 : i ≤ 80) (hx : vw x = true) :
    Calls Tryd.prog 11 #[.slice a len cap, .int .i64 i, .int .i64 x] w fun e w' => ∃ v : Int, e = .returned (.int .u64 v) ∧ isW x v = true ∧ Below w.heap.size w w' := by
  rcases vw_cases hx with rfl | rfl | rfl | rfl | rfl
  · exact lwWord_1 a len cap zs i w h i0 i1
  · exact lwWord_8 a len cap zs i w h i0 i1
  · exact lwWord_16 a len cap zs i w h i0 i1
  · exact lwWord_32 a len cap zs i w h i0 i1
  · exact lwWord_64 a len cap zs i w h i0 i1
end Go.Proofs.YtmkhkgliipalaaaDoor
