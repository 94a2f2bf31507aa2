/- The packed texts Base, S2a, S2b. -/
import Derived.Test.YtbnkbbcncloedaaGreatDoorRows
import Derived.WalkKit
import Derived.ProofKit
import Derived.OpenShut
import Derived.WalkLawsBesides
import Derived.Lib.LaidTab
import Derived.Below
import Derived.Laws.BitsAllLaws
import Derived.Laws.Closers25b
import Derived.Test.YtbnkbbcncloedaaGreatDoorPk1
import Derived.Test.YtbnkbbcncloedaaGreatDoorPk3
import Derived.Test.YtbnkbbcncloedaaGreatDoorPk4
import Derived.Test.YtbnkbbcncloedaaGreatDoorPk5
import Derived.Test.YtbnkbbcncloedaaGreatDoorPk6
namespace Go.Proofs.YtbnkbbcncloedaaGreatDoor
section
open Go.ChangeShapes Go.WideShapes Go.ChangeAt Go.RowKit

set_option linter.unusedVariables false

structure Wid (w : World) : Prop where
  c0 : w.cell? ⟨1, 0, none⟩ = some (.int .i64 1)
  c1 : w.cell? ⟨1, 1, none⟩ = some (.int .i64 8)
  c2 : w.cell? ⟨1, 2, none⟩ = some (.int .i64 16)
  c3 : w.cell? ⟨1, 3, none⟩ = some (.int .i64 32)
  c4 : w.cell? ⟨1, 4, none⟩ = some (.int .i64 64)

def vw (x : Int) : Bool := x == 1 || x == 8 || x == 16 || x == 32 || x == 64

theorem vw_cases {x : Int} (h : vw x = true) : x = 1 ∨ x = 8 ∨ x = 16 ∨ x = 32 ∨ x = 64 := by
  simp [vw] at h; omega

theorem vw_not {x : Int} (h : vw x = false) : ¬ x = 1 ∧ ¬ x = 8 ∧ ¬ x = 16 ∧ ¬ x = 32 ∧ ¬ x = 64 := by
  simp [vw] at h; omega

theorem vw_of_not {x : Int} (h : ¬ x = 1 ∧ ¬ x = 8 ∧ ¬ x = 16 ∧ ¬ x = 32 ∧ ¬ x = 64) : vw x = false := by
  simp [vw]; omega

set_option maxRecDepth 100000 in
set_option maxHeartbeats 1000000 in
theorem validWidth_any (x : Int) (w : World) (hw : Wid w) :
    Calls Tryz.prog 186 #[.int .i64 x] w fun e w' => e = .returned (.bool (vw x)) ∧ w' = w := by
  obtain ⟨h0, h1, h2, h3, h4⟩ := hw
  have i0 : ∀ w : World, (Instr.index 257 (.agg #[.int .i64 1, .int .i64 8, .int .i64 16, .int .i64 32, .int .i64 64]) (.int .i64 0)).run Tryz.prog w = .ok (.int .i64 1) w := fun _ => by kernel_rfl
  have i1 : ∀ w : World, (Instr.index 257 (.agg #[.int .i64 1, .int .i64 8, .int .i64 16, .int .i64 32, .int .i64 64]) (.int .i64 1)).run Tryz.prog w = .ok (.int .i64 8) w := fun _ => by kernel_rfl
  have i2 : ∀ w : World, (Instr.index 257 (.agg #[.int .i64 1, .int .i64 8, .int .i64 16, .int .i64 32, .int .i64 64]) (.int .i64 2)).run Tryz.prog w = .ok (.int .i64 16) w := fun _ => by kernel_rfl
  have i3 : ∀ w : World, (Instr.index 257 (.agg #[.int .i64 1, .int .i64 8, .int .i64 16, .int .i64 32, .int .i64 64]) (.int .i64 3)).run Tryz.prog w = .ok (.int .i64 32) w := fun _ => by kernel_rfl
  have i4 : ∀ w : World, (Instr.index 257 (.agg #[.int .i64 1, .int .i64 8, .int .i64 16, .int .i64 32, .int .i64 64]) (.int .i64 4)).run Tryz.prog w = .ok (.int .i64 64) w := fun _ => by kernel_rfl
  go_enter Tryz.func186, Tryz.ntmps186
  go_wp2
  go_loop [6] (fun i => ∃ k : Nat, k ≤ 5 ∧ i = .int .i64 k ∧ (1 ≤ k → ¬ x = 1) ∧ (2 ≤ k → ¬ x = 8) ∧ (3 ≤ k → ¬ x = 16) ∧ (4 ≤ k → ¬ x = 32) ∧ (5 ≤ k → ¬ x = 64)) (fun i => 5 - (intOf i).toNat)
  case atStart => exact ⟨0, Nat.zero_le _, rfl, by omega, by omega, by omega, by omega, by omega⟩
  case round =>
    obtain ⟨k, hk, rfl, q0, q1, q2, q3, q4⟩ := hrel
    have hk5 : k = 0 ∨ k = 1 ∨ k = 2 ∨ k = 3 ∨ k = 4 ∨ k = 5 := by omega
    rcases hk5 with rfl | rfl | rfl | rfl | rfl | rfl
    · by_cases e : x = 1
      · subst e
        go_wp2
        go_ret
        exact ⟨rfl, rfl⟩
      · go_wp2
        go_round
        case rel => exact ⟨1, by omega, rfl, by omega, by omega, by omega, by omega, by omega⟩
        case measure => simp [intOf]
    · by_cases e : x = 8
      · subst e
        go_wp2
        go_ret
        exact ⟨rfl, rfl⟩
      · go_wp2
        go_round
        case rel => exact ⟨2, by omega, rfl, by omega, by omega, by omega, by omega, by omega⟩
        case measure => simp [intOf]
    · by_cases e : x = 16
      · subst e
        go_wp2
        go_ret
        exact ⟨rfl, rfl⟩
      · go_wp2
        go_round
        case rel => exact ⟨3, by omega, rfl, by omega, by omega, by omega, by omega, by omega⟩
        case measure => simp [intOf]
    · by_cases e : x = 32
      · subst e
        go_wp2
        go_ret
        exact ⟨rfl, rfl⟩
      · go_wp2
        go_round
        case rel => exact ⟨4, by omega, rfl, by omega, by omega, by omega, by omega, by omega⟩
        case measure => simp [intOf]
    · by_cases e : x = 64
      · subst e
        go_wp2
        go_ret
        exact ⟨rfl, rfl⟩
      · go_wp2
        go_round
        case rel => exact ⟨5, by omega, rfl, by omega, by omega, by omega, by omega, by omega⟩
        case measure => simp [intOf]
    · have hf : Hid (vw x = false) := vw_of_not ⟨q0 (by omega), q1 (by omega), q2 (by omega), q3 (by omega), q4 (by omega)⟩
      go_wp2
      go_ret
      exact ⟨by rw [hf.out]; rfl, rfl⟩

theorem validWidth_yes (x : Int) (w : World) (hw : Wid w) (hx : vw x = true) :
    Calls Tryz.prog 186 #[.int .i64 x] w fun e w' => e = .returned (.bool true) ∧ w' = w := by
  rw [← hx]; exact validWidth_any x w hw

theorem validWidth_no (x : Int) (w : World) (hw : Wid w) (hx : vw x = false) :
    Calls Tryz.prog 186 #[.int .i64 x] w fun e w' => e = .returned (.bool false) ∧ w' = w := by
  rw [← hx]; exact validWidth_any x w hw

theorem wid_of_laid {W : World} {rest : List (String × DataW Unit)} (h : laidMet Tryz.prog (("loop.example/g00010/impl.widths", Lib.tabData .i64 [1, 8, 16, 32, 64]) :: rest) W) : Wid W := by
  have hg : Tryz.prog.globalNamed "loop.example/g00010/impl.widths" = some 1 := by kernel_rfl
  have t := Lib.tabIs_of_head hg (by kernel_rfl) Tryz.underlying257 Tryz.underlying2 (by kernel_rfl) (by kernel_rfl) h
  exact ⟨t.cell hg 0 (by decide), t.cell hg 1 (by decide), t.cell hg 2 (by decide), t.cell hg 3 (by decide), t.cell hg 4 (by decide)⟩

theorem Wid.lt {w : World} (h : Wid w) : 1 < w.heap.size := World.block_lt_of_cell? w _ h.c0

theorem Wid.below {w w' : World} (h : Wid w) (hb : Below w.heap.size w w') : Wid w' :=
  ⟨by rw [hb.cell h.lt]; exact h.c0, by rw [hb.cell h.lt]; exact h.c1, by rw [hb.cell h.lt]; exact h.c2, by rw [hb.cell h.lt]; exact h.c3, by rw [hb.cell h.lt]; exact h.c4⟩

def cutI (w v : Int) : Int := v % 2 ^ w.toNat

def isW (w v : Int) : Bool := vw w && decide (0 ≤ v ∧ v < 2 ^ w.toNat)

theorem isW_vw {w v : Int} (h : isW w v = true) : vw w = true := by simp [isW] at h; exact h.1

theorem isW_bd {w v : Int} (h : isW w v = true) : 0 ≤ v ∧ v < 2 ^ w.toNat := by simp [isW] at h; exact h.2

theorem and_mask (k : Nat) (hk : k ≤ 64) (v m : Int) (hm : m = 2 ^ k - 1) (h0 : 0 ≤ v) (h1 : v ≤ 18446744073709551615) : bits .and .u64 v m = v % 2 ^ k := by
  have hp : (2 : Int) ^ k ≤ 2 ^ 64 := by exact_mod_cast Nat.pow_le_pow_right (by decide) hk
  have hp0 : (0 : Int) < 2 ^ k := Int.pow_pos (by decide)
  rw [u64_and v m h0 (by omega) (by omega) (by omega)]
  have e : m.toNat = 2 ^ k - 1 := by
    rw [hm]
    have : ((2 : Int) ^ k) = ((2 ^ k : Nat) : Int) := by simp
    rw [this]; have := Nat.two_pow_pos k; omega
  rw [e, Nat.and_two_pow_sub_one_eq_mod]
  have : ((2 : Int) ^ k) = ((2 ^ k : Nat) : Int) := by simp
  rw [this, Int.natCast_emod, Int.toNat_of_nonneg h0]
end
section
open Go.ChangeShapes Go.WideShapes Go.ChangeAt Go.RowKit

set_option linter.unusedVariables false

theorem hid_of {p : Prop} (h : p) : Hid p := h

theorem vwS_no (x : Int) (w : World) (hx : vw x = false) :
    Calls Tryz.prog 128 #[.int .i64 x] w fun e w' => e = .returned (.bool false) ∧ w' = w := by
  obtain ⟨n1, n2, n3, n4, n5⟩ := vw_not hx
  have e1 : (x == 1) = false := beq_eq_false_iff_ne.2 n1
  have e2 : (x == 8) = false := beq_eq_false_iff_ne.2 n2
  have e3 : (x == 16) = false := beq_eq_false_iff_ne.2 n3
  have e4 : (x == 32) = false := beq_eq_false_iff_ne.2 n4
  have e5 : (x == 64) = false := beq_eq_false_iff_ne.2 n5
  clear hx n1 n2 n3 n4 n5
  go_enter Tryz.func128, Tryz.ntmps128
  go_wp2
  go_ret
  exact ⟨rfl, rfl⟩

theorem vwS_yes (x : Int) (w : World) (hx : vw x = true) :
    Calls Tryz.prog 128 #[.int .i64 x] w fun e w' => e = .returned (.bool true) ∧ w' = w := by
  rcases vw_cases hx with rfl | rfl | rfl | rfl | rfl
  all_goals
    clear hx
    go_enter Tryz.func128, Tryz.ntmps128
    go_wp2
    go_ret
    exact ⟨rfl, rfl⟩

def vtB (x : Int) : Bool := x == 65 || vw x

theorem vtI (x : Int) (w : World) (hw : Wid w) :
    Calls Tryz.prog 144 #[.int .i64 x] w fun e w' => e = .returned (.bool (vtB x)) ∧ w' = w := by
  by_cases e : x = 65
  · subst e
    go_enter Tryz.func144, Tryz.ntmps144
    go_wp2
    go_ret
    exact ⟨rfl, rfl⟩
  · have n : (x == 65) = false := beq_eq_false_iff_ne.2 e
    cases hx : vw x
    all_goals
      have H := hid_of hx
      have G : Hid (vtB x = (x == 65 || vw x)) := rfl
      clear hx e
      go_enter Tryz.func144, Tryz.ntmps144
      go_wp2_with (first | (go_at_call 186; refine (validWidth_any _ _ hw).mono ?_; rw [H.out]; rintro e w' ⟨rfl, rfl⟩))
      go_ret
      exact ⟨ret_bool (by rw [G.out, n, H.out]; rfl), rfl⟩

theorem vtS (x : Int) (w : World) :
    Calls Tryz.prog 70 #[.int .i64 x] w fun e w' => e = .returned (.bool (vtB x)) ∧ w' = w := by
  cases hx : vw x with
  | true =>
    have H := hid_of hx
    have G : Hid (vtB x = (x == 65 || vw x)) := rfl
    clear hx
    go_enter Tryz.func70, Tryz.ntmps70
    go_wp2_with (first | (go_at_call 128; refine (vwS_yes _ _ H.out).mono ?_; rintro e w' ⟨rfl, rfl⟩))
    go_ret
    exact ⟨ret_bool (by rw [G.out, H.out]; simp), rfl⟩
  | false =>
    have H := hid_of hx
    have G : Hid (vtB x = (x == 65 || vw x)) := rfl
    clear hx
    go_enter Tryz.func70, Tryz.ntmps70
    go_wp2_with (first | (go_at_call 128; refine (vwS_no _ _ H.out).mono ?_; rintro e w' ⟨rfl, rfl⟩))
    go_ret
    exact ⟨ret_bool (by rw [G.out, H.out]; simp), rfl⟩
end
section
open Go.ChangeShapes Go.WideShapes Go.ChangeAt Go.RowKit

set_option linter.unusedVariables false

def endB (x : Int) : Bool := decide (27 ≤ x ∧ x ≤ 31)

set_option maxHeartbeats 1000000 in
theorem endI (x : Int) (w : World) :
    Calls Tryz.prog 146 #[.int .i64 x] w fun e w' => e = .returned (.bool (endB x)) ∧ w' = w := by
  go_enter Tryz.func146, Tryz.ntmps146
  go_wp2
  all_goals
    go_ret
    refine ⟨ret_bool ?_, rfl⟩
    rw [Bool.eq_iff_iff]
    simp [endB] <;> omega

set_option maxHeartbeats 1000000 in
theorem endS (x : Int) (w : World) :
    Calls Tryz.prog 73 #[.int .i64 x] w fun e w' => e = .returned (.bool (endB x)) ∧ w' = w := by
  go_enter Tryz.func73, Tryz.ntmps73
  go_wp2
  all_goals
    go_ret
    refine ⟨ret_bool ?_, rfl⟩
    rw [Bool.eq_iff_iff]
    simp [endB] <;> omega

def digB (c : Int) : Bool := decide (48 ≤ c ∧ c ≤ 57)

def letB (c : Int) : Bool := decide (97 ≤ c ∧ c ≤ 122) || decide (65 ≤ c ∧ c ≤ 90) || decide (c = 95) || decide (c = 46) || decide (c = 36)

def nameB (c : Int) : Bool := digB c || letB c

set_option maxHeartbeats 1000000 in
theorem digI (x : Int) (w : World) :
    Calls Tryz.prog 138 #[.int .u8 x] w fun e w' => e = .returned (.bool (digB x)) ∧ w' = w := by
  go_enter Tryz.func138, Tryz.ntmps138
  go_wp2
  all_goals
    go_ret
    refine ⟨ret_bool ?_, rfl⟩
    rw [Bool.eq_iff_iff]
    simp [digB] <;> omega

set_option maxHeartbeats 1000000 in
theorem letS (x : Int) (w : World) :
    Calls Tryz.prog 180 #[.int .u8 x] w fun e w' => e = .returned (.bool (letB x)) ∧ w' = w := by
  go_enter Tryz.func180, Tryz.ntmps180
  go_wp2
  all_goals
    go_ret
    refine ⟨ret_bool ?_, rfl⟩
    rw [Bool.eq_iff_iff]
    simp [letB] <;> omega

set_option maxHeartbeats 1000000 in
theorem nmI (x : Int) (w : World) :
    Calls Tryz.prog 139 #[.int .u8 x] w fun e w' => e = .returned (.bool (nameB x)) ∧ w' = w := by
  by_cases h95 : x = 95
  · subst h95
    go_enter Tryz.func139, Tryz.ntmps139
    go_wp2
    go_ret
    exact ⟨rfl, rfl⟩
  by_cases h46 : x = 46
  · subst h46
    go_enter Tryz.func139, Tryz.ntmps139
    go_wp2
    go_ret
    exact ⟨rfl, rfl⟩
  by_cases h36 : x = 36
  · subst h36
    go_enter Tryz.func139, Tryz.ntmps139
    go_wp2
    go_ret
    exact ⟨rfl, rfl⟩
  have b1 : (x == 95) = false := beq_eq_false_iff_ne.2 h95
  have b2 : (x == 46) = false := beq_eq_false_iff_ne.2 h46
  have b3 : (x == 36) = false := beq_eq_false_iff_ne.2 h36
  have G : Hid (nameB x = (digB x || decide (97 ≤ x ∧ x ≤ 122) || decide (65 ≤ x ∧ x ≤ 90))) := by rw [Hid, nameB, letB, decide_eq_false h95, decide_eq_false h46, decide_eq_false h36]; simp [Bool.or_assoc]
  clear h95 h46 h36
  cases hd : digB x with
  | true =>
    have H := hid_of hd
    clear hd
    go_enter Tryz.func139, Tryz.ntmps139
    go_wp2_with (first | (go_at_call 138; refine (digI _ _).mono ?_; rw [H.out]; rintro e w' ⟨rfl, rfl⟩))
    go_ret
    exact ⟨ret_bool (by rw [G.out, H.out]; rfl), rfl⟩
  | false =>
    have H := hid_of hd
    clear hd
    go_enter Tryz.func139, Tryz.ntmps139
    go_wp2_with (first | (go_at_call 138; refine (digI _ _).mono ?_; rw [H.out]; rintro e w' ⟨rfl, rfl⟩))
    all_goals
      go_ret
      refine ⟨ret_bool ?_, rfl⟩
      rw [G.out, H.out, Bool.eq_iff_iff]
      simp <;> omega

def bt (s : ByteArray) (k : Nat) : Int := ((s.data.toList.getD k 0).toNat : Int)

theorem bt_get (s : ByteArray) (k : Nat) (h : k < s.size) : (s[k].toNat : Int) = bt s k := by
  unfold bt
  rw [List.getD_eq_getElem?_getD, List.getElem?_eq_getElem (by simpa using h)]
  rfl

def nmB (s : ByteArray) : Bool := decide (1 ≤ s.size) && decide (s.size ≤ 24) && letB (bt s 0) && (List.range s.size).all (fun k => nameB (bt s k))

theorem nm_yes {s : ByteArray} (h1 : 1 ≤ s.size) (h2 : s.size ≤ 24) (h3 : letB (bt s 0) = true) (h4 : ∀ k, k < s.size → nameB (bt s k) = true) : nmB s = true := by
  simp [nmB, h1, h2, h3]; exact h4

theorem nm_empty {s : ByteArray} (h1 : s.size = 0) : nmB s = false := by simp [nmB, h1]

theorem nm_long {s : ByteArray} (h1 : 24 < s.size) : nmB s = false := by
  have : ¬ s.size ≤ 24 := by omega
  simp [nmB, this]

theorem nm_first {s : ByteArray} (h3 : letB (bt s 0) = false) : nmB s = false := by simp [nmB, h3]

theorem nm_bad {s : ByteArray} (k : Nat) (h : k < s.size) (h3 : nameB (bt s k) = false) : nmB s = false := by
  have : (List.range s.size).all (fun k => nameB (bt s k)) = false := by
    rw [List.all_eq_false]; exact ⟨k, by simpa using h, by simp [h3]⟩
  simp [nmB, this]

set_option maxHeartbeats 1000000 in
theorem vnI (s : ByteArray) (w : World) (hs : s.size ≤ maxLen) :
    Calls Tryz.prog 77 #[.string s] w fun e w' => e = .returned (.bool (nmB s)) ∧ w' = w := by
  unfold maxLen at hs
  by_cases h0 : s.size = 0
  · have G := hid_of (nm_empty h0)
    have z : ¬ (1 : Int) ≤ s.size := by omega
    go_enter Tryz.func77, Tryz.ntmps77
    go_wp2
    go_ret
    exact ⟨ret_bool G.out.symm, rfl⟩
  by_cases h24 : 24 < s.size
  · have G := hid_of (nm_long h24)
    have z : (24 : Int) < s.size := by omega
    have z1 : (1 : Int) ≤ s.size := by omega
    go_enter Tryz.func77, Tryz.ntmps77
    go_wp2
    go_ret
    exact ⟨ret_bool G.out.symm, rfl⟩
  have hp : 0 < s.size := by omega
  have z1 : (1 : Int) ≤ s.size := by omega
  have z2 : (s.size : Int) ≤ 24 := by omega
  have e0 := hid_of (bt_get s 0 hp)
  cases hd : digB (bt s 0) with
  | true =>
    have G := hid_of (nm_first (s := s) (by simp [digB] at hd; simp [letB]; omega))
    have H := hid_of hd
    clear hd h24 h0
    go_enter Tryz.func77, Tryz.ntmps77
    go_wp2_with (first | (go_at_call 138; refine (digI _ _).mono ?_; rw [e0.out, H.out]; rintro e w' ⟨rfl, rfl⟩))
    go_ret
    exact ⟨ret_bool G.out.symm, rfl⟩
  | false =>
    have H := hid_of hd
    clear hd h24 h0
    go_enter Tryz.func77, Tryz.ntmps77
    go_wp2_with (first | (go_at_call 138; refine (digI _ _).mono ?_; rw [e0.out, H.out]; rintro e w' ⟨rfl, rfl⟩))
    go_loop [19] (fun i => ∃ k : Nat, k ≤ s.size ∧ i = .int .i64 k ∧ ∀ j, j < k → nameB (bt s j) = true) (fun i => s.size - (intOf i).toNat)
    case atStart => exact ⟨0, by omega, rfl, fun j hj => by omega⟩
    case round =>
      obtain ⟨k, hk, rfl, hall⟩ := hrel
      by_cases hlt : k < s.size
      · have ek := hid_of (bt_get s k hlt)
        cases hn : nameB (bt s k) with
        | true =>
          have HN := hid_of hn
          clear hn
          go_wp2_with (first | (go_at_call 139; refine (nmI _ _).mono ?_; rw [ek.out, HN.out]; rintro e w' ⟨rfl, rfl⟩))
          go_round
          case rel => exact ⟨k + 1, by omega, by go_num, fun j hj => by
            by_cases e : j = k
            · rw [e]; exact HN.out
            · exact hall j (by omega)⟩
          case measure => simp [intOf]; omega
        | false =>
          have G := hid_of (nm_bad k hlt hn)
          have HN := hid_of hn
          clear hn
          go_wp2_with (first | (go_at_call 139; refine (nmI _ _).mono ?_; rw [ek.out, HN.out]; rintro e w' ⟨rfl, rfl⟩))
          go_ret
          exact ⟨ret_bool G.out.symm, rfl⟩
      · have hk' : k = s.size := by omega
        have hL : letB (bt s 0) = true := by
          have a1 := hall 0 (by omega)
          have a2 := H.out
          simpa [nameB, a2] using a1
        have G := hid_of (nm_yes (s := s) (by omega) (by omega) hL (fun j hj => hall j (by omega)))
        clear hL hk' hall
        go_wp2
        go_ret
        exact ⟨ret_bool G.out.symm, rfl⟩

theorem toList_ne {s : ByteArray} (h : 0 < s.size) : ¬ s.toList = [] := by
  intro q
  have e := (toList_nil_iff_emptyBytes s).1 q
  rw [e] at h
  exact absurd h (by decide)

set_option maxHeartbeats 1000000 in
theorem l2N (s : ByteArray) (w : World) (hs : s.size ≤ maxLen) :
    Calls Tryz.prog 127 #[.string s, .int .i64 24] w fun e w' => e = .returned (.bool (nmB s)) ∧ w' = w := by
  unfold maxLen at hs
  by_cases h0 : s.size = 0
  · have e : s = ByteArray.empty := by
      obtain ⟨⟨l⟩⟩ := s
      have : l = [] := by cases l with
        | nil => rfl
        | cons a b => simp [ByteArray.size] at h0
      subst this; rfl
    subst e
    clear h0
    go_enter Tryz.func127, Tryz.ntmps127
    go_wp2
    go_ret
    exact ⟨rfl, rfl⟩
  have hp : 0 < s.size := by omega
  have hne := toList_ne hp
  have hne2 : s.toList.isEmpty = false := by simpa using hne
  by_cases h24 : 24 < s.size
  · have G := hid_of (nm_long h24)
    have z : (24 : Int) < s.size := by omega
    go_enter Tryz.func127, Tryz.ntmps127
    go_wp2
    go_ret
    exact ⟨ret_bool G.out.symm, rfl⟩
  have z2 : (s.size : Int) ≤ 24 := by omega
  have e0 := hid_of (bt_get s 0 hp)
  cases hd : letB (bt s 0) with
  | false =>
    have G := hid_of (nm_first (s := s) hd)
    have H := hid_of hd
    clear hd h24 h0
    go_enter Tryz.func127, Tryz.ntmps127
    go_wp2_with (first | (go_at_call 180; refine (letS _ _).mono ?_; rw [e0.out, H.out]; rintro e w' ⟨rfl, rfl⟩))
    go_ret
    exact ⟨ret_bool G.out.symm, rfl⟩
  | true =>
    have H := hid_of hd
    clear hd h24 h0
    go_enter Tryz.func127, Tryz.ntmps127
    go_wp2_with (first | (go_at_call 180; refine (letS _ _).mono ?_; rw [e0.out, H.out]; rintro e w' ⟨rfl, rfl⟩))
    go_loop [5] (fun i => ∃ k : Nat, k ≤ s.size ∧ i = .int .i64 k ∧ ∀ j, j < k → nameB (bt s j) = true) (fun i => s.size - (intOf i).toNat)
    case atStart => exact ⟨0, by omega, rfl, fun j hj => by omega⟩
    case round =>
      obtain ⟨k, hk, rfl, hall⟩ := hrel
      by_cases hlt : k < s.size
      · have ek := hid_of (bt_get s k hlt)
        cases hl : letB (bt s k) with
        | true =>
          have HN := hid_of hl
          clear hl
          go_wp2_with (first | (go_at_call 180; refine (letS _ _).mono ?_; rw [ek.out, HN.out]; rintro e w' ⟨rfl, rfl⟩))
          go_round
          case rel => exact ⟨k + 1, by omega, by go_num, fun j hj => by
            by_cases e : j = k
            · rw [e]; simp [nameB, HN.out]
            · exact hall j (by omega)⟩
          case measure => simp [intOf]; omega
        | false =>
          have HN := hid_of hl
          clear hl
          cases hq : digB (bt s k) with
          | true =>
            have HD := hid_of hq
            have hq' : 48 ≤ (s[k].toNat : Int) ∧ (s[k].toNat : Int) ≤ 57 := by rw [ek.out]; simpa [digB] using hq
            obtain ⟨q1, q2⟩ := hq'
            clear hq
            go_wp2_with (first | (go_at_call 180; refine (letS _ _).mono ?_; rw [ek.out, HN.out]; rintro e w' ⟨rfl, rfl⟩))
            go_round
            case rel => exact ⟨k + 1, by omega, by go_num, fun j hj => by
              by_cases e : j = k
              · rw [e]; simp [nameB, HD.out]
              · exact hall j (by omega)⟩
            case measure => simp [intOf]; omega
          | false =>
            have G := hid_of (nm_bad k hlt (by simp [nameB, hq, HN.out]))
            have hq' : (s[k].toNat : Int) < 48 ∨ 48 ≤ (s[k].toNat : Int) ∧ 57 < (s[k].toNat : Int) := by rw [ek.out]; simp [digB] at hq; omega
            clear hq
            rcases hq' with q1 | ⟨q1, q2⟩
            all_goals
              go_wp2_with (first | (go_at_call 180; refine (letS _ _).mono ?_; rw [ek.out, HN.out]; rintro e w' ⟨rfl, rfl⟩))
              go_ret
              exact ⟨ret_bool G.out.symm, rfl⟩
      · have hk' : k = s.size := by omega
        have G := hid_of (nm_yes (s := s) (by omega) (by omega) H.out (fun j hj => hall j (by omega)))
        clear hk' hall
        go_wp2
        go_ret
        exact ⟨ret_bool G.out.symm, rfl⟩

theorem vnS (s : ByteArray) (w : World) (hs : s.size ≤ maxLen) :
    Calls Tryz.prog 69 #[.string s] w fun e w' => e = .returned (.bool (nmB s)) ∧ w' = w := by
  go_enter Tryz.func69, Tryz.ntmps69
  go_wp2_with (first | (go_at_call 127; refine (l2N _ _ hs).mono ?_; rintro e w' ⟨rfl, rfl⟩))
  go_ret
  exact ⟨rfl, rfl⟩
end
end Go.Proofs.YtbnkbbcncloedaaGreatDoor
