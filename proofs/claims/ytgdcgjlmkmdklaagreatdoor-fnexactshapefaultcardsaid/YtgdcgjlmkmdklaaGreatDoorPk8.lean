/- Texts of one claim. -/
import Derived.Test.YtgdcgjlmkmdklaaGreatDoorPk0
import Derived.Test.YtgdcgjlmkmdklaaGreatDoorRows
import Derived.WalkKit
import Derived.ProofKit
import Derived.OpenShut
import Derived.WalkLawsBesides
import Derived.Below
import Derived.Laws.Closers25b
namespace Go.Proofs.YtgdcgjlmkmdklaaGreatDoor
open Go.ChangeShapes Go.WideShapes Go.ChangeAt Go.RowKit
set_option linter.unusedVariables false
theorem hid_of {p : Prop} (h : p) : Hid p := h
theorem ret_bool {a b : Bool} (h : a = b) : Ending.returned (.bool a) = .returned (.bool b) := by rw [h]
def endB (x : Int) : Bool := decide (27 ≤ x ∧ x ≤ 31)
set_option maxHeartbeats 1000000 in
theorem endI (x : Int) (w : World) :
  Calls Tryz.prog 105 #[.int .i64 x] w fun e w' => e = .returned (.bool (endB x)) ∧ w' = w := by
 go_enter Tryz.func105, Tryz.ntmps105
 exact tl130
set_option maxHeartbeats 1000000 in
theorem endS (x : Int) (w : World) :
  Calls Tryz.prog 49 #[.int .i64 x] w fun e w' => e = .returned (.bool (endB x)) ∧ w' = w := by
 go_enter Tryz.func49, Tryz.ntmps49
 exact tl130
def digB (c : Int) : Bool := decide (48 ≤ c ∧ c ≤ 57)
def letB (c : Int) : Bool := decide (97 ≤ c ∧ c ≤ 122) || decide (65 ≤ c ∧ c ≤ 90) || decide (c = 95) || decide (c = 46) || decide (c = 36)
def nameB (c : Int) : Bool := digB c || letB c
theorem let_cases {c : Int} (h : letB c = true) : (97 ≤ c ∧ c ≤ 122) ∨ (65 ≤ c ∧ c ≤ 90) ∨ c = 95 ∨ c = 46 ∨ c = 36 := by simp [letB] at h; omega
theorem let_not {c : Int} (h : letB c = false) : ¬ (97 ≤ c ∧ c ≤ 122) ∧ ¬ (65 ≤ c ∧ c ≤ 90) ∧ ¬ c = 95 ∧ ¬ c = 46 ∧ ¬ c = 36 := by simp [letB] at h; omega
set_option maxHeartbeats 1000000 in
theorem digI (x : Int) (w : World) :
  Calls Tryz.prog 96 #[.int .u8 x] w fun e w' => e = .returned (.bool (digB x)) ∧ w' = w := by
 go_enter Tryz.func96, Tryz.ntmps96
 go_wp2
 all_goals
  go_ret
  refine ⟨ret_bool ?_, rfl⟩
  rw [Bool.eq_iff_iff]
  simp [digB] <;> omega
set_option maxHeartbeats 1000000 in
theorem letS (x : Int) (w : World) :
  Calls Tryz.prog 131 #[.int .u8 x] w fun e w' => e = .returned (.bool (letB x)) ∧ w' = w := by
 go_enter Tryz.func131, Tryz.ntmps131
 go_wp2
 all_goals
  go_ret
  refine ⟨ret_bool ?_, rfl⟩
  rw [Bool.eq_iff_iff]
  simp [letB] <;> omega
set_option maxHeartbeats 1000000 in
theorem nmI (x : Int) (w : World) :
  Calls Tryz.prog 97 #[.int .u8 x] w fun e w' => e = .returned (.bool (nameB x)) ∧ w' = w := by
 by_cases h95 : x = 95
 ·subst h95
  exact tl115
 by_cases h46 : x = 46
 ·subst h46
  exact tl115
 by_cases h36 : x = 36
 ·subst h36
  exact tl115
 have b1 : (x == 95) = false := beq_eq_false_iff_ne.2 h95
 have b2 : (x == 46) = false := beq_eq_false_iff_ne.2 h46
 have b3 : (x == 36) = false := beq_eq_false_iff_ne.2 h36
 have G : Hid (nameB x = (digB x || decide (97 ≤ x ∧ x ≤ 122) || decide (65 ≤ x ∧ x ≤ 90))) := by rw [Hid, nameB, letB, decide_eq_false h95, decide_eq_false h46, decide_eq_false h36]; simp [Bool.or_assoc]
 clear h95 h46 h36
 cases hd : digB x with
 | true =>
  have H := hid_of hd
  clear hd
  go_enter Tryz.func97, Tryz.ntmps97
  go_wp2_with (first | (go_at_call 96; refine (digI _ _).mono ?_; rw [H.out]; rintro e w' ⟨rfl, rfl⟩))
  go_ret
  exact ⟨ret_bool (by rw [G.out, H.out]; rfl), rfl⟩
 | false =>
  have H := hid_of hd
  clear hd
  go_enter Tryz.func97, Tryz.ntmps97
  go_wp2_with (first | (go_at_call 96; refine (digI _ _).mono ?_; rw [H.out]; rintro e w' ⟨rfl, rfl⟩))
  all_goals
   go_ret
   refine ⟨ret_bool ?_, rfl⟩
   rw [G.out, H.out, Bool.eq_iff_iff]
   simp <;> omega
theorem byte_bd (s : ByteArray) (k : Nat) (h : k < s.size) : 0 ≤ (s[k].toNat : Int) ∧ (s[k].toNat : Int) ≤ 255 := by
 have := s[k].toNat_lt
 omega
def bt (s : ByteArray) (k : Nat) : Int := ((s.data.toList.getD k 0).toNat : Int)
theorem bt_get (s : ByteArray) (k : Nat) (h : k < s.size) : (s[k].toNat : Int) = bt s k := by
 unfold bt
 rw [List.getD_eq_getElem?_getD, List.getElem?_eq_getElem (by simpa using h)]
 rfl
def nmB (s : ByteArray) : Bool := decide (1 ≤ s.size) && decide (s.size ≤ 24) && letB (bt s 0) && (List.range s.size).all (fun k => nameB (bt s k))
theorem nm_yes {s : ByteArray} (h1 : 1 ≤ s.size) (h2 : s.size ≤ 24) (h3 : letB (bt s 0) = true) (h4 : ∀ k, k < s.size → nameB (bt s k) = true) : nmB s = true := by
 simp [nmB, h1, h2, h3]; exact h4
theorem nm_empty {s : ByteArray} (h1 : s.size = 0) : nmB s = false := by simp [nmB, h1]
theorem nm_long {s : ByteArray} (h1 : 24 < s.size) : nmB s = false := by
 have : ¬ s.size ≤ 24 := by omega
 simp [nmB, this]
theorem nm_first {s : ByteArray} (h3 : letB (bt s 0) = false) : nmB s = false := by simp [nmB, h3]
theorem nm_bad {s : ByteArray} (k : Nat) (h : k < s.size) (h3 : nameB (bt s k) = false) : nmB s = false := by
 have : (List.range s.size).all (fun k => nameB (bt s k)) = false := by
  rw [List.all_eq_false]; exact ⟨k, by simpa using h, by simp [h3]⟩
 simp [nmB, this]
set_option maxHeartbeats 1000000 in
theorem vnI (s : ByteArray) (w : World) (hs : s.size ≤ maxLen) :
  Calls Tryz.prog 53 #[.string s] w fun e w' => e = .returned (.bool (nmB s)) ∧ w' = w := by
 unfold maxLen at hs
 by_cases h0 : s.size = 0
 ·have G := hid_of (nm_empty h0)
  have z : ¬ (1 : Int) ≤ s.size := by omega
  go_enter Tryz.func53, Tryz.ntmps53
  go_wp2
  go_ret
  exact ⟨ret_bool G.out.symm, rfl⟩
 by_cases h24 : 24 < s.size
 ·have G := hid_of (nm_long h24)
  have z : (24 : Int) < s.size := by omega
  have z1 : (1 : Int) ≤ s.size := by omega
  go_enter Tryz.func53, Tryz.ntmps53
  go_wp2
  go_ret
  exact ⟨ret_bool G.out.symm, rfl⟩
 have hp : 0 < s.size := by omega
 have z1 : (1 : Int) ≤ s.size := by omega
 have z2 : (s.size : Int) ≤ 24 := by omega
 have e0 := hid_of (bt_get s 0 hp)
 cases hd : digB (bt s 0) with
 | true =>
  have G := hid_of (nm_first (s := s) (by simp [digB] at hd; simp [letB]; omega))
  have H := hid_of hd
  clear hd h24 h0
  go_enter Tryz.func53, Tryz.ntmps53
  go_wp2_with (first | (go_at_call 96; refine (digI _ _).mono ?_; rw [e0.out, H.out]; rintro e w' ⟨rfl, rfl⟩))
  go_ret
  exact ⟨ret_bool G.out.symm, rfl⟩
 | false =>
  have H := hid_of hd
  clear hd h24 h0
  go_enter Tryz.func53, Tryz.ntmps53
  go_wp2_with (first | (go_at_call 96; refine (digI _ _).mono ?_; rw [e0.out, H.out]; rintro e w' ⟨rfl, rfl⟩))
  go_loop [19] (fun i => ∃ k : Nat, k ≤ s.size ∧ i = .int .i64 k ∧ ∀ j, j < k → nameB (bt s j) = true) (fun i => s.size - (intOf i).toNat)
  case atStart => exact ⟨0, by omega, rfl, fun j hj => by omega⟩
  case round =>
   obtain ⟨k, hk, rfl, hall⟩ := hrel
   by_cases hlt : k < s.size
   ·have ek := hid_of (bt_get s k hlt)
    cases hn : nameB (bt s k) with
    | true =>
     have HN := hid_of hn
     clear hn
     go_wp2_with (first | (go_at_call 97; refine (nmI _ _).mono ?_; rw [ek.out, HN.out]; rintro e w' ⟨rfl, rfl⟩))
     go_round
     case rel => exact ⟨k + 1, by omega, by go_num, fun j hj => by
      by_cases e : j = k
      ·rw [e]; exact HN.out
      ·exact hall j (by omega)⟩
     case measure => simp [intOf]; omega
    | false =>
     have G := hid_of (nm_bad k hlt hn)
     have HN := hid_of hn
     clear hn
     go_wp2_with (first | (go_at_call 97; refine (nmI _ _).mono ?_; rw [ek.out, HN.out]; rintro e w' ⟨rfl, rfl⟩))
     go_ret
     exact ⟨ret_bool G.out.symm, rfl⟩
   ·have hk' : k = s.size := by omega
    have hL : letB (bt s 0) = true := by
     have a1 := hall 0 (by omega)
     have a2 := H.out
     simpa [nameB, a2] using a1
    have G := hid_of (nm_yes (s := s) (by omega) (by omega) hL (fun j hj => hall j (by omega)))
    clear hL hk' hall
    go_wp2
    go_ret
    exact ⟨ret_bool G.out.symm, rfl⟩
theorem toList_ne {s : ByteArray} (h : 0 < s.size) : ¬ s.toList = [] := by
 intro q
 have e := (toList_nil_iff_emptyBytes s).1 q
 rw [e] at h
 exact absurd h (by decide)
set_option maxHeartbeats 1000000 in
theorem l2N (s : ByteArray) (w : World) (hs : s.size ≤ maxLen) :
  Calls Tryz.prog 85 #[.string s, .int .i64 24] w fun e w' => e = .returned (.bool (nmB s)) ∧ w' = w := by
 unfold maxLen at hs
 by_cases h0 : s.size = 0
 ·have e : s = ByteArray.empty := by
   obtain ⟨⟨l⟩⟩ := s
   have : l = [] := by cases l with
    | nil => rfl
    | cons a b => simp [ByteArray.size] at h0
   subst this; rfl
  subst e
  clear h0
  go_enter Tryz.func85, Tryz.ntmps85
  go_wp2
  go_ret
  exact ⟨rfl, rfl⟩
 have hp : 0 < s.size := by omega
 have hne := toList_ne hp
 have hne2 : s.toList.isEmpty = false := by simpa using hne
 by_cases h24 : 24 < s.size
 ·have G := hid_of (nm_long h24)
  have z : (24 : Int) < s.size := by omega
  go_enter Tryz.func85, Tryz.ntmps85
  go_wp2
  go_ret
  exact ⟨ret_bool G.out.symm, rfl⟩
 have z2 : (s.size : Int) ≤ 24 := by omega
 have e0 := hid_of (bt_get s 0 hp)
 cases hd : letB (bt s 0) with
 | false =>
  have G := hid_of (nm_first (s := s) hd)
  have H := hid_of hd
  clear hd h24 h0
  go_enter Tryz.func85, Tryz.ntmps85
  go_wp2_with (first | (go_at_call 131; refine (letS _ _).mono ?_; rw [e0.out, H.out]; rintro e w' ⟨rfl, rfl⟩))
  go_ret
  exact ⟨ret_bool G.out.symm, rfl⟩
 | true =>
  have H := hid_of hd
  clear hd h24 h0
  go_enter Tryz.func85, Tryz.ntmps85
  go_wp2_with (first | (go_at_call 131; refine (letS _ _).mono ?_; rw [e0.out, H.out]; rintro e w' ⟨rfl, rfl⟩))
  go_loop [5] (fun i => ∃ k : Nat, k ≤ s.size ∧ i = .int .i64 k ∧ ∀ j, j < k → nameB (bt s j) = true) (fun i => s.size - (intOf i).toNat)
  case atStart => exact ⟨0, by omega, rfl, fun j hj => by omega⟩
  case round =>
   obtain ⟨k, hk, rfl, hall⟩ := hrel
   by_cases hlt : k < s.size
   ·have ek := hid_of (bt_get s k hlt)
    cases hl : letB (bt s k) with
    | true =>
     have HN := hid_of hl
     clear hl
     go_wp2_with (first | (go_at_call 131; refine (letS _ _).mono ?_; rw [ek.out, HN.out]; rintro e w' ⟨rfl, rfl⟩))
     go_round
     case rel => exact ⟨k + 1, by omega, by go_num, fun j hj => by
      by_cases e : j = k
      ·rw [e]; simp [nameB, HN.out]
      ·exact hall j (by omega)⟩
     case measure => simp [intOf]; omega
    | false =>
     have HN := hid_of hl
     clear hl
     cases hq : digB (bt s k) with
     | true =>
      have HD := hid_of hq
      have hq' : 48 ≤ (s[k].toNat : Int) ∧ (s[k].toNat : Int) ≤ 57 := by rw [ek.out]; simpa [digB] using hq
      obtain ⟨q1, q2⟩ := hq'
      clear hq
      go_wp2_with (first | (go_at_call 131; refine (letS _ _).mono ?_; rw [ek.out, HN.out]; rintro e w' ⟨rfl, rfl⟩))
      go_round
      case rel => exact ⟨k + 1, by omega, by go_num, fun j hj => by
       by_cases e : j = k
       ·rw [e]; simp [nameB, HD.out]
       ·exact hall j (by omega)⟩
      case measure => simp [intOf]; omega
     | false =>
      have G := hid_of (nm_bad k hlt (by simp [nameB, hq, HN.out]))
      have hq' : (s[k].toNat : Int) < 48 ∨ 48 ≤ (s[k].toNat : Int) ∧ 57 < (s[k].toNat : Int) := by rw [ek.out]; simp [digB] at hq; omega
      clear hq
      rcases hq' with q1 | ⟨q1, q2⟩
      all_goals
       go_wp2_with (first | (go_at_call 131; refine (letS _ _).mono ?_; rw [ek.out, HN.out]; rintro e w' ⟨rfl, rfl⟩))
       go_ret
       exact ⟨ret_bool G.out.symm, rfl⟩
   ·have hk' : k = s.size := by omega
    have G := hid_of (nm_yes (s := s) (by omega) (by omega) H.out (fun j hj => hall j (by omega)))
    clear hk' hall
    go_wp2
    go_ret
    exact ⟨ret_bool G.out.symm, rfl⟩
theorem vnS (s : ByteArray) (w : World) (hs : s.size ≤ maxLen) :
  Calls Tryz.prog 45 #[.string s] w fun e w' => e = .returned (.bool (nmB s)) ∧ w' = w := by
 go_enter Tryz.func45, Tryz.ntmps45
 go_wp2_with (first | (go_at_call 85; refine (l2N _ _ hs).mono ?_; rintro e w' ⟨rfl, rfl⟩))
 go_ret
 exact ⟨rfl, rfl⟩
end Go.Proofs.YtgdcgjlmkmdklaaGreatDoor
