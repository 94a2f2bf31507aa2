/- Over one translation: ValidType and SizeOf of the program and of its specification answer alike at every argument, and the laws that compare them answer true and turn nothing that was there. -/
import Derived.Test.YtkldpilgihfceaaDoorBase
namespace Go.Proofs.YtkldpilgihfceaaDoor
open Go.ChangeShapes Go.WideShapes Go.ChangeAt Go.RowKit
set_option linter.unusedVariables false

theorem hid_of {p : Prop} (h : p) : Hid p := h
theorem ret_int {k : IntKind} {a b : Int} (h : a = b) : Ending.returned (.int k a) = .returned (.int k b) := by rw [h]
theorem ret_bool {a b : Bool} (h : a = b) : Ending.returned (.bool a) = .returned (.bool b) := by rw [h]
theorem vwS_no (x : Int) (w : World) (hx : vw x = false) :
    Calls Tryd.prog 9 #[.int .i64 x] w fun e w' => e = .returned (.bool false) ∧ w' = w := by
  obtain ⟨n1, n2, n3, n4, n5⟩ := vw_not hx
  have e1 : (x == 1) = false := beq_eq_false_iff_ne.2 n1
  have e2 : (x == 8) = false := beq_eq_false_iff_ne.2 n2
  have e3 : (x == 16) = false := beq_eq_false_iff_ne.2 n3
  have e4 : (x == 32) = false := beq_eq_false_iff_ne.2 n4
  have e5 : (x == 64) = false := beq_eq_false_iff_ne.2 n5
  clear hx n1 n2 n3 n4 n5
  go_enter Tryd.func9, Tryd.ntmps9
  go_wp2
  go_ret
  exact ⟨rfl, rfl⟩
theorem vwS_yes (x : Int) (w : World) (hx : vw x = true) :
    Calls Tryd.prog 9 #[.int .i64 x] w fun e w' => e = .returned (.bool true) ∧ w' = w := by
  rcases vw_cases hx with rfl | rfl | rfl | rfl | rfl
  all_goals
    clear hx
    go_enter Tryd.func9, Tryd.ntmps9
    go_wp2
    go_ret
    exact ⟨rfl, rfl⟩
def vtB (x : Int) : Bool := x == 65 || vw x
theorem vtI (x : Int) (w : World) (hw : Wid w) :
    Calls Tryd.prog 6 #[.int .i64 x] w fun e w' => e = .returned (.bool (vtB x)) ∧ w' = w := by
  by_cases e : x = 65
  · subst e
    go_enter Tryd.func6, Tryd.ntmps6
    go_wp2
    go_ret
    exact ⟨rfl, rfl⟩
  · have n : (x == 65) = false := beq_eq_false_iff_ne.2 e
    cases hx : vw x
    all_goals
      have H := hid_of hx
      have G : Hid (vtB x = (x == 65 || vw x)) := rfl
      clear hx e
      go_enter Tryd.func6, Tryd.ntmps6
      go_wp2_with (first | (go_at_call 10; refine (validWidth_any _ _ hw).mono ?_; rw [H.out]; rintro e w' ⟨rfl, rfl⟩))
      go_ret
      exact ⟨ret_bool (by rw [G.out, n, H.out]; rfl), rfl⟩
theorem vtS (x : Int) (w : World) :
    Calls Tryd.prog 5 #[.int .i64 x] w fun e w' => e = .returned (.bool (vtB x)) ∧ w' = w := by
  cases hx : vw x with
  | true =>
    have H := hid_of hx
    have G : Hid (vtB x = (x == 65 || vw x)) := rfl
    clear hx
    go_enter Tryd.func5, Tryd.ntmps5
    go_wp2_with (first | (go_at_call 9; refine (vwS_yes _ _ H.out).mono ?_; rintro e w' ⟨rfl, rfl⟩))
    go_ret
    exact ⟨ret_bool (by rw [G.out, H.out]; simp), rfl⟩
  | false =>
    have H := hid_of hx
    have G : Hid (vtB x = (x == 65 || vw x)) := rfl
    clear hx
    go_enter Tryd.func5, Tryd.ntmps5
    go_wp2_with (first | (go_at_call 9; refine (vwS_no _ _ H.out).mono ?_; rintro e w' ⟨rfl, rfl⟩))
    go_ret
    exact ⟨ret_bool (by rw [G.out, H.out]; simp), rfl⟩
def szT (x : Int) : Int := if x = 65 then 8 else if vw x then (x + 7) / 8 else 0
theorem szTI (x : Int) (w : World) (hw : Wid w) :
    Calls Tryd.prog 8 #[.int .i64 x] w fun e w' => e = .returned (.int .i64 (szT x)) ∧ w' = w := by
  by_cases e : x = 65
  · subst e
    go_enter Tryd.func8, Tryd.ntmps8
    go_wp2
    go_ret
    exact ⟨rfl, rfl⟩
  · have n : (x == 65) = false := beq_eq_false_iff_ne.2 e
    cases hx : vw x with
    | false =>
      have H := hid_of hx
      have G : Hid (szT x = 0) := by simp [szT, e, hx, Hid]
      clear hx e
      go_enter Tryd.func8, Tryd.ntmps8
      go_wp2_with (first | (go_at_call 10; refine (validWidth_no _ _ hw H.out).mono ?_; rintro e w' ⟨rfl, rfl⟩))
      go_ret
      exact ⟨ret_int (by rw [G.out]), rfl⟩
    | true =>
      clear e n
      rcases vw_cases hx with rfl | rfl | rfl | rfl | rfl
      all_goals
        clear hx
        go_enter Tryd.func8, Tryd.ntmps8
        go_wp2_with (first | (go_at_call 10; refine (validWidth_yes _ _ hw (by decide)).mono ?_; rintro e w' ⟨rfl, rfl⟩))
        go_ret
        exact ⟨rfl, rfl⟩
theorem szTS (x : Int) (w : World) :
    Calls Tryd.prog 7 #[.int .i64 x] w fun e w' => e = .returned (.int .i64 (szT x)) ∧ w' = w := by
  by_cases e : x = 65
  · subst e
    go_enter Tryd.func7, Tryd.ntmps7
    go_wp2
    go_ret
    exact ⟨rfl, rfl⟩
  · have n : (x == 65) = false := beq_eq_false_iff_ne.2 e
    cases hx : vw x with
    | false =>
      have H := hid_of hx
      have G : Hid (szT x = 0) := by simp [szT, e, hx, Hid]
      clear hx e
      go_enter Tryd.func7, Tryd.ntmps7
      go_wp2_with (first | (go_at_call 9; refine (vwS_no _ _ H.out).mono ?_; rintro e w' ⟨rfl, rfl⟩))
      go_ret
      exact ⟨ret_int (by rw [G.out]), rfl⟩
    | true =>
      clear e n
      rcases vw_cases hx with rfl | rfl | rfl | rfl | rfl
      all_goals
        clear hx
        go_enter Tryd.func7, Tryd.ntmps7
        go_wp2_with (first | (go_at_call 9; refine (vwS_yes _ _ (by decide)).mono ?_; rintro e w' ⟨rfl, rfl⟩))
        go_ret
        exact ⟨rfl, rfl⟩
/-- THE LAW OF ValidType. -/
theorem validType_law (a0 : Int) (w0 : (Lit.int .i64 a0).wf = true) (w : World) (hw : Wid w) :
    Calls Tryd.prog 3 #[.int .i64 a0] w fun e w' => e = .returned (.bool true) ∧ Below w.heap.size w w' := by
  clear w0
  go_enter Tryd.func3, Tryd.ntmps3
  go_wp2_with (first | (go_at_call 5; refine (vtS _ _).mono ?_; rintro e w' ⟨rfl, rfl⟩) | (go_at_call 6; refine (vtI _ _ hw).mono ?_; rintro e w' ⟨rfl, rfl⟩))
  go_ret
  exact ⟨rfl, Below.refl _ _⟩
/-- THE LAW OF SizeOf. -/
theorem sizeOf_law (a0 : Int) (w0 : (Lit.int .i64 a0).wf = true) (w : World) (hw : Wid w) :
    Calls Tryd.prog 4 #[.int .i64 a0] w fun e w' => e = .returned (.bool true) ∧ Below w.heap.size w w' := by
  clear w0
  go_enter Tryd.func4, Tryd.ntmps4
  go_wp2_with (first | (go_at_call 7; refine (szTS _ _).mono ?_; rintro e w' ⟨rfl, rfl⟩) | (go_at_call 8; refine (szTI _ _ hw).mono ?_; rintro e w' ⟨rfl, rfl⟩))
  go_ret
  exact ⟨rfl, Below.refl _ _⟩
end Go.Proofs.YtkldpilgihfceaaDoor
