/- TypeName, OpName and PredName of the program and of its specification answer alike at every number. -/
import Derived.Test.YtbfhfhkicdigaaaNm5
namespace Go.Proofs.Ytbfhfhkicdigaaa
open Go.ChangeShapes Go.WideShapes Go.ChangeAt Go.RowKit Go.Maps
set_option linter.unusedVariables false
set_option linter.unusedSimpArgs false

theorem TypeNameI (c : Int) (wc : (Lit.int .i64 c).wf = true) (w : World) :
    Calls Try.prog 7 #[.int .i64 c] w fun e w' => e = .returned (.string (nmOf typesL c)) ∧ Below w.heap.size w w' := by
  have C1 := typeNaming_c (H := Unit) w
  go_enter Try.func7, Try.ntmps7
  go_wp2_with fail
  refine C1.mono ?_
  rintro e w1 ⟨b, n, b2, n2, D, rfl, -, hN, hF, -, -, hB⟩
  have C2 := nameOf_c typesL b2 n2 D (.map (some b)) c wc w1 hN hF
  go_wp2_with fail
  refine C2.mono ?_
  rintro e w2 ⟨rfl, hB2⟩
  go_wp2_with fail
  go_ret
  exact ⟨rfl, bel_trans hB hB2⟩

theorem OpNameI (c : Int) (wc : (Lit.int .i64 c).wf = true) (w : World) :
    Calls Try.prog 9 #[.int .i64 c] w fun e w' => e = .returned (.string (nmOf opsL c)) ∧ Below w.heap.size w w' := by
  have C1 := opNaming_c (H := Unit) w
  go_enter Try.func9, Try.ntmps9
  go_wp2_with fail
  refine C1.mono ?_
  rintro e w1 ⟨b, n, b2, n2, D, rfl, -, hN, hF, -, -, hB⟩
  have C2 := nameOf_c opsL b2 n2 D (.map (some b)) c wc w1 hN hF
  go_wp2_with fail
  refine C2.mono ?_
  rintro e w2 ⟨rfl, hB2⟩
  go_wp2_with fail
  go_ret
  exact ⟨rfl, bel_trans hB hB2⟩

theorem PredNameI (c : Int) (wc : (Lit.int .i64 c).wf = true) (w : World) :
    Calls Try.prog 11 #[.int .i64 c] w fun e w' => e = .returned (.string (nmOf predsL c)) ∧ Below w.heap.size w w' := by
  have C1 := predNaming_c (H := Unit) w
  go_enter Try.func11, Try.ntmps11
  go_wp2_with fail
  refine C1.mono ?_
  rintro e w1 ⟨b, n, b2, n2, D, rfl, -, hN, hF, -, -, hB⟩
  have C2 := nameOf_c predsL b2 n2 D (.map (some b)) c wc w1 hN hF
  go_wp2_with fail
  refine C2.mono ?_
  rintro e w2 ⟨rfl, hB2⟩
  go_wp2_with fail
  go_ret
  exact ⟨rfl, bel_trans hB hB2⟩

set_option maxHeartbeats 1000000 in
theorem TypeNameS (c : Int) (w : World) :
    Calls Try.prog 6 #[.int .i64 c] w fun e w' => e = .returned (.string (nmOf typesL c)) ∧ Below w.heap.size w w' := by
  by_cases h0 : c = 0
  · subst h0
    as_aux_lemma =>
      go_enter Try.func6, Try.ntmps6
      go_wp2
      go_ret
      exact ⟨rfl, Below.refl _ _⟩
  by_cases h1 : c = 1
  · clear h0
    subst h1
    as_aux_lemma =>
      go_enter Try.func6, Try.ntmps6
      go_wp2
      go_ret
      exact ⟨rfl, Below.refl _ _⟩
  by_cases h8 : c = 8
  · clear h0 h1
    subst h8
    as_aux_lemma =>
      go_enter Try.func6, Try.ntmps6
      go_wp2
      go_ret
      exact ⟨rfl, Below.refl _ _⟩
  by_cases h16 : c = 16
  · clear h0 h1 h8
    subst h16
    as_aux_lemma =>
      go_enter Try.func6, Try.ntmps6
      go_wp2
      go_ret
      exact ⟨rfl, Below.refl _ _⟩
  by_cases h32 : c = 32
  · clear h0 h1 h8 h16
    subst h32
    as_aux_lemma =>
      go_enter Try.func6, Try.ntmps6
      go_wp2
      go_ret
      exact ⟨rfl, Below.refl _ _⟩
  by_cases h64 : c = 64
  · clear h0 h1 h8 h16 h32
    subst h64
    as_aux_lemma =>
      go_enter Try.func6, Try.ntmps6
      go_wp2
      go_ret
      exact ⟨rfl, Below.refl _ _⟩
  by_cases h65 : c = 65
  · clear h0 h1 h8 h16 h32 h64
    subst h65
    as_aux_lemma =>
      go_enter Try.func6, Try.ntmps6
      go_wp2
      go_ret
      exact ⟨rfl, Below.refl _ _⟩
  have he : Kp (nmOf typesL c = ByteArray.empty) := ⟨nm_none (by simp [typesL]; omega)⟩
  go_enter Try.func6, Try.ntmps6
  go_wp2
  all_goals first | (exfalso; omega) | skip
  all_goals
    go_ret
    exact ⟨by rw [he.out]; rfl, Below.refl _ _⟩
theorem typeName_law (a0 : Int) (w0 : (Lit.int .i64 a0).wf = true) (w : World) :
    Calls Try.prog 3 #[.int .i64 a0] w fun e w' => e = .returned (.bool true) ∧ Below w.heap.size w w' := by
  have C1 : Kp _ := ⟨TypeNameS a0⟩
  have C2 : Kp _ := ⟨TypeNameI a0 w0⟩
  go_enter Try.func3, Try.ntmps3
  go_wp2_with fail
  refine (C1.out _).mono ?_
  rintro e w1 ⟨rfl, hB⟩
  go_wp2_with fail
  refine (C2.out _).mono ?_
  rintro e w2 ⟨rfl, hB2⟩
  go_wp2
  go_ret
  exact ⟨rfl, bel_trans hB hB2⟩
theorem opName_law (a0 : Int) (w0 : (Lit.int .i64 a0).wf = true) (w : World) :
    Calls Try.prog 4 #[.int .i64 a0] w fun e w' => e = .returned (.bool true) ∧ Below w.heap.size w w' := by
  have C1 : Kp _ := ⟨OpNameS a0⟩
  have C2 : Kp _ := ⟨OpNameI a0 w0⟩
  go_enter Try.func4, Try.ntmps4
  go_wp2_with fail
  refine (C1.out _).mono ?_
  rintro e w1 ⟨rfl, hB⟩
  go_wp2_with fail
  refine (C2.out _).mono ?_
  rintro e w2 ⟨rfl, hB2⟩
  go_wp2
  go_ret
  exact ⟨rfl, bel_trans hB hB2⟩
theorem predName_law (a0 : Int) (w0 : (Lit.int .i64 a0).wf = true) (w : World) :
    Calls Try.prog 5 #[.int .i64 a0] w fun e w' => e = .returned (.bool true) ∧ Below w.heap.size w w' := by
  have C1 : Kp _ := ⟨PredNameS a0⟩
  have C2 : Kp _ := ⟨PredNameI a0 w0⟩
  go_enter Try.func5, Try.ntmps5
  go_wp2_with fail
  refine (C1.out _).mono ?_
  rintro e w1 ⟨rfl, hB⟩
  go_wp2_with fail
  refine (C2.out _).mono ?_
  rintro e w2 ⟨rfl, hB2⟩
  go_wp2
  go_ret
  exact ⟨rfl, bel_trans hB hB2⟩
end Go.Proofs.Ytbfhfhkicdigaaa
