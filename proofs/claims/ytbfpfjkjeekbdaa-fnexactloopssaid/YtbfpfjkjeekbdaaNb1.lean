/- Where a block goes: the data; the specification's answer. -/
import Derived.Test.YtbfpfjkjeekbdaaVt2
namespace Go.Proofs.Ytbfpfjkjeekbdaa
open Go.ChangeShapes Go.WideShapes Go.ChangeAt Go.RowKit
set_option linter.unusedVariables false
set_option linter.unusedSimpArgs false
/-- Those of a list that are blocks, each once, behind those that are known. -/
def nxF (n : Nat) : List Int → List Int → List Int
  | acc, [] => acc
  | acc, b :: r => nxF n (if (decide (0 ≤ b) && decide (b < (n : Int)) && !acc.contains b) = true then acc ++ [b] else acc) r
theorem nxF_len (n : Nat) (acc l : List Int) : (nxF n acc l).length ≤ acc.length + l.length := by
  induction l generalizing acc with
  | nil => simp [nxF]
  | cons x r ih =>
    unfold nxF
    split
    · have := ih (acc ++ [x]); simp at this ⊢; omega
    · have := ih acc; simp; omega
theorem nxF_le (n : Nat) (acc l : List Int) : acc.length ≤ (nxF n acc l).length := by
  induction l generalizing acc with
  | nil => simp [nxF]
  | cons x r ih =>
    unfold nxF
    split
    · have := ih (acc ++ [x]); simp at this ⊢; omega
    · exact ih acc
theorem nxF_mem (n : Nat) (acc l : List Int) (x : Int) : x ∈ nxF n acc l ↔ x ∈ acc ∨ (x ∈ l ∧ 0 ≤ x ∧ x < n) := by
  induction l generalizing acc with
  | nil => simp [nxF]
  | cons y r ih =>
    unfold nxF
    rw [ih]
    split
    · rename_i h
      simp only [Bool.and_eq_true, decide_eq_true_eq, Bool.not_eq_true', List.contains_eq_mem, decide_eq_false_iff_not] at h
      simp only [List.mem_append, List.mem_cons, List.mem_nil_iff, or_false]
      constructor
      · rintro ((h1 | rfl) | h2)
        · exact .inl h1
        · exact .inr ⟨.inl rfl, h.1⟩
        · exact .inr ⟨.inr h2.1, h2.2⟩
      · rintro (h1 | ⟨rfl | h2, h3⟩)
        · exact .inl (.inl h1)
        · exact .inl (.inr rfl)
        · exact .inr ⟨h2, h3⟩
    · rename_i h
      simp only [Bool.and_eq_true, decide_eq_true_eq, Bool.not_eq_true', List.contains_eq_mem, decide_eq_false_iff_not, not_and, Decidable.not_not] at h
      constructor
      · rintro (h1 | h2)
        · exact .inl h1
        · exact .inr ⟨by simp [h2.1], h2.2⟩
      · rintro (h1 | ⟨h2, h3⟩)
        · exact .inl h1
        · rcases List.mem_cons.1 h2 with rfl | h2
          · exact .inl (h h3)
          · exact .inr ⟨h2, h3⟩
/-- What a block's last instruction names. -/
def lastB (x : List InD) : List Int := match x.getLast? with | some i => i.bl | none => []
def lastBl (bls : List (List InD)) (b : Int) : List Int := if 0 ≤ b ∧ b < bls.length then lastB (bls.getD b.toNat []) else []
def nextL (bls : List (List InD)) (b : Int) : List Int := nxF bls.length [] (lastBl bls b)
theorem lastBl_out {bls : List (List InD)} {b : Int} (h : ¬ (0 ≤ b ∧ b < bls.length)) : lastBl bls b = [] := if_neg h
theorem lastBl_in {bls : List (List InD)} {b : Nat} (h : b < bls.length) : lastBl bls b = lastB bls[b] := by
  unfold lastBl
  rw [if_pos ⟨by omega, by omega⟩]
  simp [h]
theorem lastB_nil : lastB [] = [] := rfl
theorem lastB_at (x : List InD) (h : 0 < x.length) : lastB x = (x[x.length - 1]'(by omega)).bl := by
  unfold lastB
  rw [List.getLast?_eq_getElem?, List.getElem?_eq_getElem (by omega)]
theorem lastB_len {x : List InD} : ((lastB x).length : Int) ≤ insN x := by
  by_cases h : 0 < x.length
  · rw [lastB_at x h]
    have := (insN_of x).1 (x.length - 1) (by omega)
    unfold inN at this
    omega
  · have := insN_nn x
    have : x = [] := List.length_eq_zero_iff.1 (by omega)
    subst this
    simp [lastB_nil]
    omega
theorem lastBl_len {bls : List (List InD)} {b : Int} : ((lastBl bls b).length : Int) ≤ blsN bls := by
  unfold lastBl
  split
  · rename_i h
    obtain ⟨k, rfl⟩ : ∃ k : Nat, b = k := ⟨b.toNat, by omega⟩
    have hk : k < bls.length := by omega
    have := (blsN_of bls).1 k hk
    have h2 := lastB_len (x := bls[k])
    unfold blN at this
    simp only [Int.toNat_natCast, List.getD_eq_getElem?_getD, List.getElem?_eq_getElem hk, Option.getD_some]
    omega
  · have := blsN_nn bls
    simpa using this
theorem nextL_len {bls : List (List InD)} {b : Int} : ((nextL bls b).length : Int) ≤ blsN bls := by
  have h1 := nxF_len bls.length [] (lastBl bls b)
  have h2 := @lastBl_len bls b
  unfold nextL
  simp only [List.length_nil, Nat.zero_add] at h1
  omega
set_option maxRecDepth 100000 in
set_option maxHeartbeats 2000000 in
theorem hasS (v : Value) (xs : List Int) (x : Int) (w : World) {lo : Nat} (h : Ints lo .i64 w v xs) (hn : xs.length ≤ 1048576) :
    Calls Try.prog 68 #[v, .int .i64 x] w fun e w' => e = .returned (.bool (xs.contains x)) ∧ Below w.heap.size w w' := by
  obtain ⟨b, o, ⟨⟨a, cap, rfl, h1, h2⟩, h3⟩, -, hc⟩ := h.ex
  obtain ⟨R, hR⟩ : ∃ R, R = xs.contains x := ⟨_, rfl⟩
  rw [← hR]
  replace hR := Kp.mk hR
  replace h2 := Kp.mk h2
  replace hc := Kp.mk hc
  go_enter Try.func68, Try.ntmps68
  go_wp2_with fail
  go_loopw [5] (fun s wr => ∃ i : Nat, i ≤ xs.length ∧ s = .int .i64 i ∧ Kp ((xs.drop i).contains x = R) ∧ wr = w) (fun s _ => xs.length - (intOf s).toNat)
  case atStart => exact ⟨0, Nat.zero_le _, rfl, ⟨by rw [List.drop_zero]; exact hR.out.symm⟩, rfl⟩
  case round =>
    obtain ⟨i, hi, rfl, hd, rfl⟩ := hrel
    by_cases hlt : i < xs.length
    · obtain rfl := h2.out (by omega)
      have c0 := hc.out i hlt
      have hd2 : Kp ((x == xs[i] || (xs.drop (i + 1)).contains x) = R) := ⟨by rw [← hd.out, List.drop_eq_getElem_cons hlt, List.contains_cons]⟩
      generalize xs[i] = q at *
      clear hd
      by_cases e1 : q = x
      · subst e1
        have e : R = true := by rw [← hd2.out]; simp
        subst e
        go_wp2_with fail
        go_ret
        exact ⟨rfl, Below.refl _ _⟩
      · have b1 : (q == x) = false := beq_eq_false_iff_ne.2 e1
        have b2 : (x == q) = false := beq_eq_false_iff_ne.2 (fun e => e1 e.symm)
        rw [b2] at hd2
        have hd3 := hd2.out
        simp only [Bool.false_or] at hd3
        replace hd3 := Kp.mk hd3
        clear hd2 b2
        go_wp2_with fail
        exact ⟨⟨i + 1, by omega, by go_num, hd3, trivial⟩, by simp [intOf]; omega⟩
    · have e : R = false := by rw [← hd.out, List.drop_eq_nil_of_le (by omega)]; rfl
      subst e
      go_wp2_with fail
      go_ret
      exact ⟨rfl, Below.refl _ _⟩
end Go.Proofs.Ytbfpfjkjeekbdaa
