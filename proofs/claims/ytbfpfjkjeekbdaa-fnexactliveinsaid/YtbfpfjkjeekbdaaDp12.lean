/- Where a value is defined: the specification's answer. -/
import Derived.Test.YtbfpfjkjeekbdaaDp11
namespace Go.Proofs.Ytbfpfjkjeekbdaa
open Go.ChangeShapes Go.WideShapes Go.ChangeAt Go.RowKit
open Go.Sort (grow)
set_option linter.unusedVariables false
set_option linter.unusedSimpArgs false
/-- The places of a block's instructions from one on, with their types; of the blocks from one on. -/
def inPl (b i : Nat) : List InD → List (Nat × Nat × Int)
  | [] => []
  | d :: r => (b, i, d.ty) :: inPl b (i + 1) r
def blPl (b : Nat) : List (List InD) → List (Nat × Nat × Int)
  | [] => []
  | x :: r => inPl b 0 x ++ blPl (b + 1) r
/-- The place of a value, the first instruction's being n. -/
def dAt (v n : Int) : List (Nat × Nat × Int) → Int × Int
  | [] => (-1, -1)
  | (b, i, t) :: r => if t = 0 then dAt v n r else if n = v then (b, i) else dAt v (n + 1) r
theorem inPl_drop (b i : Nat) (xs : List InD) (h : i < xs.length) : inPl b i (xs.drop i) = (b, i, (xs[i]).ty) :: inPl b (i + 1) (xs.drop (i + 1)) := by
  rw [List.drop_eq_getElem_cons h]; rfl
theorem inPl_end (b i : Nat) (xs : List InD) (h : xs.length ≤ i) : inPl b i (xs.drop i) = [] := by
  rw [List.drop_eq_nil_of_le h]; rfl
theorem blPl_drop (b : Nat) (xs : List (List InD)) (h : b < xs.length) : blPl b (xs.drop b) = inPl b 0 ((xs[b]).drop 0) ++ blPl (b + 1) (xs.drop (b + 1)) := by
  rw [List.drop_eq_getElem_cons h]; rfl
theorem blPl_end (b : Nat) (xs : List (List InD)) (h : xs.length ≤ b) : blPl b (xs.drop b) = [] := by
  rw [List.drop_eq_nil_of_le h]; rfl
theorem inPl_len (b i : Nat) (xs : List InD) : (inPl b i xs).length = xs.length := by
  induction xs generalizing i with
  | nil => rfl
  | cons d r ih => simp only [inPl, List.length_cons, ih]
theorem blPl_len (b : Nat) (xs : List (List InD)) : ((blPl b xs).length : Int) ≤ blsN xs := by
  induction xs generalizing b with
  | nil => exact Int.le_refl _
  | cons d r ih =>
    have := ih (b + 1)
    have e : blsN (d :: r) = blN d + blsN r := by simp [blsN]
    have n0 := insN_nn d
    unfold blN at e
    simp only [blPl, List.length_append, inPl_len]
    omega
end Go.Proofs.Ytbfpfjkjeekbdaa
namespace Go.Proofs.Ytbfpfjkjeekbdaa
open Go.ChangeShapes Go.WideShapes Go.ChangeAt Go.RowKit
open Go.Sort (grow)
set_option linter.unusedVariables false
set_option linter.unusedSimpArgs false
/-- A row of the call's own, with its cells' kind: what a slice of it is. -/
structure Own64 (w : World) (v : Value) (n B o : Nat) : Prop where
  s : Sl v n B o
  r : ∃ m, Rw w B m ∧ o + n ≤ m
set_option maxRecDepth 100000 in
set_option maxHeartbeats 2000000 in
theorem markInts (v : Value) (n B o : Nat) (k : Int) (w : World) (h : Own64 w v n B o) (hn : n ≤ 1048576) (k0 : 0 ≤ k) (k1 : k ≤ 1099511627776) :
    Calls Try.prog 13 #[v, .int .i64 k] w fun e w' => e = .returned (.int .i64 (k + n)) ∧ w'.heap.size = w.heap.size ∧ (∀ i, i < n → At w' B (o + i) (.int .i64 (k + i))) ∧ (∀ b c u, b ≠ B → At w b c u → At w' b c u) ∧ (∀ b m, Rw w b m → Rw w' b m) ∧ ∀ H, H ≤ B → Below H w w' := by
  obtain ⟨⟨⟨a, cap, rfl, h1, h2⟩, h3⟩, m, hr, hm⟩ := h
  have g1 : (n : Int) ≤ 1048576 := by omega
  replace h2 := Kp.mk h2
  go_enter Try.func13, Try.ntmps13
  go_wp2_with fail
  go_loopw [1, 5] (fun r s wr => ∃ i : Nat, i ≤ n ∧ s = .int .i64 i ∧ r = .int .i64 (k + i) ∧ wr.heap.size = w.heap.size ∧ Kp (∀ j, j < i → At wr B (o + j) (.int .i64 (k + j))) ∧ Kp (∀ b c u, b ≠ B → At w b c u → At wr b c u) ∧ Kp (∀ b m, Rw w b m → Rw wr b m) ∧ Kp (∀ H, H ≤ B → Below H w wr)) (fun _ s _ => n - (intOf s).toNat)
  case atStart => exact ⟨0, Nat.zero_le _, rfl, by simp, rfl, ⟨fun j hj => absurd hj (Nat.not_lt_zero _)⟩, ⟨fun _ _ _ _ h => h⟩, ⟨fun _ _ h => h⟩, ⟨fun H _ => Below.refl _ _⟩⟩
  case round =>
    obtain ⟨i, hi, rfl, rfl, hs, hd, ho, hR, hb⟩ := hrel
    by_cases hlt : i < n
    · obtain rfl := h2.out (by omega)
      have hRw := hR.out _ _ hr
      obtain ⟨z, cz, fz⟩ := hRw.at (j := o + i) (by omega)
      go_wp2_with fail
      refine ⟨⟨i + 1, by omega, by go_num, by go_num, by rw [World.size_setCell]; exact hs, ⟨fun j hj => ?_⟩, ⟨fun b c u hne q => set_other (ho.out b c u hne q) (.inl hne)⟩, ⟨fun b m q => (hR.out b m q).sets _ _ _⟩, ⟨fun H hH => bel_set (hb.out H hH) hH _⟩⟩, by simp [intOf]; omega⟩
      by_cases e : j = i
      · subst e
        exact set_same hRw (by omega) _
      · exact set_other (hd.out j (by omega)) (.inr (by omega))
    · go_wp2_with fail
      go_ret
      have e : i = n := by omega
      subst e
      exact ⟨rfl, hs, hd.out, ho.out, hR.out, hb.out⟩
set_option maxRecDepth 100000 in
set_option maxHeartbeats 2000000 in
theorem heldInts (v : Value) (n b o : Nat) (k : Int) (w : World) (h : Sl v n b o) (hc : ∀ i, i < n → At w b (o + i) (.int .i64 (k + i))) (hn : n ≤ 1048576) (k0 : 0 ≤ k) (k1 : k ≤ 1099511627776) :
    Calls Try.prog 14 #[v, .int .i64 k] w fun e w' => e = .returned (.int .i64 (k + n)) ∧ Below w.heap.size w w' := by
  obtain ⟨⟨a, cap, rfl, h1, h2⟩, h3⟩ := h
  have g1 : (n : Int) ≤ 1048576 := by omega
  replace h2 := Kp.mk h2
  replace hc := Kp.mk hc
  go_enter Try.func14, Try.ntmps14
  go_wp2_with fail
  go_loopw [1, 5] (fun r s wr => ∃ i : Nat, i ≤ n ∧ s = .int .i64 i ∧ r = .int .i64 (k + i) ∧ Below w.heap.size w wr) (fun _ s _ => n - (intOf s).toNat)
  case atStart => exact ⟨0, Nat.zero_le _, rfl, by simp, Below.refl _ _⟩
  case round =>
    obtain ⟨i, hi, rfl, rfl, hB⟩ := hrel
    by_cases hlt : i < n
    · obtain rfl := h2.out (by omega)
      have c1 := at_keep (hc.out i hlt) hB
      go_wp2_with fail
      exact ⟨⟨i + 1, by omega, by go_num, by go_num, hB⟩, by simp [intOf]; omega⟩
    · go_wp2_with fail
      go_ret
      have e : i = n := by omega
      subst e
      exact ⟨rfl, hB⟩
end Go.Proofs.Ytbfpfjkjeekbdaa
namespace Go.Proofs.Ytbfpfjkjeekbdaa
open Go.ChangeShapes Go.WideShapes Go.ChangeAt Go.RowKit
open Go.Sort (grow)
set_option linter.unusedVariables false
set_option linter.unusedSimpArgs false
set_option maxRecDepth 100000 in
set_option maxHeartbeats 2000000 in
theorem l2AtS (d : FnD) (vp vb : Value) (B I : Int) (w : World) {lo : Nat} (h : FnAt lo w d vp vb) (hn : fnN d ≤ 1048576) :
    Calls Try.prog 102 #[fnV d vp vb, .int .i64 B, .int .i64 I] w fun e w' => e = .returned (.bool (decide (0 ≤ B ∧ B < d.blocks.length ∧ 0 ≤ I ∧ I < (d.blocks.getD B.toNat []).length))) ∧ Below w.heap.size w w' := by
  unfold fnN at hn
  obtain ⟨name, link, params, res, blocks⟩ := d
  obtain ⟨-, hp, hb⟩ := h
  dsimp only [fnV] at *
  have nn := blsN_nn blocks
  have n2 : (blocks.length : Int) ≤ 1048576 := by omega
  obtain ⟨a1, k1, rfl⟩ := hp.shape
  obtain ⟨b, o, ⟨⟨a2, k2, rfl, h1, h2⟩, h3⟩, -, hc⟩ := hb.ex
  replace hb := Kp.mk hb
  replace hp := Kp.mk hp
  clear hn nn
  obtain ⟨R, hR⟩ : ∃ R : Bool, decide (0 ≤ B ∧ B < blocks.length ∧ 0 ≤ I ∧ I < ((blocks.getD B.toNat []).length : Int)) = R := ⟨_, rfl⟩
  rw [hR]
  by_cases q0 : 0 ≤ B
  · by_cases q1 : B < blocks.length
    · by_cases q2 : 0 ≤ I
      · obtain ⟨n, rfl⟩ : ∃ n : Nat, B = n := ⟨B.toNat, by omega⟩
        obtain rfl := h2 (by omega)
        have hn' : n < blocks.length := by omega
        obtain ⟨vi, c0, hv⟩ := hc n hn'
        have e : blocks.getD ((n : Int)).toNat [] = blocks[n] := by simp [List.getD, hn']
        obtain ⟨xs, hxs⟩ : ∃ xs, blocks[n] = xs := ⟨_, rfl⟩
        rw [e, hxs] at hR
        rw [hxs] at hv
        obtain ⟨a3, k3, rfl⟩ := hv.shape
        have c1 := fun O => at_keep c0 (bel_alloc w O)
        have q1' : n < blocks.length := hn'
        clear hc hv e hxs h2
        by_cases q3 : I < xs.length
        · obtain rfl : R = true := by rw [← hR]; simp [q2, q3]; omega
          clear hR
          go_enter Try.func102, Try.ntmps102
          go_wp2_with fail
          go_ret
          exact ⟨rfl, bel_alloc _ _⟩
        · obtain rfl : R = false := by rw [← hR]; simp; omega
          clear hR
          go_enter Try.func102, Try.ntmps102
          go_wp2_with fail
          go_ret
          exact ⟨rfl, bel_alloc _ _⟩
      · obtain rfl : R = false := by rw [← hR]; simp; omega
        clear hc h2 hR
        go_enter Try.func102, Try.ntmps102
        go_wp2_with fail
        go_ret
        exact ⟨rfl, bel_alloc _ _⟩
    · obtain rfl : R = false := by rw [← hR]; simp; omega
      clear hc h2 hR
      go_enter Try.func102, Try.ntmps102
      go_wp2_with fail
      go_ret
      exact ⟨rfl, bel_alloc _ _⟩
  · obtain rfl : R = false := by rw [← hR]; simp; omega
    clear hc h2 hR
    go_enter Try.func102, Try.ntmps102
    go_wp2_with fail
    go_ret
    exact ⟨rfl, bel_alloc _ _⟩
end Go.Proofs.Ytbfpfjkjeekbdaa
namespace Go.Proofs.Ytbfpfjkjeekbdaa
open Go.ChangeShapes Go.WideShapes Go.ChangeAt Go.RowKit
open Go.Sort (grow)
set_option linter.unusedVariables false
set_option linter.unusedSimpArgs false
/-- The number of the value that a place defines, the first instruction's being n; -1: none. -/
def rOf (B I n : Int) : List (Nat × Nat × Int) → Int
  | [] => -1
  | (b, i, t) :: r => if (b : Int) = B ∧ (i : Int) = I then (if t = 0 then -1 else n) else rOf B I (if t = 0 then n else n + 1) r
theorem rOf_none (B I : Int) (L : List (Nat × Nat × Int)) (n : Int) (h : ∀ e, e ∈ L → (e.1 : Int) = B → (e.2.1 : Int) = I → e.2.2 = 0) : rOf B I n L = -1 := by
  induction L generalizing n with
  | nil => rfl
  | cons x r ih =>
    obtain ⟨b, i, t⟩ := x
    unfold rOf
    split
    · rename_i hh
      rw [if_pos (h (b, i, t) (List.mem_cons_self ..) hh.1 hh.2)]
    · exact ih _ (fun e he => h e (List.mem_cons_of_mem _ he))
theorem inPl_mem (b i : Nat) (xs : List InD) (e : Nat × Nat × Int) (h : e ∈ inPl b i xs) : e.1 = b ∧ i ≤ e.2.1 ∧ ∃ q : e.2.1 - i < xs.length, e.2.2 = (xs[e.2.1 - i]).ty := by
  induction xs generalizing i with
  | nil => cases h
  | cons d r ih =>
    rcases List.mem_cons.1 h with rfl | h
    · exact ⟨rfl, Nat.le_refl _, by simp, by simp⟩
    · obtain ⟨h1, h2, h3, h4⟩ := ih (i + 1) h
      refine ⟨h1, by omega, by simp only [List.length_cons]; omega, ?_⟩
      rw [h4]
      have e : e.2.1 - i = (e.2.1 - (i + 1)) + 1 := by omega
      simp only [e, List.getElem_cons_succ]
theorem blPl_mem (b : Nat) (xs : List (List InD)) (e : Nat × Nat × Int) (h : e ∈ blPl b xs) : b ≤ e.1 ∧ ∃ q : e.1 - b < xs.length, ∃ q2 : e.2.1 < (xs[e.1 - b]).length, e.2.2 = ((xs[e.1 - b])[e.2.1]).ty := by
  induction xs generalizing b with
  | nil => cases h
  | cons d r ih =>
    rcases List.mem_append.1 h with h | h
    · obtain ⟨h1, h2, h3, h4⟩ := inPl_mem b 0 d e h
      refine ⟨by omega, by simp only [List.length_cons]; omega, ?_⟩
      have e0 : e.1 - b = 0 := by omega
      simp only [e0, List.getElem_cons_zero]
      exact ⟨by simpa using h3, by simpa using h4⟩
    · obtain ⟨h1, h2, h3, h4⟩ := ih (b + 1) h
      have e0 : e.1 - b = (e.1 - (b + 1)) + 1 := by omega
      refine ⟨by omega, by simp only [List.length_cons]; omega, ?_⟩
      simp only [e0, List.getElem_cons_succ]
      exact ⟨h3, h4⟩
end Go.Proofs.Ytbfpfjkjeekbdaa
