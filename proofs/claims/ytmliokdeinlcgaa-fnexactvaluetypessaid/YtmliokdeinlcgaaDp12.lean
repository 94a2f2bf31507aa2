/- Where a value is defined: the specification's answer. -/
import Derived.Test.YtmliokdeinlcgaaDp11
namespace Go.Proofs.Ytmliokdeinlcgaa
open Go.ChangeShapes Go.WideShapes Go.ChangeAt Go.RowKit
open Go.Sort (grow)
set_option linter.unusedVariables false
set_option linter.unusedSimpArgs false
/-- The places of a block's instructions from one on, with their types; of the blocks from one on. -/
def inPl (b i : Nat) : List InD → List (Nat × Nat × Int)
  | [] => []
  | d :: r => (b, i, d.ty) :: inPl b (i + 1) r
def blPl (b : Nat) : List (List InD) → List (Nat × Nat × Int)
  | [] => []
  | x :: r => inPl b 0 x ++ blPl (b + 1) r
/-- The place of a value, the first instruction's being n. -/
def dAt (v n : Int) : List (Nat × Nat × Int) → Int × Int
  | [] => (-1, -1)
  | (b, i, t) :: r => if t = 0 then dAt v n r else if n = v then (b, i) else dAt v (n + 1) r
theorem inPl_drop (b i : Nat) (xs : List InD) (h : i < xs.length) : inPl b i (xs.drop i) = (b, i, (xs[i]).ty) :: inPl b (i + 1) (xs.drop (i + 1)) := by
  rw [List.drop_eq_getElem_cons h]; rfl
theorem inPl_end (b i : Nat) (xs : List InD) (h : xs.length ≤ i) : inPl b i (xs.drop i) = [] := by
  rw [List.drop_eq_nil_of_le h]; rfl
theorem blPl_drop (b : Nat) (xs : List (List InD)) (h : b < xs.length) : blPl b (xs.drop b) = inPl b 0 ((xs[b]).drop 0) ++ blPl (b + 1) (xs.drop (b + 1)) := by
  rw [List.drop_eq_getElem_cons h]; rfl
theorem blPl_end (b : Nat) (xs : List (List InD)) (h : xs.length ≤ b) : blPl b (xs.drop b) = [] := by
  rw [List.drop_eq_nil_of_le h]; rfl
theorem inPl_len (b i : Nat) (xs : List InD) : (inPl b i xs).length = xs.length := by
  induction xs generalizing i with
  | nil => rfl
  | cons d r ih => simp only [inPl, List.length_cons, ih]
theorem blPl_len (b : Nat) (xs : List (List InD)) : ((blPl b xs).length : Int) ≤ blsN xs := by
  induction xs generalizing b with
  | nil => exact Int.le_refl _
  | cons d r ih =>
    have := ih (b + 1)
    have e : blsN (d :: r) = blN d + blsN r := by simp [blsN]
    have n0 := insN_nn d
    unfold blN at e
    simp only [blPl, List.length_append, inPl_len]
    omega
set_option maxRecDepth 100000 in
set_option maxHeartbeats 2000000 in
theorem defAtS (d : FnD) (vp vb : Value) (v : Int) (w : World) {lo : Nat} (h : FnAt lo w d vp vb) (hn : fnN d ≤ 1048576) :
    Calls Try.prog 22 #[fnV d vp vb, .int .i64 v] w fun e w' => e = .returned (.agg #[.int .i64 (dAt v d.params.length (blPl 0 d.blocks)).1, .int .i64 (dAt v d.params.length (blPl 0 d.blocks)).2]) ∧ Below w.heap.size w w' := by
  unfold fnN at hn
  obtain ⟨name, link, params, res, blocks⟩ := d
  obtain ⟨-, hp, hb⟩ := h
  dsimp only [fnV] at *
  have nn := blsN_nn blocks
  have n1 : (params.length : Int) ≤ 1048576 := by omega
  have n2 : (blocks.length : Int) ≤ 1048576 := by omega
  obtain ⟨a1, k1, rfl⟩ := hp.shape
  obtain ⟨b, o, ⟨⟨a2, k2, rfl, h1, h2⟩, h3⟩, -, hc⟩ := hb.ex
  replace hp := Kp.mk hp
  replace hb := Kp.mk hb
  replace hc := Kp.mk hc
  replace h2 := Kp.mk h2
  have n3 : (params.length : Int) + blsN blocks ≤ 1048576 := by omega
  clear hn nn
  go_enter Try.func22, Try.ntmps22
  go_wp2_with fail
  obtain ⟨W0, hW⟩ : ∃ W0 : World, W0 = ((w.alloc (Obj.cells #[.string name, .int .i64 link, .slice a1 params.length k1, .int .i64 res, .slice a2 blocks.length k2] 31)).alloc (Obj.cells #[.int .i64 0, .int .i64 0] 41)) := ⟨_, rfl⟩
  rw [← hW]
  obtain ⟨B0, hx, hy⟩ := two w _ _ _ _ hW
  have x4 := hx 4 _ rfl
  have y0 := hy 0 _ rfl
  have y1 := hy 1 _ rfl
  have RW : Rw W0 (w.heap.size + 1) 2 := by
    have q := al_rw (w.alloc (Obj.cells #[.string name, .int .i64 link, .slice a1 params.length k1, .int .i64 res, .slice a2 blocks.length k2] 31)) #[.int .i64 0, .int .i64 0] 41
    rw [World.size_alloc] at q
    rw [hW]
    exact q
  obtain ⟨_, _, f0⟩ := RW.at (j := 0) (by omega)
  obtain ⟨_, _, f1⟩ := RW.at (j := 1) (by omega)
  clear hW hx hy RW
  obtain ⟨A, hA⟩ : ∃ A, A = dAt v params.length (blPl 0 blocks) := ⟨_, rfl⟩
  go_loopw [5, 6] (fun s r wr => wr = W0 ∧ ∃ (B : Nat) (n : Int), B ≤ blocks.length ∧ r = .int .i64 B ∧ s = .int .i64 n ∧ 0 ≤ n ∧ n + (blPl B (blocks.drop B)).length ≤ 2097152 ∧ Kp (dAt v n (blPl B (blocks.drop B)) = A)) (fun _ r _ => blocks.length - (intOf r).toNat)
  case atStart => exact ⟨rfl, 0, params.length, Nat.zero_le _, rfl, rfl, by omega, by have := blPl_len 0 blocks; simp only [List.drop_zero]; omega, ⟨hA.symm⟩⟩
  case round =>
    obtain ⟨rfl, B, n, hB, rfl, rfl, hn0, hn1, hd⟩ := hrel
    by_cases hlt : B < blocks.length
    · obtain rfl := h2.out (by omega)
      obtain ⟨vi, c0, hv⟩ := hc.out B hlt
      obtain ⟨xs, hxs⟩ : ∃ xs, Kp (blocks[B] = xs) := ⟨_, ⟨rfl⟩⟩
      rw [hxs.out] at hv
      have hdr := Kp.mk (blPl_drop B blocks hlt)
      rw [hxs.out] at hdr
      rw [hdr.out] at hn1 hd
      obtain ⟨bi, oi, ⟨⟨ai, ki, rfl, i1, i2⟩, i3⟩, -, ic⟩ := hv.ex
      replace c0 := at_keep c0 B0
      have ic' : Kp (∀ i (h : i < xs.length), At wr bi (oi + i * 9 + 1) (.int .i64 (xs[i]).ty)) := ⟨fun i h => by
        obtain ⟨_, _, _, q⟩ := ic i h
        exact at_keep q.c1 B0⟩
      replace i2 := Kp.mk i2
      have hl := Kp.mk hlt
      clear ic hv hdr
      rw [List.length_append] at hn1
      go_wp2_with fail
      go_loopw [5, 7] (fun s r wq => wq = wr ∧ ∃ (i : Nat) (n : Int), i ≤ xs.length ∧ r = .int .i64 i ∧ s = .int .i64 n ∧ 0 ≤ n ∧ n + ((inPl B i (xs.drop i)).length + (blPl (B + 1) (blocks.drop (B + 1))).length) ≤ 2097152 ∧ Kp (dAt v n (inPl B i (xs.drop i) ++ blPl (B + 1) (blocks.drop (B + 1))) = A)) (fun _ r _ => xs.length - (intOf r).toNat)
      case atStart => exact ⟨rfl, 0, n, Nat.zero_le _, rfl, rfl, hn0, by omega, hd⟩
      case round =>
        clear hd hn0 hn1
        obtain ⟨rfl, i, n, hi, rfl, rfl, hn0, hn1, hd⟩ := hrel
        by_cases hlt2 : i < xs.length
        · obtain rfl := i2.out (by omega)
          have c1 := ic'.out i hlt2
          have hdr := inPl_drop B i xs hlt2
          rw [hdr, List.cons_append] at hd
          rw [hdr, List.length_cons] at hn1
          obtain ⟨t, ht⟩ : ∃ t, (xs[i]).ty = t := ⟨_, rfl⟩
          rw [ht] at c1 hd
          clear hdr ht
          by_cases ht0 : t = 0
          · subst ht0
            go_wp2_with fail
            exact ⟨⟨trivial, i + 1, n, by omega, by go_num, rfl, hn0, by omega, ⟨hd.out⟩⟩, by simp [intOf]; omega⟩
          · by_cases hv : n = v
            · subst hv
              have hA2 : A = ((B : Int), (i : Int)) := by rw [← hd.out]; simp only [dAt, if_neg ht0, if_true]
              rw [hA2] at hA
              clear hd hA2
              go_wp2_with fail
              rw [← hA]
              refine bodyPost_ret (v := .agg #[.int .i64 B, .int .i64 i]) ?_ rfl ⟨rfl, bel_set (bel_set B0 (by omega) _) (by omega) _⟩
              simp [results, Try.results22, go_sem, y0, y1]
            · go_wp2_with fail
              exact ⟨⟨trivial, i + 1, n + 1, by omega, by go_num, rfl, by omega, by omega, ⟨by rw [← hd.out]; simp only [dAt, if_neg ht0, if_neg hv]⟩⟩, by simp [intOf]; omega⟩
        · rw [inPl_end B i xs (by omega), List.nil_append] at hd
          rw [inPl_end B i xs (by omega)] at hn1
          go_wp2_with fail
          exact ⟨⟨trivial, B + 1, n, by omega, by go_num, rfl, hn0, by simp at hn1; omega, hd⟩, by simp [intOf]; omega⟩
    · rw [blPl_end B blocks (by omega)] at hd
      have hA2 : A = (-1, -1) := hd.out.symm
      rw [hA2] at hA
      go_wp2_with fail
      rw [← hA]
      refine bodyPost_ret (v := .agg #[.int .i64 (-1), .int .i64 (-1)]) ?_ rfl ⟨rfl, bel_set (bel_set B0 (by omega) _) (by omega) _⟩
      simp [results, Try.results22, go_sem, y0, y1]
end Go.Proofs.Ytmliokdeinlcgaa
