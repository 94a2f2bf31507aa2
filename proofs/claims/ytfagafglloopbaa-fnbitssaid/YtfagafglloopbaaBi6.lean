/- The program's PutVar. -/
import Derived.Test.YtfagafglloopbaaBi5
namespace Go.Proofs.Ytfagafglloopbaa
open Go.ChangeShapes Go.WideShapes Go.ChangeAt Go.RowKit
open Go.Sort (grow)
set_option linter.unusedVariables false
set_option linter.unusedSimpArgs false
set_option maxRecDepth 100000 in
set_option maxHeartbeats 2000000 in
theorem putVarI (v : Value) (xs : List Int) (c x n : Int) (w : World) {lo : Nat} (h : Ints lo .u8 w v xs) (hn : xs.length ≤ 1048576) (c0 : -9223372036854775808 ≤ c) (c1 : c ≤ 9223372036854775807) (hb : ∀ i (h : i < xs.length), 0 ≤ xs[i] ∧ xs[i] < 256) (x0 : 0 ≤ x) (x1 : x < 18446744073709551616) (n0 : -9223372036854775808 ≤ n) (n1 : n ≤ 9223372036854775807) :
    Calls Try.prog 11 #[.agg #[v, .int .i64 c], .int .u64 x, .int .i64 n] w fun e w' => ∃ v', e = .returned (.agg #[v', .int .i64 ((varR (sndOf xs c).1 (sndOf xs c).2 x n).2 : Int)]) ∧ OwnB w' w.heap.size v' (varR (sndOf xs c).1 (sndOf xs c).2 x n).1 ∧ Below w.heap.size w w' := by
  have C1 : Kp (∀ W, Ints lo .u8 W v xs → Calls Try.prog 24 #[.agg #[v, .int .i64 c]] W _) := ⟨fun W h => behindI v xs c W h hn c0 c1 hb⟩
  have hS := sndOf_snd (c := c) hb
  have hl : (sndOf xs c).1.length ≤ 1048576 := by
    by_cases q : okB xs c
    · rw [sndOf_yes q]; exact hn
    · rw [sndOf_no q]; decide
  obtain ⟨⟨ys, k⟩, hy⟩ : ∃ p, p = sndOf xs c := ⟨_, rfl⟩
  rw [← hy] at C1 hl hS ⊢
  have hk : k ≤ 140737488355328 := by have := hS.len; dsimp only at this hl; omega
  have CB : Kp (∀ w, Calls Try.prog 27 #[.int .i64 n] w _) := ⟨fun w => pieceSizeI n w⟩
  have CP : Kp (∀ B base W (m : Nat), Wtr 45 base W B ys k → base ≤ B → 1 ≤ m → m ≤ 31 → Calls Try.prog 28 #[.pointer (some ⟨B, 0, none⟩), .int .u64 x, .int .i64 ((m : Int) + 1)] W _) := ⟨fun B base W m h hb m0 m1 => piecesI B x m ys k base W h hb x0 x1 m0 m1 (by omega) hS⟩
  obtain ⟨b, o, ⟨⟨a, cap, rfl, h1, h2⟩, h3⟩, -, hc⟩ := h.ex
  have H := Kp.mk h
  clear h h1 h2 h3 hc hy hn hb hS
  have G1 := Kp.mk (C1.out _ (H.out.keep (bel_trans (bel_alloc w (Go.Obj.cells #[.slice a xs.length cap, .int .i64 c] 24 (0, 0))) (bel_alloc _ (Go.Obj.cells #[.slice none 0 0, .int .i64 0] 24 (0, 0))))))
  obtain ⟨⟨zs, q⟩, hR⟩ : ∃ R, Kp (varR ys k x n = R) := ⟨_, ⟨rfl⟩⟩
  dsimp only
  rw [hR.out]
  go_enter Try.func11, Try.ntmps11
  go_wp2_with fail
  refine G1.out.mono ?_
  rintro e w1 ⟨v1, rfl, O1, hb1⟩
  obtain ⟨a1, c1', rfl⟩ := O1.form
  have x2 : w1.heap[w.heap.size + 1]? = some (Go.Obj.cells #[.slice none 0 0, .int .i64 0] 24 (0, 0)) := by
    have := keep_cells (new_cells (w.alloc (Go.Obj.cells #[.slice a xs.length cap, .int .i64 c] 24 (0, 0))) (Go.Obj.cells #[.slice none 0 0, .int .i64 0] 24 (0, 0))) hb1
    rwa [World.size_alloc] at this
  have b1 : Below w.heap.size w w1 := bel_trans (bel_alloc w _) (bel_trans (bel_alloc _ _) hb1)
  clear G1 C1 H hb1
  have xw := new_cells w1 (Go.Obj.cells #[.slice a1 ys.length c1', .int .i64 k] 45 (0, 0))
  have sw1 : w.heap.size + 2 ≤ w1.heap.size := by have := (Array.getElem?_eq_some_iff.1 x2).1; omega
  have b2 := bel_trans b1 (bel_alloc w1 (Go.Obj.cells #[.slice a1 ys.length c1', .int .i64 k] 45 (0, 0)))
  have x3 := keep_cells x2 (bel_alloc w1 (Go.Obj.cells #[.slice a1 ys.length c1', .int .i64 k] 45 (0, 0)))
  have O2 : OwnB (w1.alloc (Go.Obj.cells #[.slice a1 ys.length c1', .int .i64 k] 45 (0, 0))) (w.heap.size + 2) (.slice a1 ys.length c1') ys := by
    have := (O1.alloc (Go.Obj.cells #[.slice a1 ys.length c1', .int .i64 k] 45 (0, 0)))
    simpa using this
  obtain ⟨V, hV⟩ : ∃ V, V = w1.alloc (Go.Obj.cells #[.slice a1 ys.length c1', .int .i64 k] 45 (0, 0)) := ⟨_, rfl⟩
  rw [← hV] at xw b2 x3 O2
  obtain ⟨s, hs⟩ : ∃ s, s = w1.heap.size := ⟨_, rfl⟩
  rw [← hs] at xw sw1
  have HW : Wtr 45 (w.heap.size + 2) V s ys k := ⟨_, xw, O2⟩
  -- the end: the writer's bits are the answer
  have fin : ∀ (W : World) (zs : List Int) (q : Nat), Wtr 45 (w.heap.size + 2) W s zs q → Below (w.heap.size + 2) V W → ∃ az cz, W.cell? ⟨s, 0, none⟩ = some (.slice az zs.length cz) ∧ W.cell? ⟨s, 1, none⟩ = some (.int .i64 q) ∧ W.cell? ⟨w.heap.size + 1, 0, none⟩ = some (.slice none 0 0) ∧ W.cell? ⟨w.heap.size + 1, 1, none⟩ = some (.int .i64 0) ∧ (∀ j, W.frozen? ⟨w.heap.size + 1, j, none⟩ = false) ∧ ∃ Z, Kp (Z = (W.setCell ⟨w.heap.size + 1, 0, none⟩ (.slice az zs.length cz)).setCell ⟨w.heap.size + 1, 1, none⟩ (.int .i64 q)) ∧ Z.cell? ⟨w.heap.size + 1, 0, none⟩ = some (.slice az zs.length cz) ∧ Z.cell? ⟨w.heap.size + 1, 1, none⟩ = some (.int .i64 q) ∧ Kp (OwnB Z w.heap.size (.slice az zs.length cz) zs) ∧ Below w.heap.size w Z := fun W zs q hW hB => by
    obtain ⟨sv, h1, h2⟩ := hW.ex
    obtain ⟨az, cz, rfl⟩ := h2.form
    have h3 : W.heap[w.heap.size + 1]? = some (Go.Obj.cells #[.slice none 0 0, .int .i64 0] 24 (0, 0)) := (hB.block _ (by omega)).trans x3
    have hne := u8_ne h2 h3 (by decide)
    have zz := set_cells (set_cells h3 0 (.slice az zs.length cz)) 1 (.int .i64 q)
    exact ⟨az, cz, at_cells h1 rfl, at_cells h1 rfl, at_cells h3 rfl, at_cells h3 rfl, rw_cells h3, _, ⟨rfl⟩, at_cells zz rfl, at_cells zz rfl, ⟨((h2.setOther hne _).setOther hne _).mono (by omega)⟩, bel_set (bel_set (b2.trans (hB.mono (by omega))) (by omega) _) (by omega) _⟩
  replace fin := Kp.mk fin
  go_upto_region 2 with fail
  rw [← hV, ← hs]
  replace HW := Kp.mk HW
  have hbV := Kp.mk b2
  clear xw x2 x3 O1 O2 b1 b2 hV hs
  by_cases hg : 2 ≤ n ∧ n ≤ 32
  · obtain ⟨m, rfl⟩ : ∃ m : Nat, n = (m : Int) + 1 := ⟨(n - 1).toNat, by omega⟩
    have e0 : (decide ((2 : Int) ≤ (m : Int) + 1) && decide ((m : Int) + 1 ≤ 32)) = true := by simp; omega
    rw [e0] at CB
    have er : (varL m 64 ys k x).1 = zs ∧ (varL m 64 ys k x).2 = q := by
      have e := hR.out
      rw [varR, if_pos hg] at e
      have em : ((m : Int) + 1).toNat - 1 = m := by omega
      rw [em] at e
      rw [e]
      exact ⟨rfl, rfl⟩
    have GP := CP.out s (w.heap.size + 2) V m HW.out (by omega) (by omega) (by omega)
    rw [er.1, er.2] at GP
    replace GP := Kp.mk GP
    clear CP HW hbV hR er
    go_wp2_with (first | (go_at_call 27; refine (CB.out _).mono ?_; rintro e w2 ⟨rfl, rfl⟩) | (go_at_call 28; refine GP.out.mono ?_; rintro e w2 ⟨rfl, hW2, hB2⟩; obtain ⟨az, cz, y0, y1, y2, y3, y4, Z, hZ, z0, z1, zo, zb⟩ := fin.out w2 zs q hW2 hB2))
    rw [← hZ.out]
    exact bodyPost_ret (v := .agg #[.slice az zs.length cz, .int .i64 q]) (by simp [results, Try.results11, go_sem, z0, z1]) rfl ⟨_, rfl, zo.out, zb⟩
  · have e0 : (decide (2 ≤ n) && decide (n ≤ 32)) = false := by simp; omega
    rw [e0] at CB
    obtain ⟨rfl, rfl⟩ : ys = zs ∧ k = q := by
      have e := hR.out
      rw [varR, if_neg hg] at e
      injection e with e1 e2
      exact ⟨e1, e2⟩
    obtain ⟨az, cz, y0, y1, y2, y3, y4, Z, hZ, z0, z1, zo, zb⟩ := fin.out V ys k HW.out (Below.refl _ _)
    clear fin HW CP hbV
    go_wp2_with (go_at_call 27; refine (CB.out _).mono ?_; rintro e w2 ⟨rfl, rfl⟩)
    rw [← hZ.out]
    exact bodyPost_ret (v := .agg #[.slice az ys.length cz, .int .i64 k]) (by simp [results, Try.results11, go_sem, z0, z1]) rfl ⟨_, rfl, zo.out, zb⟩
end Go.Proofs.Ytfagafglloopbaa
