/- The specification's PutBits. -/
import Derived.Test.YtfagafglloopbaaBs4
namespace Go.Proofs.Ytfagafglloopbaa
open Go.ChangeShapes Go.WideShapes Go.ChangeAt Go.RowKit
open Go.Sort (grow)
set_option linter.unusedVariables false
set_option linter.unusedSimpArgs false
set_option maxRecDepth 100000 in
set_option maxHeartbeats 2000000 in
theorem putBitsS (v : Value) (xs : List Int) (c x n : Int) (w : World) {lo : Nat} (h : Ints lo .u8 w v xs) (hn : xs.length ≤ 1048576) (c0 : -9223372036854775808 ≤ c) (c1 : c ≤ 9223372036854775807) (hb : ∀ i (h : i < xs.length), 0 ≤ xs[i] ∧ xs[i] < 256) (x0 : 0 ≤ x) (x1 : x < 18446744073709551616) (n0 : -9223372036854775808 ≤ n) (n1 : n ≤ 9223372036854775807) :
    Calls Try.prog 15 #[.agg #[v, .int .i64 c], .int .u64 x, .int .i64 n] w fun e w' => ∃ v', e = .returned (.agg #[v', .int .i64 ((putR (sndOf xs c).1 (sndOf xs c).2 x n).2 : Int)]) ∧ OwnB w' w.heap.size v' (putR (sndOf xs c).1 (sndOf xs c).2 x n).1 ∧ Below w.heap.size w w' := by
  have C1 : Kp (∀ W, Ints lo .u8 W v xs → Calls Try.prog 34 #[.agg #[v, .int .i64 c]] W _) := ⟨fun W h => startS v xs c W h hn c0 c1 hb⟩
  have hS := sndOf_snd (c := c) hb
  have hl : (sndOf xs c).1.length ≤ 1048576 := by
    by_cases q : okB xs c
    · rw [sndOf_yes q]; exact hn
    · rw [sndOf_no q]; decide
  obtain ⟨⟨ys, k⟩, hy⟩ : ∃ p, p = sndOf xs c := ⟨_, rfl⟩
  rw [← hy] at C1 hl hS ⊢
  have hk : k ≤ 140737488355328 := by have := hS.len; dsimp only at this hl; omega
  have CP : Kp (∀ sv base W (m : Nat), OwnB W base sv ys → base ≤ W.heap.size → m ≤ 64 → Calls Try.prog 35 #[.agg #[sv, .int .i64 k], .int .u64 x, .int .i64 (m : Int)] W _) := ⟨fun sv base W m h hb hm => bitsS sv ys k x m base W h hS x0 x1 hm hk hb⟩
  obtain ⟨b, o, ⟨⟨a, cap, rfl, h1, h2⟩, h3⟩, -, hc⟩ := h.ex
  have H := Kp.mk h
  clear h h1 h2 h3 hc hy hn hb hS
  have G1 := Kp.mk (C1.out _ (H.out.keep (bel_trans (bel_alloc w (Go.Obj.cells #[.slice a xs.length cap, .int .i64 c] 24 (0, 0))) (bel_alloc _ (Go.Obj.cells #[.slice none 0 0, .int .i64 0] 24 (0, 0))))))
  obtain ⟨⟨zs, q⟩, hR⟩ : ∃ R, Kp (putR ys k x n = R) := ⟨_, ⟨rfl⟩⟩
  dsimp only
  rw [hR.out]
  go_enter Try.func15, Try.ntmps15
  go_wp2_with fail
  refine G1.out.mono ?_
  rintro e w1 ⟨v1, rfl, O1, hb1⟩
  obtain ⟨a1, c1', rfl⟩ := O1.form
  have x2 : w1.heap[w.heap.size + 1]? = some (Go.Obj.cells #[.slice none 0 0, .int .i64 0] 24 (0, 0)) := by
    have := keep_cells (new_cells (w.alloc (Go.Obj.cells #[.slice a xs.length cap, .int .i64 c] 24 (0, 0))) (Go.Obj.cells #[.slice none 0 0, .int .i64 0] 24 (0, 0))) hb1
    rwa [World.size_alloc] at this
  have b1 : Below w.heap.size w w1 := bel_trans (bel_alloc w _) (bel_trans (bel_alloc _ _) hb1)
  clear G1 C1 H hb1
  have xw := new_cells w1 (Go.Obj.cells #[.slice a1 ys.length c1', .int .i64 k] 24 (0, 0))
  have sw1 : w.heap.size + 2 ≤ w1.heap.size := by have := (Array.getElem?_eq_some_iff.1 x2).1; omega
  have b2 := bel_trans b1 (bel_alloc w1 (Go.Obj.cells #[.slice a1 ys.length c1', .int .i64 k] 24 (0, 0)))
  have x3 := keep_cells x2 (bel_alloc w1 (Go.Obj.cells #[.slice a1 ys.length c1', .int .i64 k] 24 (0, 0)))
  have O2 : OwnB (w1.alloc (Go.Obj.cells #[.slice a1 ys.length c1', .int .i64 k] 24 (0, 0))) (w.heap.size + 2) (.slice a1 ys.length c1') ys := by
    have := (O1.alloc (Go.Obj.cells #[.slice a1 ys.length c1', .int .i64 k] 24 (0, 0)))
    simpa using this
  obtain ⟨V, hV⟩ : ∃ V, V = w1.alloc (Go.Obj.cells #[.slice a1 ys.length c1', .int .i64 k] 24 (0, 0)) := ⟨_, rfl⟩
  rw [← hV] at xw b2 x3 O2
  obtain ⟨s, hs⟩ : ∃ s, s = w1.heap.size := ⟨_, rfl⟩
  rw [← hs] at xw sw1
  have HW : Wtr 24 (w.heap.size + 2) V s ys k := ⟨_, xw, O2⟩
  obtain ⟨y0, y1⟩ : V.cell? ⟨s, 0, none⟩ = some (.slice a1 ys.length c1') ∧ V.cell? ⟨s, 1, none⟩ = some (.int .i64 k) := ⟨at_cells xw rfl, at_cells xw rfl⟩
  -- the end: bits are stored as the answer
  have fin : ∀ (W : World) (az : Option Addr) (cz : Nat) (zs : List Int) (q : Nat), OwnB W (w.heap.size + 2) (.slice az zs.length cz) zs → Below (w.heap.size + 2) V W → W.cell? ⟨w.heap.size + 1, 0, none⟩ = some (.slice none 0 0) ∧ W.cell? ⟨w.heap.size + 1, 1, none⟩ = some (.int .i64 0) ∧ (∀ j, W.frozen? ⟨w.heap.size + 1, j, none⟩ = false) ∧ ∃ Z, Kp (Z = (W.setCell ⟨w.heap.size + 1, 0, none⟩ (.slice az zs.length cz)).setCell ⟨w.heap.size + 1, 1, none⟩ (.int .i64 q)) ∧ Z.cell? ⟨w.heap.size + 1, 0, none⟩ = some (.slice az zs.length cz) ∧ Z.cell? ⟨w.heap.size + 1, 1, none⟩ = some (.int .i64 q) ∧ Kp (OwnB Z w.heap.size (.slice az zs.length cz) zs) ∧ Below w.heap.size w Z := fun W az cz zs q h2 hB => by
    have h3 : W.heap[w.heap.size + 1]? = some (Go.Obj.cells #[.slice none 0 0, .int .i64 0] 24 (0, 0)) := (hB.block _ (by omega)).trans x3
    have hne := u8_ne h2 h3 (by decide)
    have zz := set_cells (set_cells h3 0 (.slice az zs.length cz)) 1 (.int .i64 q)
    exact ⟨at_cells h3 rfl, at_cells h3 rfl, rw_cells h3, _, ⟨rfl⟩, at_cells zz rfl, at_cells zz rfl, ⟨((h2.setOther hne _).setOther hne _).mono (by omega)⟩, bel_set (bel_set (b2.trans (hB.mono (by omega))) (by omega) _) (by omega) _⟩
  replace fin := Kp.mk fin
  have sV : w.heap.size + 2 ≤ V.heap.size := by have := (Array.getElem?_eq_some_iff.1 xw).1; omega
  go_upto_region 2 with fail
  rw [← hV, ← hs]
  replace HW := Kp.mk O2
  clear xw x2 x3 O1 O2 b1 b2 hV hs
  by_cases hg : 1 ≤ n ∧ n ≤ 64
  · obtain ⟨N, rfl⟩ := Int.eq_ofNat_of_zero_le (show 0 ≤ n by omega)
    have q1 : decide ((N : Int) < 1) = false := by simp; omega
    have q2 : decide ((64 : Int) < (N : Int)) = false := by simp; omega
    have yes : x / 2 ^ N = 0 → Kp (putB ys k x N = zs ∧ k + N = q) := fun hz => ⟨by
      have e := hR.out
      rw [putR, if_pos ⟨hg.1, hg.2, by simpa using hz⟩] at e
      injection e with e1 e2
      exact ⟨by simpa using e1, by simpa using e2⟩⟩
    have no : ¬ x / 2 ^ N = 0 → Kp (ys = zs ∧ k = q) := fun hz => ⟨by
      have e := hR.out
      rw [putR, if_neg (fun h => hz (by simpa using h.2.2))] at e
      injection e with e1 e2
      exact ⟨e1, e2⟩⟩
    by_cases hz : x / 2 ^ N = 0
    · have hzb : (x / 2 ^ N != 0) = false := by simp [hz]
      have er := (yes hz).out
      have hg2 : (N : Int) ≤ 64 := hg.2
      have GP := CP.out _ (w.heap.size + 2) V N HW.out sV (by omega)
      rw [er.1, er.2] at GP
      replace GP := Kp.mk GP
      replace hz := Kp.mk hz
      clear CP HW hR er yes no
      by_cases h64 : N = 64
      · subst h64
        clear hzb hz
        go_wp2_with (go_at_call 35; refine GP.out.mono ?_; rintro e w2 ⟨v2, rfl, hW2, hB2, -⟩; obtain ⟨az, cz, rfl⟩ := hW2.form; obtain ⟨y2, y3, y4, Z, hZ, z0, z1, zo, zb⟩ := fin.out w2 az cz zs q hW2 hB2)
        rw [← hZ.out]
        exact bodyPost_ret (v := .agg #[.slice az zs.length cz, .int .i64 q]) (by simp [results, Try.results15, go_sem, z0, z1]) rfl ⟨_, rfl, zo.out, zb⟩
      · have hN : N < 64 := by omega
        go_wp2_with (go_at_call 35; refine GP.out.mono ?_; rintro e w2 ⟨v2, rfl, hW2, hB2, -⟩; obtain ⟨az, cz, rfl⟩ := hW2.form; obtain ⟨y2, y3, y4, Z, hZ, z0, z1, zo, zb⟩ := fin.out w2 az cz zs q hW2 hB2)
        rw [← hZ.out]
        exact bodyPost_ret (v := .agg #[.slice az zs.length cz, .int .i64 q]) (by simp [results, Try.results15, go_sem, z0, z1]) rfl ⟨_, rfl, zo.out, zb⟩
    · have hzb : (x / 2 ^ N != 0) = true := by simp [hz]
      obtain ⟨rfl, rfl⟩ := (no hz).out
      have hN : N < 64 := by
        have hg2 : (N : Int) ≤ 64 := hg.2
        have : N ≠ 64 := by
          rintro rfl
          exact hz (Int.ediv_eq_zero_of_lt x0 (by simpa using x1))
        omega
      obtain ⟨y2, y3, y4, Z, hZ, z0, z1, zo, zb⟩ := fin.out V a1 c1' ys k HW.out (Below.refl _ _)
      replace hz := Kp.mk hz
      clear fin HW CP hR yes no
      have hN2 : decide ((N : Int) < 64) = true := by simp; omega
      go_wp2_with fail
      rw [← hZ.out]
      exact bodyPost_ret (v := .agg #[.slice a1 ys.length c1', .int .i64 k]) (by simp [results, Try.results15, go_sem, z0, z1]) rfl ⟨_, rfl, zo.out, zb⟩
  · obtain ⟨rfl, rfl⟩ : ys = zs ∧ k = q := by
      have e := hR.out
      rw [putR, if_neg (fun h => hg ⟨h.1, h.2.1⟩)] at e
      injection e with e1 e2
      exact ⟨e1, e2⟩
    obtain ⟨y2, y3, y4, Z, hZ, z0, z1, zo, zb⟩ := fin.out V a1 c1' ys k HW.out (Below.refl _ _)
    clear fin HW CP hR
    by_cases hlo : n < 1
    · have q1 : decide (n < 1) = true := by simp; omega
      go_wp2_with fail
      rw [← hZ.out]
      exact bodyPost_ret (v := .agg #[.slice a1 ys.length c1', .int .i64 k]) (by simp [results, Try.results15, go_sem, z0, z1]) rfl ⟨_, rfl, zo.out, zb⟩
    · have q1 : decide (n < 1) = false := by simp; omega
      have q2 : decide (64 < n) = true := by simp; omega
      go_wp2_with fail
      rw [← hZ.out]
      exact bodyPost_ret (v := .agg #[.slice a1 ys.length c1', .int .i64 k]) (by simp [results, Try.results15, go_sem, z0, z1]) rfl ⟨_, rfl, zo.out, zb⟩
end Go.Proofs.Ytfagafglloopbaa
