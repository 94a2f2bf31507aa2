/- The specification's GetBits. -/
import Derived.Test.YtfagafglloopbaaBg2
import Derived.Test.YtfagafglloopbaaBs1
namespace Go.Proofs.Ytfagafglloopbaa
open Go.ChangeShapes Go.WideShapes Go.ChangeAt Go.RowKit
open Go.Sort (grow)
set_option linter.unusedVariables false
set_option linter.unusedSimpArgs false
set_option maxRecDepth 100000 in
set_option maxHeartbeats 4000000 in
theorem getBitsS (v : Value) (xs : List Int) (c p n : Int) (w : World) {lo : Nat} (h : Ints lo .u8 w v xs) (hn : xs.length ≤ 1048576) (c0 : -9223372036854775808 ≤ c) (c1 : c ≤ 9223372036854775807) (hb : ∀ i (h : i < xs.length), 0 ≤ xs[i] ∧ xs[i] < 256) (p0 : -9223372036854775808 ≤ p) (p1 : p ≤ 9223372036854775807) (n0 : -9223372036854775808 ≤ n) (n1 : n ≤ 9223372036854775807) :
    Calls Try.prog 20 #[.agg #[v, .int .i64 c], .int .i64 p, .int .i64 n] w fun e w' => e = .returned (resV (resB (sndOf xs c).1 (sndOf xs c).2 p n)) ∧ Below w.heap.size w w' := by
  have hS := sndOf_snd (c := c) hb
  have CO := fun W h => okS v xs c (lo := lo) W h hn c0 c1 hb
  have HI := Kp.mk h
  obtain ⟨b, o, ⟨⟨a, cap, rfl, h1, h2⟩, h3⟩, -, hc⟩ := h.ex
  have hc := Kp.mk hc
  have h2 := Kp.mk h2
  have b1 := bel_trans (bel_alloc w (Go.Obj.cells #[.slice a xs.length cap, .int .i64 c] 24 (0, 0))) (bel_alloc _ (Go.Obj.cells #[.bool false, .int .u64 0, .int .i64 0] 33 (0, 0)))
  have x1 := keep_cells (new_cells w (Go.Obj.cells #[.slice a xs.length cap, .int .i64 c] 24 (0, 0))) (bel_alloc _ (Go.Obj.cells #[.bool false, .int .u64 0, .int .i64 0] 33 (0, 0)))
  have x2 : ((w.alloc (Go.Obj.cells #[.slice a xs.length cap, .int .i64 c] 24 (0, 0))).alloc (Go.Obj.cells #[.bool false, .int .u64 0, .int .i64 0] 33 (0, 0))).heap[w.heap.size + 1]? = some (Go.Obj.cells #[.bool false, .int .u64 0, .int .i64 0] 33 (0, 0)) := by
    have := new_cells (w.alloc (Go.Obj.cells #[.slice a xs.length cap, .int .i64 c] 24 (0, 0))) (Go.Obj.cells #[.bool false, .int .u64 0, .int .i64 0] 33 (0, 0))
    rwa [World.size_alloc] at this
  obtain ⟨V, hV⟩ : ∃ V, V = (w.alloc (Go.Obj.cells #[.slice a xs.length cap, .int .i64 c] 24 (0, 0))).alloc (Go.Obj.cells #[.bool false, .int .u64 0, .int .i64 0] 33 (0, 0)) := ⟨_, rfl⟩
  rw [← hV] at b1 x1 x2
  have y0 : V.cell? ⟨w.heap.size, 0, none⟩ = some (.slice a xs.length cap) := at_cells x1 rfl
  have y1 : V.cell? ⟨w.heap.size, 1, none⟩ = some (.int .i64 c) := at_cells x1 rfl
  -- the end: an answer is stored and handed back
  have fin : Kp (∀ W1 (Rg : Bool) (Rw Ra : Int), Below V.heap.size V W1 → W1.cell? ⟨w.heap.size, 0, none⟩ = some (.slice a xs.length cap) ∧ W1.cell? ⟨w.heap.size, 1, none⟩ = some (.int .i64 c) ∧ W1.cell? ⟨w.heap.size + 1, 0, none⟩ = some (.bool false) ∧ W1.cell? ⟨w.heap.size + 1, 1, none⟩ = some (.int .u64 0) ∧ W1.cell? ⟨w.heap.size + 1, 2, none⟩ = some (.int .i64 0) ∧ (∀ j, W1.frozen? ⟨w.heap.size + 1, j, none⟩ = false) ∧ ∃ Z, Kp (Z = ((W1.setCell ⟨w.heap.size + 1, 0, none⟩ (.bool Rg)).setCell ⟨w.heap.size + 1, 1, none⟩ (.int .u64 Rw)).setCell ⟨w.heap.size + 1, 2, none⟩ (.int .i64 Ra)) ∧ Z.cell? ⟨w.heap.size + 1, 0, none⟩ = some (.bool Rg) ∧ Z.cell? ⟨w.heap.size + 1, 1, none⟩ = some (.int .u64 Rw) ∧ Z.cell? ⟨w.heap.size + 1, 2, none⟩ = some (.int .i64 Ra) ∧ Below w.heap.size w Z) := ⟨fun W1 Rg Rw Ra hB => by
    have z1 := keep_cells x1 hB
    have z2 := keep_cells x2 hB
    have zz := set_cells (set_cells (set_cells z2 0 (.bool Rg)) 1 (.int .u64 Rw)) 2 (.int .i64 Ra)
    exact ⟨at_cells z1 rfl, at_cells z1 rfl, at_cells z2 rfl, at_cells z2 rfl, at_cells z2 rfl, rw_cells z2, _, ⟨rfl⟩, at_cells zz rfl, at_cells zz rfl, at_cells zz rfl, bel_set (bel_set (bel_set (bel_trans b1 hB) (by omega) _) (by omega) _) (by omega) _⟩⟩
  obtain ⟨⟨Rg, Rw, Ra⟩, hR⟩ : ∃ R, R = resB (sndOf xs c).1 (sndOf xs c).2 p n := ⟨_, rfl⟩
  rw [← hR]
  dsimp only [resV]
  have hsz := Kp.mk (show w.heap.size + 2 ≤ V.heap.size by have := (Array.getElem?_eq_some_iff.1 x2).1; omega)
  by_cases hok : okB xs c
  · rw [sndOf_yes hok] at hR hS
    obtain ⟨K, rfl⟩ := Int.eq_ofNat_of_zero_le hok.1
    rw [Int.toNat_natCast] at hR hS
    dsimp only at hR hS
    have G1 := Kp.mk ((CO _ (HI.out.keep b1)).1 hok)
    have hbad : Kp (¬ (1 ≤ n ∧ n ≤ 64 ∧ 0 ≤ p ∧ p + n ≤ K) → Rg = false ∧ Rw = 0 ∧ Ra = 0) := ⟨fun h => by
      rw [resB, if_neg h] at hR
      injection hR with e1 e2
      injection e2 with e2 e3
      exact ⟨e1, e2, e3⟩⟩
    have hlen := hS.len
    have hKb : K ≤ 8388608 := by omega
    clear CO hok x1 x2
    by_cases g1 : n < 1
    · obtain ⟨rfl, rfl, rfl⟩ := hbad.out (fun h => by omega)
      have d1 : decide (n < 1) = true := by simp; omega
      clear hbad hlen hR hS
      go_enter Try.func20, Try.ntmps20
      go_upto_region 1 with fail
      rw [← hV]
      clear hV
      go_wp2_with (go_at_call 40; refine G1.out.mono ?_; rintro e w1 ⟨rfl, hb1⟩; obtain ⟨q0, q1, q2, q3, q4, q5, Z, hZ, z0, z1, z2, zb⟩ := fin.out w1 false 0 0 hb1)
      rw [← hZ.out]
      exact bodyPost_ret (v := .agg #[.bool false, .int .u64 0, .int .i64 0]) (by simp [results, Try.results20, go_sem, z0, z1, z2]) rfl ⟨rfl, zb⟩
    by_cases g2 : 64 < n
    · obtain ⟨rfl, rfl, rfl⟩ := hbad.out (fun h => by omega)
      have d1 : decide (n < 1) = false := by simp; omega
      have d2 : decide (64 < n) = true := by simp; omega
      clear hbad hlen hR hS
      go_enter Try.func20, Try.ntmps20
      go_upto_region 1 with fail
      rw [← hV]
      clear hV
      go_wp2_with (go_at_call 40; refine G1.out.mono ?_; rintro e w1 ⟨rfl, hb1⟩; obtain ⟨q0, q1, q2, q3, q4, q5, Z, hZ, z0, z1, z2, zb⟩ := fin.out w1 false 0 0 hb1)
      rw [← hZ.out]
      exact bodyPost_ret (v := .agg #[.bool false, .int .u64 0, .int .i64 0]) (by simp [results, Try.results20, go_sem, z0, z1, z2]) rfl ⟨rfl, zb⟩
    by_cases g3 : p < 0
    · obtain ⟨rfl, rfl, rfl⟩ := hbad.out (fun h => by omega)
      have d1 : decide (n < 1) = false := by simp; omega
      have d2 : decide (64 < n) = false := by simp; omega
      have d3 : decide (p < 0) = true := by simp; omega
      clear hbad hlen hR hS
      go_enter Try.func20, Try.ntmps20
      go_upto_region 1 with fail
      rw [← hV]
      clear hV
      go_wp2_with (go_at_call 40; refine G1.out.mono ?_; rintro e w1 ⟨rfl, hb1⟩; obtain ⟨q0, q1, q2, q3, q4, q5, Z, hZ, z0, z1, z2, zb⟩ := fin.out w1 false 0 0 hb1)
      rw [← hZ.out]
      exact bodyPost_ret (v := .agg #[.bool false, .int .u64 0, .int .i64 0]) (by simp [results, Try.results20, go_sem, z0, z1, z2]) rfl ⟨rfl, zb⟩
    by_cases g4 : (K : Int) < p
    · obtain ⟨rfl, rfl, rfl⟩ := hbad.out (fun h => by omega)
      have d1 : decide (n < 1) = false := by simp; omega
      have d2 : decide (64 < n) = false := by simp; omega
      have d3 : decide (p < 0) = false := by simp; omega
      have d4 : decide ((K : Int) < p) = true := by simp; omega
      clear hbad hlen hR hS
      go_enter Try.func20, Try.ntmps20
      go_upto_region 1 with fail
      rw [← hV]
      clear hV
      go_wp2_with (go_at_call 40; refine G1.out.mono ?_; rintro e w1 ⟨rfl, hb1⟩; obtain ⟨q0, q1, q2, q3, q4, q5, Z, hZ, z0, z1, z2, zb⟩ := fin.out w1 false 0 0 hb1)
      rw [← hZ.out]
      exact bodyPost_ret (v := .agg #[.bool false, .int .u64 0, .int .i64 0]) (by simp [results, Try.results20, go_sem, z0, z1, z2]) rfl ⟨rfl, zb⟩
    by_cases g5 : (K : Int) - p < n
    · obtain ⟨rfl, rfl, rfl⟩ := hbad.out (fun h => by omega)
      have d1 : decide (n < 1) = false := by simp; omega
      have d2 : decide (64 < n) = false := by simp; omega
      have d3 : decide (p < 0) = false := by simp; omega
      have d4 : decide ((K : Int) < p) = false := by simp; omega
      have d5 : decide ((K : Int) - p < n) = true := by simp; omega
      clear hbad hlen hR hS
      go_enter Try.func20, Try.ntmps20
      go_upto_region 1 with fail
      rw [← hV]
      clear hV
      go_wp2_with (go_at_call 40; refine G1.out.mono ?_; rintro e w1 ⟨rfl, hb1⟩; obtain ⟨q0, q1, q2, q3, q4, q5, Z, hZ, z0, z1, z2, zb⟩ := fin.out w1 false 0 0 hb1)
      rw [← hZ.out]
      exact bodyPost_ret (v := .agg #[.bool false, .int .u64 0, .int .i64 0]) (by simp [results, Try.results20, go_sem, z0, z1, z2]) rfl ⟨rfl, zb⟩
    have d1 : decide (n < 1) = false := by simp; omega
    have d2 : decide (64 < n) = false := by simp; omega
    have d3 : decide (p < 0) = false := by simp; omega
    have d4 : decide ((K : Int) < p) = false := by simp; omega
    have d5 : decide ((K : Int) - p < n) = false := by simp; omega
    rw [resB, if_pos ⟨by omega, by omega, by omega, by omega⟩] at hR
    injection hR with e1 e2
    injection e2 with e2 e3
    subst e1
    obtain ⟨P, rfl⟩ := Int.eq_ofNat_of_zero_le (show 0 ≤ p by omega)
    obtain ⟨N, rfl⟩ := Int.eq_ofNat_of_zero_le (show 0 ≤ n by omega)
    rw [Int.toNat_natCast, Int.toNat_natCast] at e2
    have HC : Kp (∀ W1, Below V.heap.size V W1 → ∀ i (hi : i < xs.length), W1.cell? ⟨b, o + i, none⟩ = some (.int .u8 xs[i])) := ⟨fun W1 hB i hi => at_keep (hc.out i hi) (bel_trans b1 hB)⟩
    replace hS := Kp.mk hS
    replace hlen := Kp.mk hlen
    replace e2 := Kp.mk e2
    replace e3 := Kp.mk e3
    clear hbad
    go_enter Try.func20, Try.ntmps20
    go_upto_region 1 with fail
    rw [← hV]
    clear hV
    go_wp2_with (go_at_call 40; refine G1.out.mono ?_; rintro e w1 ⟨rfl, hb1⟩; obtain ⟨q0, q1, q2, q3, q4, q5, Z, hZ, z0, z1, z2, zb⟩ := fin.out w1 true Rw Ra hb1)
    replace HC := Kp.mk (HC.out w1 hb1)
    go_loopw [7, 8] (fun s r wr => ∃ i : Nat, i ≤ N ∧ r = .int .i64 i ∧ s = .int .u64 (getB xs P i) ∧ wr = w1) (fun _ r _ => N - (intOf r).toNat)
    case atStart => exact ⟨0, Nat.zero_le _, rfl, rfl, rfl⟩
    case round =>
      obtain ⟨i, hi, rfl, rfl, rfl⟩ := hrel
      by_cases hlt : i < N
      · have hzk : P + i < K := by omega
        have hl2 : (P + i) / 8 < xs.length := by have := hlen.out; omega
        have hl0 : 0 < xs.length := by omega
        obtain rfl := h2.out hl0
        have hx := HC.out ((P + i) / 8) hl2
        have hxb := hS.out.byte ((P + i) / 8) hl2
        obtain ⟨x, hxe⟩ : ∃ x, Kp (x = xs[(P + i) / 8]) := ⟨_, ⟨rfl⟩⟩
        rw [← hxe.out] at hx hxb
        have hpz := pow_pos2 ((P + i) % 8)
        have hd : 0 ≤ x / 2 ^ ((P + i) % 8) ∧ x / 2 ^ ((P + i) % 8) < 256 := ⟨Int.ediv_nonneg hxb.1 (by omega), Int.lt_of_le_of_lt (Int.ediv_le_self _ hxb.1) hxb.2⟩
        have hand := Kp.mk (and1b (x / 2 ^ ((P + i) % 8)) hd.1 hd.2)
        obtain ⟨acc, hacc⟩ : ∃ acc, Kp (acc = getB xs P i) := ⟨_, ⟨rfl⟩⟩
        rw [← hacc.out]
        have hab := getB_bd xs P i
        rw [← hacc.out] at hab
        have hor := Kp.mk (or64 acc (x / 2 ^ ((P + i) % 8) % 2) i (by omega) hab.1 hab.2 (by omega) (by omega))
        have hstep : Kp (acc + x / 2 ^ ((P + i) % 8) % 2 * 2 ^ i = getB xs P (i + 1)) := ⟨by
          rw [hacc.out, getB, bitAt]
          simp [List.getD_eq_getElem?_getD, hl2, hxe.out]⟩
        have hall : Kp (bits .or .u64 acc (IntKind.u64.wrap (IntKind.u64.wrap (bits .and .u8 (x / 2 ^ ((P + i) % 8)) 1) * 2 ^ i)) = getB xs P (i + 1)) := ⟨by
          have e7 : ∀ z : Int, IntKind.u64.wrap z = z % 18446744073709551616 := fun z => by simp [IntKind.wrap, IntKind.bits, IntKind.signed]
          rw [hand.out, e7, e7, show x / 2 ^ ((P + i) % 8) % 2 % 18446744073709551616 = x / 2 ^ ((P + i) % 8) % 2 by omega, hor.out, hstep.out]⟩
        have hi64 : (i : Int) < 64 := by omega
        go_upto_region 7 with fail
        go_wp2_with fail
        exact ⟨⟨i + 1, by omega, by go_num, by rw [hall.out], trivial⟩, by simp [intOf]; omega⟩
      · obtain rfl : i = N := by omega
        rw [← e2.out]
        rw [e3.out] at hZ z2
        have hov : (P : Int) + i ≤ 9223372036854775807 := by omega
        clear HC hS hlen
        go_wp2_with fail
        rw [← hZ.out]
        exact bodyPost_ret (v := .agg #[.bool true, .int .u64 Rw, .int .i64 ((P : Int) + i)]) (by simp [results, Try.results20, go_sem, z0, z1, z2]) rfl ⟨by rw [e3.out], zb⟩
  · rw [sndOf_no hok] at hR
    have G1 := Kp.mk ((CO _ (HI.out.keep b1)).2 hok)
    rw [show resB ([], 0).1 ([], 0).2 p n = (false, 0, 0) from if_neg (by rintro ⟨a, b, c, d⟩; dsimp only at d; omega)] at hR
    injection hR with e1 e2
    injection e2 with e2 e3
    subst e1 e2 e3
    clear CO hok x1 x2 hS
    go_enter Try.func20, Try.ntmps20
    go_upto_region 1 with fail
    rw [← hV]
    clear hV
    go_wp2_with (go_at_call 40; refine G1.out.mono ?_; rintro e w1 ⟨rfl, hb1⟩; obtain ⟨q0, q1, q2, q3, q4, q5, Z, hZ, z0, z1, z2, zb⟩ := fin.out w1 false 0 0 hb1)
    rw [← hZ.out]
    exact bodyPost_ret (v := .agg #[.bool false, .int .u64 0, .int .i64 0]) (by simp [results, Try.results20, go_sem, z0, z1, z2]) rfl ⟨rfl, zb⟩
end Go.Proofs.Ytfagafglloopbaa
