/- The specification's GetVar. -/
import Derived.Test.YtfagafglloopbaaBv2
import Derived.Test.YtfagafglloopbaaBg3
namespace Go.Proofs.Ytfagafglloopbaa
open Go.ChangeShapes Go.WideShapes Go.ChangeAt Go.RowKit
open Go.Sort (grow)
set_option linter.unusedVariables false
set_option linter.unusedSimpArgs false
set_option maxRecDepth 100000 in
set_option maxHeartbeats 4000000 in
theorem getVarS (v : Value) (xs : List Int) (c p n : Int) (w : World) {lo : Nat} (h : Ints lo .u8 w v xs) (hn : xs.length ≤ 1048576) (c0 : -9223372036854775808 ≤ c) (c1 : c ≤ 9223372036854775807) (hb : ∀ i (h : i < xs.length), 0 ≤ xs[i] ∧ xs[i] < 256) (p0 : -9223372036854775808 ≤ p) (p1 : p ≤ 9223372036854775807) (n0 : -9223372036854775808 ≤ n) (n1 : n ≤ 9223372036854775807) :
    Calls Try.prog 23 #[.agg #[v, .int .i64 c], .int .i64 p, .int .i64 n] w fun e w' => e = .returned (resV (resG (sndOf xs c).1 (sndOf xs c).2 p n)) ∧ Below w.heap.size w w' := by
  have hS := sndOf_snd (c := c) hb
  have hl : (sndOf xs c).1.length ≤ 1048576 := by
    by_cases q : okB xs c
    · rw [sndOf_yes q]; exact hn
    · rw [sndOf_no q]; decide
  have CG : Kp (∀ W q m, Ints lo .u8 W v xs → -9223372036854775808 ≤ q → q ≤ 9223372036854775807 → -9223372036854775808 ≤ m → m ≤ 9223372036854775807 → Calls Try.prog 20 #[.agg #[v, .int .i64 c], .int .i64 q, .int .i64 m] W _) := ⟨fun W q m h a b d e => getBitsS v xs c q m W h hn c0 c1 hb a b d e⟩
  obtain ⟨⟨ys, k⟩, hy⟩ : ∃ q, q = sndOf xs c := ⟨_, rfl⟩
  rw [← hy] at CG hl hS ⊢
  dsimp only at CG hl hS ⊢
  have hkb : k ≤ 8388608 := by have := hS.len; omega
  have HI := Kp.mk h
  obtain ⟨b, o, ⟨⟨a, cap, rfl, h1, h2⟩, h3⟩, -, hc⟩ := h.ex
  clear h h1 h2 hc hy
  have b1 := bel_trans (bel_alloc w (Go.Obj.cells #[.slice a xs.length cap, .int .i64 c] 24 (0, 0))) (bel_alloc _ (Go.Obj.cells #[.bool false, .int .u64 0, .int .i64 0] 33 (0, 0)))
  have x1 := keep_cells (new_cells w (Go.Obj.cells #[.slice a xs.length cap, .int .i64 c] 24 (0, 0))) (bel_alloc _ (Go.Obj.cells #[.bool false, .int .u64 0, .int .i64 0] 33 (0, 0)))
  have x2 : ((w.alloc (Go.Obj.cells #[.slice a xs.length cap, .int .i64 c] 24 (0, 0))).alloc (Go.Obj.cells #[.bool false, .int .u64 0, .int .i64 0] 33 (0, 0))).heap[w.heap.size + 1]? = some (Go.Obj.cells #[.bool false, .int .u64 0, .int .i64 0] 33 (0, 0)) := by
    have := new_cells (w.alloc (Go.Obj.cells #[.slice a xs.length cap, .int .i64 c] 24 (0, 0))) (Go.Obj.cells #[.bool false, .int .u64 0, .int .i64 0] 33 (0, 0))
    rwa [World.size_alloc] at this
  obtain ⟨V, hV⟩ : ∃ V, V = (w.alloc (Go.Obj.cells #[.slice a xs.length cap, .int .i64 c] 24 (0, 0))).alloc (Go.Obj.cells #[.bool false, .int .u64 0, .int .i64 0] 33 (0, 0)) := ⟨_, rfl⟩
  rw [← hV] at b1 x1 x2
  obtain ⟨⟨Rg, Rw, Ra⟩, hR⟩ : ∃ R, R = resG ys k p n := ⟨_, rfl⟩
  rw [← hR]
  dsimp only [resV]
  have hsz := Kp.mk (show w.heap.size + 2 ≤ V.heap.size by have := (Array.getElem?_eq_some_iff.1 x2).1; omega)
  -- the end: an answer is stored and handed back
  have fin : Kp (∀ W1, Below w.heap.size w W1 → W1.heap[w.heap.size + 1]? = some (Go.Obj.cells #[.bool false, .int .u64 0, .int .i64 0] 33 (0, 0)) → W1.cell? ⟨w.heap.size + 1, 0, none⟩ = some (.bool false) ∧ W1.cell? ⟨w.heap.size + 1, 1, none⟩ = some (.int .u64 0) ∧ W1.cell? ⟨w.heap.size + 1, 2, none⟩ = some (.int .i64 0) ∧ (∀ j, W1.frozen? ⟨w.heap.size + 1, j, none⟩ = false) ∧ ∃ Z, Kp (Z = ((W1.setCell ⟨w.heap.size + 1, 0, none⟩ (.bool Rg)).setCell ⟨w.heap.size + 1, 1, none⟩ (.int .u64 Rw)).setCell ⟨w.heap.size + 1, 2, none⟩ (.int .i64 Ra)) ∧ Z.cell? ⟨w.heap.size + 1, 0, none⟩ = some (.bool Rg) ∧ Z.cell? ⟨w.heap.size + 1, 1, none⟩ = some (.int .u64 Rw) ∧ Z.cell? ⟨w.heap.size + 1, 2, none⟩ = some (.int .i64 Ra) ∧ Below w.heap.size w Z) := ⟨fun W1 hB z2 => by
    have zz := set_cells (set_cells (set_cells z2 0 (.bool Rg)) 1 (.int .u64 Rw)) 2 (.int .i64 Ra)
    exact ⟨at_cells z2 rfl, at_cells z2 rfl, at_cells z2 rfl, rw_cells z2, _, ⟨rfl⟩, at_cells zz rfl, at_cells zz rfl, at_cells zz rfl, bel_set (bel_set (bel_set hB (by omega) _) (by omega) _) (by omega) _⟩⟩
  by_cases hg : 2 ≤ n ∧ n ≤ 32
  · obtain ⟨m, rfl⟩ : ∃ m : Nat, n = (m : Int) + 1 := ⟨(n - 1).toNat, by omega⟩
    have em : ((m : Int) + 1).toNat - 1 = m := by omega
    rw [resG, if_pos hg, em] at hR
    have hV0 := Kp.mk hR.symm
    have d1 : decide ((m : Int) + 1 < 2) = false := by simp; omega
    have d2 : decide ((32 : Int) < (m : Int) + 1) = false := by simp; omega
    have hm1 : 1 ≤ m := by omega
    have hm2 : m ≤ 31 := by omega
    clear hR em hS
    go_enter Try.func23, Try.ntmps23
    go_upto_region 1 with fail
    rw [← hV]
    clear hV
    go_wp2_with fail
    go_loopw [1, 7, 8] (fun s1 s7 s8 wr => ∃ (f s : Nat) (q u : Int), s1 = .int .i64 q ∧ s7 = .int .u64 u ∧ s8 = .int .i64 s ∧ Kp (gv ys k m f s q u = (Rg, Rw, Ra)) ∧ (s ≤ 128 ∧ 65 ≤ s + f ∧ 0 ≤ u ∧ u < 18446744073709551616 ∧ -9223372036854775808 ≤ q ∧ q ≤ 9223372036854775807) ∧ Kp (s < 64 → u < 2 ^ s) ∧ Kp (wr.heap[w.heap.size]? = some (Go.Obj.cells #[.slice a xs.length cap, .int .i64 c] 24 (0, 0))) ∧ Kp (wr.heap[w.heap.size + 1]? = some (Go.Obj.cells #[.bool false, .int .u64 0, .int .i64 0] 33 (0, 0))) ∧ Below w.heap.size w wr) (fun _ _ s8 _ => 128 - (intOf s8).toNat)
    case atStart => exact ⟨65, 0, p, 0, rfl, rfl, rfl, hV0, ⟨by omega, by omega, by omega, by omega, p0, p1⟩, ⟨fun _ => by decide⟩, ⟨x1⟩, ⟨x2⟩, b1⟩
    case round =>
      clear x1 x2 b1 hV0
      obtain ⟨f, s, q, u, rfl, rfl, rfl, hV, ⟨s1, sf, u0, u1, q0, q1⟩, hu, hX1, hX2, hB⟩ := hrel
      have y0 : wr.cell? ⟨w.heap.size, 0, none⟩ = some (.slice a xs.length cap) := at_cells hX1.out rfl
      have y1 : wr.cell? ⟨w.heap.size, 1, none⟩ = some (.int .i64 c) := at_cells hX1.out rfl
      have G1 := Kp.mk (CG.out wr q m (HI.out.keep hB) q0 q1 (by omega) (by omega))
      obtain ⟨⟨r1, P, t1⟩, hr1⟩ : ∃ r, Kp (r = resB ys k q m) := ⟨_, ⟨rfl⟩⟩
      rw [← hr1.out] at G1
      dsimp only [resV] at G1
      go_wp2_with fail
      refine G1.out.mono ?_
      rintro e w1 ⟨rfl, hb1⟩
      obtain ⟨s9, hs9⟩ : ∃ s, s = w1.heap.size := ⟨_, rfl⟩
      have hb1' := bel_trans hb1 (bel_alloc w1 (Go.Obj.cells #[.bool r1, .int .u64 P, .int .i64 t1] 33 (0, 0)))
      have r9 := new_cells w1 (Go.Obj.cells #[.bool r1, .int .u64 P, .int .i64 t1] 33 (0, 0))
      have hX1b := keep_cells hX1.out hb1'
      have hX2b := keep_cells hX2.out hb1'
      have hBb := bel_trans hB hb1'
      obtain ⟨V1, hV1⟩ : ∃ V, V = w1.alloc (Go.Obj.cells #[.bool r1, .int .u64 P, .int .i64 t1] 33 (0, 0)) := ⟨_, rfl⟩
      rw [← hs9] at r9
      rw [← hV1] at r9 hX1b hX2b hBb
      have z0 : V1.cell? ⟨w.heap.size, 0, none⟩ = some (.slice a xs.length cap) := at_cells hX1b rfl
      have z1 : V1.cell? ⟨w.heap.size, 1, none⟩ = some (.int .i64 c) := at_cells hX1b rfl
      clear G1 y0 y1 hX1 hX2 hb1 hb1'
      go_upto_region 7 with fail
      rw [← hV1, ← hs9]
      clear hV1 hs9
      by_cases hov : q + (m : Int) + 1 ≤ 9223372036854775807
      · have hov2 : q + ((m : Int) + 1) ≤ 9223372036854775807 := by omega
        have G2 := CG.out V1 (q + ((m : Int) + 1) - 1) 1 (HI.out.keep hBb) (by omega) (by omega) (by decide) (by decide)
        obtain ⟨⟨r2, M, t2⟩, hr2⟩ : ∃ r, Kp (r = resB ys k (q + ((m : Int) + 1) - 1) 1) := ⟨_, ⟨rfl⟩⟩
        rw [← hr2.out] at G2
        dsimp only [resV] at G2
        replace G2 := Kp.mk G2
        go_wp2_with fail
        refine G2.out.mono ?_
        rintro e w2 ⟨rfl, hb2⟩
        obtain ⟨s10, hs10⟩ : ∃ s, s = w2.heap.size := ⟨_, rfl⟩
        have hb2' := bel_trans hb2 (bel_alloc w2 (Go.Obj.cells #[.bool r2, .int .u64 M, .int .i64 t2] 33 (0, 0)))
        have r10 := new_cells w2 (Go.Obj.cells #[.bool r2, .int .u64 M, .int .i64 t2] 33 (0, 0))
        have r9c := keep_cells r9 hb2'
        have hX1c := keep_cells hX1b hb2'
        have hX2c := keep_cells hX2b hb2'
        have hBc := bel_trans hBb hb2'
        obtain ⟨V2, hV2⟩ : ∃ V, V = w2.alloc (Go.Obj.cells #[.bool r2, .int .u64 M, .int .i64 t2] 33 (0, 0)) := ⟨_, rfl⟩
        rw [← hs10] at r10
        rw [← hV2] at r10 r9c hX1c hX2c hBc
        have g0 : V2.cell? ⟨s9, 0, none⟩ = some (.bool r1) := at_cells r9c rfl
        have g1 : V2.cell? ⟨s9, 1, none⟩ = some (.int .u64 P) := at_cells r9c rfl
        have k0 : V2.cell? ⟨s10, 0, none⟩ = some (.bool r2) := at_cells r10 rfl
        have k1 : V2.cell? ⟨s10, 1, none⟩ = some (.int .u64 M) := at_cells r10 rfl
        have k2 : V2.cell? ⟨s10, 2, none⟩ = some (.int .i64 t2) := at_cells r10 rfl
        clear G2 z0 z1 hX1b hX2b hb2 hb2' r9 hBb
        go_upto_region 8 with fail
        rw [← hV2, ← hs10]
        clear hV2 hs10
        by_cases hA : 0 ≤ q ∧ q + m + 1 ≤ k
        · have e1 : (r1, P, t1) = (true, getB ys q.toNat m, q + m) := by
            rw [hr1.out, resB, if_pos ⟨by omega, by omega, by omega, by omega⟩, Int.toNat_natCast]
          have e2 : (r2, M, t2) = (true, getB ys (q.toNat + m) 1, q + m + 1) := by
            rw [hr2.out, resB, if_pos ⟨by omega, by omega, by omega, by omega⟩]
            have : (q + ((m : Int) + 1) - 1).toNat = q.toNat + m := by omega
            rw [this]
            refine Prod.ext rfl (Prod.ext rfl ?_)
            show q + ((m : Int) + 1) - 1 + 1 = q + m + 1
            omega
          injection e1 with e1a e1b
          injection e1b with e1b e1c
          injection e2 with e2a e2b
          injection e2b with e2b e2c
          subst e1a e2a
          have hPb := getB_bd ys q.toNat m
          have hMb := getB_bd ys (q.toNat + m) 1
          have hVc := hV.out
          rw [← e1b] at hPb
          rw [← e2b] at hMb
          have ht2 : Kp (t2 = q + m + 1) := ⟨e2c⟩
          have ht2b : -9223372036854775808 ≤ t2 ∧ t2 ≤ 9223372036854775807 := by omega
          have hM1 : M = 0 ∨ M = 1 := by
            have e : (2 : Int) ^ 1 = 2 := rfl
            rw [e] at hMb
            omega
          have hgv : s < 64 → ∃ f', f = f' + 1 ∧ gv ys k m f s q u = if P * 2 ^ s < 18446744073709551616 then (if M = 0 then (if P = 0 ∧ 0 < s then (false, 0, 0) else (true, u + P * 2 ^ s, t2)) else gv ys k m f' (s + m) t2 (u + P * 2 ^ s)) else (false, 0, 0) := fun hs => by
            refine ⟨f - 1, by omega, ?_⟩
            rw [show f = f - 1 + 1 by omega, gv, ← e1b, ← e2b, ← e2c]
            by_cases hf : P * 2 ^ s < 18446744073709551616
            · rw [if_pos hf, if_pos ⟨hA.1, by omega, hs, hf⟩]
              simp
            · rw [if_neg hf, if_neg (fun h => hf h.2.2.2)]
          have hps := pow_pos2 s
          have hPs0 : 0 ≤ P * 2 ^ s := Int.mul_nonneg hPb.1 (by omega)
          have e7 : ∀ z : Int, IntKind.u64.wrap z = z % 18446744073709551616 := fun z => by simp [IntKind.wrap, IntKind.bits, IntKind.signed]
          have hdiv : P * 2 ^ s / 2 ^ s = P := Int.mul_ediv_cancel _ (by omega)
          clear hr1 hr2 e1b e1c e2b e2c hA hMb hov hov2 CG
          by_cases hs : s < 64
          · obtain ⟨f', rfl, hgv⟩ := hgv hs
            have dlt : decide ((s : Int) < 64) = true := by simp; omega
            have dge : decide ((64 : Int) ≤ (s : Int)) = false := by simp; omega
            by_cases hfit : P * 2 ^ s < 18446744073709551616
            · rw [if_pos hfit] at hgv
              have hqb : (IntKind.u64.wrap (P * 2 ^ s) / 2 ^ s != P) = false := by
                rw [e7, Int.emod_eq_of_lt hPs0 hfit, hdiv]
                simp
              by_cases hP0 : P = 0
              · have dP : (P != 0) = false := by simp [hP0]
                have eP : (P == 0) = true := by simp [hP0]
                by_cases hs0 : 0 < s
                · have d0 : decide ((0 : Int) < (s : Int)) = true := by simp; omega
                  by_cases hM0 : M = 0
                  · have dM : (M == 0) = true := by simp [hM0]
                    have hVc' : gv ys k m (f' + 1) s q u = (false, 0, 0) := by rw [hgv, if_pos hM0, if_pos ⟨hP0, hs0⟩]
                    replace hP0 := Kp.mk hP0
                    replace hM0 := Kp.mk hM0
                    rw [hVc'] at hVc
                    injection hVc with v1 v2
                    injection v2 with v2 v3
                    subst v1 v2 v3
                    obtain ⟨c0', c1', c2', cf, Z, hZ, zz0, zz1, zz2, zzb⟩ := fin.out V2 hBc hX2c
                    clear fin hPb hPs0 e7 hdiv hgv hV hu
                    go_wp2_with fail
                    rw [← hZ.out]
                    exact bodyPost_ret (v := .agg #[.bool false, .int .u64 0, .int .i64 0]) (by simp [results, Try.results23, go_sem, zz0, zz1, zz2]) rfl ⟨rfl, zzb⟩
                  · have dM : (M == 0) = false := by simp [hM0]
                    have hVc' : gv ys k m (f' + 1) s q u = gv ys k m f' (s + m) t2 (u + P * 2 ^ s) := by rw [hgv, if_neg hM0]
                    replace hP0 := Kp.mk hP0
                    replace hM0 := Kp.mk hM0
                    rw [hVc'] at hVc
                    have ew : Kp (IntKind.u64.wrap (P * 2 ^ s) = P * 2 ^ s) := ⟨by rw [e7]; exact Int.emod_eq_of_lt hPs0 hfit⟩
                    have hpf := Kp.mk (piece_fits u0 (hu.out hs) hPb.1 hPb.2 hs hfit)
                    have hor : Kp (bits .or .u64 u (IntKind.u64.wrap (P * 2 ^ s)) = u + P * 2 ^ s) := ⟨by rw [ew.out]; exact or64g u P s u0 (hu.out hs) hPb.1 hfit hpf.out.1⟩
                    replace hVc := Kp.mk hVc
                    replace hfit := Kp.mk hfit
                    have hX1d := Kp.mk hX1c
                    have hX2d := Kp.mk hX2c
                    clear fin hPb hPs0 e7 hdiv hgv hV hu hX1c hX2c
                    go_wp2_with fail
                    exact ⟨⟨f', s + m, t2, u + P * 2 ^ s, rfl, by rw [hor.out], by go_num, hVc, ⟨by omega, by omega, by have := hpf.out.2.2; omega, hpf.out.1, ht2b.1, ht2b.2⟩, ⟨fun _ => hpf.out.2.1⟩, hX1d, hX2d, hBc⟩, by simp [intOf]; omega⟩
                · have d0 : decide ((0 : Int) < (s : Int)) = false := by simp; omega
                  by_cases hM0 : M = 0
                  · have dM : (M == 0) = true := by simp [hM0]
                    have hVc' : gv ys k m (f' + 1) s q u = (true, u + P * 2 ^ s, t2) := by rw [hgv, if_pos hM0, if_neg (fun h => hs0 h.2)]
                    replace hP0 := Kp.mk hP0
                    replace hM0 := Kp.mk hM0
                    rw [hVc'] at hVc
                    injection hVc with v1 v2
                    injection v2 with v2 v3
                    subst v1
                    obtain ⟨c0', c1', c2', cf, Z, hZ, zz0, zz1, zz2, zzb⟩ := fin.out V2 hBc hX2c
                    have ew : Kp (IntKind.u64.wrap (P * 2 ^ s) = P * 2 ^ s) := ⟨by rw [e7]; exact Int.emod_eq_of_lt hPs0 hfit⟩
                    have hor : Kp (bits .or .u64 u (IntKind.u64.wrap (P * 2 ^ s)) = Rw) := ⟨by rw [ew.out, ← v2]; exact or64g u P s u0 (hu.out hs) hPb.1 hfit (piece_fits u0 (hu.out hs) hPb.1 hPb.2 hs hfit).1⟩
                    replace v2 := Kp.mk v2
                    rw [← v3] at hZ zz2
                    replace v3 := Kp.mk v3
                    replace hfit := Kp.mk hfit
                    clear fin hPb hPs0 e7 hdiv hgv hV hu
                    go_wp2_with fail
                    rw [hor.out, ← hZ.out]
                    exact bodyPost_ret (v := .agg #[.bool true, .int .u64 Rw, .int .i64 t2]) (by simp [results, Try.results23, go_sem, zz0, zz1, zz2]) rfl ⟨by rw [v3.out], zzb⟩
                  · have dM : (M == 0) = false := by simp [hM0]
                    have hVc' : gv ys k m (f' + 1) s q u = gv ys k m f' (s + m) t2 (u + P * 2 ^ s) := by rw [hgv, if_neg hM0]
                    replace hP0 := Kp.mk hP0
                    replace hM0 := Kp.mk hM0
                    rw [hVc'] at hVc
                    have ew : Kp (IntKind.u64.wrap (P * 2 ^ s) = P * 2 ^ s) := ⟨by rw [e7]; exact Int.emod_eq_of_lt hPs0 hfit⟩
                    have hpf := Kp.mk (piece_fits u0 (hu.out hs) hPb.1 hPb.2 hs hfit)
                    have hor : Kp (bits .or .u64 u (IntKind.u64.wrap (P * 2 ^ s)) = u + P * 2 ^ s) := ⟨by rw [ew.out]; exact or64g u P s u0 (hu.out hs) hPb.1 hfit hpf.out.1⟩
                    replace hVc := Kp.mk hVc
                    replace hfit := Kp.mk hfit
                    have hX1d := Kp.mk hX1c
                    have hX2d := Kp.mk hX2c
                    clear fin hPb hPs0 e7 hdiv hgv hV hu hX1c hX2c
                    go_wp2_with fail
                    exact ⟨⟨f', s + m, t2, u + P * 2 ^ s, rfl, by rw [hor.out], by go_num, hVc, ⟨by omega, by omega, by have := hpf.out.2.2; omega, hpf.out.1, ht2b.1, ht2b.2⟩, ⟨fun _ => hpf.out.2.1⟩, hX1d, hX2d, hBc⟩, by simp [intOf]; omega⟩
              · have dP : (P != 0) = true := by simp [hP0]
                have eP : (P == 0) = false := by simp [hP0]
                replace hP0 := Kp.mk hP0
                by_cases hM0 : M = 0
                · have dM : (M == 0) = true := by simp [hM0]
                  have hVc' : gv ys k m (f' + 1) s q u = (true, u + P * 2 ^ s, t2) := by rw [hgv, if_pos hM0, if_neg (fun h => hP0.out h.1)]
                  replace hM0 := Kp.mk hM0
                  by_cases hs0 : 0 < s
                  · have d0 : decide ((0 : Int) < (s : Int)) = true := by simp; omega
                    rw [hVc'] at hVc
                    injection hVc with v1 v2
                    injection v2 with v2 v3
                    subst v1
                    obtain ⟨c0', c1', c2', cf, Z, hZ, zz0, zz1, zz2, zzb⟩ := fin.out V2 hBc hX2c
                    have ew : Kp (IntKind.u64.wrap (P * 2 ^ s) = P * 2 ^ s) := ⟨by rw [e7]; exact Int.emod_eq_of_lt hPs0 hfit⟩
                    have hor : Kp (bits .or .u64 u (IntKind.u64.wrap (P * 2 ^ s)) = Rw) := ⟨by rw [ew.out, ← v2]; exact or64g u P s u0 (hu.out hs) hPb.1 hfit (piece_fits u0 (hu.out hs) hPb.1 hPb.2 hs hfit).1⟩
                    replace v2 := Kp.mk v2
                    rw [← v3] at hZ zz2
                    replace v3 := Kp.mk v3
                    replace hfit := Kp.mk hfit
                    clear fin hPb hPs0 e7 hdiv hgv hV hu
                    go_wp2_with fail
                    rw [hor.out, ← hZ.out]
                    exact bodyPost_ret (v := .agg #[.bool true, .int .u64 Rw, .int .i64 t2]) (by simp [results, Try.results23, go_sem, zz0, zz1, zz2]) rfl ⟨by rw [v3.out], zzb⟩
                  · have d0 : decide ((0 : Int) < (s : Int)) = false := by simp; omega
                    rw [hVc'] at hVc
                    injection hVc with v1 v2
                    injection v2 with v2 v3
                    subst v1
                    obtain ⟨c0', c1', c2', cf, Z, hZ, zz0, zz1, zz2, zzb⟩ := fin.out V2 hBc hX2c
                    have ew : Kp (IntKind.u64.wrap (P * 2 ^ s) = P * 2 ^ s) := ⟨by rw [e7]; exact Int.emod_eq_of_lt hPs0 hfit⟩
                    have hor : Kp (bits .or .u64 u (IntKind.u64.wrap (P * 2 ^ s)) = Rw) := ⟨by rw [ew.out, ← v2]; exact or64g u P s u0 (hu.out hs) hPb.1 hfit (piece_fits u0 (hu.out hs) hPb.1 hPb.2 hs hfit).1⟩
                    replace v2 := Kp.mk v2
                    rw [← v3] at hZ zz2
                    replace v3 := Kp.mk v3
                    replace hfit := Kp.mk hfit
                    clear fin hPb hPs0 e7 hdiv hgv hV hu
                    go_wp2_with fail
                    rw [hor.out, ← hZ.out]
                    exact bodyPost_ret (v := .agg #[.bool true, .int .u64 Rw, .int .i64 t2]) (by simp [results, Try.results23, go_sem, zz0, zz1, zz2]) rfl ⟨by rw [v3.out], zzb⟩
                · have dM : (M == 0) = false := by simp [hM0]
                  have hVc' : gv ys k m (f' + 1) s q u = gv ys k m f' (s + m) t2 (u + P * 2 ^ s) := by rw [hgv, if_neg hM0]
                  replace hM0 := Kp.mk hM0
                  by_cases hs0 : 0 < s
                  · have d0 : decide ((0 : Int) < (s : Int)) = true := by simp; omega
                    rw [hVc'] at hVc
                    have ew : Kp (IntKind.u64.wrap (P * 2 ^ s) = P * 2 ^ s) := ⟨by rw [e7]; exact Int.emod_eq_of_lt hPs0 hfit⟩
                    have hpf := Kp.mk (piece_fits u0 (hu.out hs) hPb.1 hPb.2 hs hfit)
                    have hor : Kp (bits .or .u64 u (IntKind.u64.wrap (P * 2 ^ s)) = u + P * 2 ^ s) := ⟨by rw [ew.out]; exact or64g u P s u0 (hu.out hs) hPb.1 hfit hpf.out.1⟩
                    replace hVc := Kp.mk hVc
                    replace hfit := Kp.mk hfit
                    have hX1d := Kp.mk hX1c
                    have hX2d := Kp.mk hX2c
                    clear fin hPb hPs0 e7 hdiv hgv hV hu hX1c hX2c
                    go_wp2_with fail
                    exact ⟨⟨f', s + m, t2, u + P * 2 ^ s, rfl, by rw [hor.out], by go_num, hVc, ⟨by omega, by omega, by have := hpf.out.2.2; omega, hpf.out.1, ht2b.1, ht2b.2⟩, ⟨fun _ => hpf.out.2.1⟩, hX1d, hX2d, hBc⟩, by simp [intOf]; omega⟩
                  · have d0 : decide ((0 : Int) < (s : Int)) = false := by simp; omega
                    rw [hVc'] at hVc
                    have ew : Kp (IntKind.u64.wrap (P * 2 ^ s) = P * 2 ^ s) := ⟨by rw [e7]; exact Int.emod_eq_of_lt hPs0 hfit⟩
                    have hpf := Kp.mk (piece_fits u0 (hu.out hs) hPb.1 hPb.2 hs hfit)
                    have hor : Kp (bits .or .u64 u (IntKind.u64.wrap (P * 2 ^ s)) = u + P * 2 ^ s) := ⟨by rw [ew.out]; exact or64g u P s u0 (hu.out hs) hPb.1 hfit hpf.out.1⟩
                    replace hVc := Kp.mk hVc
                    replace hfit := Kp.mk hfit
                    have hX1d := Kp.mk hX1c
                    have hX2d := Kp.mk hX2c
                    clear fin hPb hPs0 e7 hdiv hgv hV hu hX1c hX2c
                    go_wp2_with fail
                    exact ⟨⟨f', s + m, t2, u + P * 2 ^ s, rfl, by rw [hor.out], by go_num, hVc, ⟨by omega, by omega, by have := hpf.out.2.2; omega, hpf.out.1, ht2b.1, ht2b.2⟩, ⟨fun _ => hpf.out.2.1⟩, hX1d, hX2d, hBc⟩, by simp [intOf]; omega⟩
            · rw [if_neg hfit] at hgv
              have hVc' := hgv
              have hqb : (IntKind.u64.wrap (P * 2 ^ s) / 2 ^ s != P) = true := by
                rw [e7]
                have h1 := Int.emod_lt_of_pos (P * 2 ^ s) (show (0 : Int) < 18446744073709551616 by decide)
                have h2 : P * 2 ^ s % 18446744073709551616 < P * 2 ^ s := by omega
                have h3 : P * 2 ^ s % 18446744073709551616 / 2 ^ s < P := Int.ediv_lt_of_lt_mul hps h2
                simp
                omega
              have hP0 : P ≠ 0 := by rintro rfl; simp at hfit
              have dP : (P != 0) = true := by simp [hP0]
              replace hP0 := Kp.mk hP0
              replace hfit := Kp.mk hfit
              rw [hVc'] at hVc
              injection hVc with v1 v2
              injection v2 with v2 v3
              subst v1 v2 v3
              obtain ⟨c0', c1', c2', cf, Z, hZ, zz0, zz1, zz2, zzb⟩ := fin.out V2 hBc hX2c
              clear fin hPb hPs0 e7 hdiv hgv hV hu
              go_wp2_with fail
              rw [← hZ.out]
              exact bodyPost_ret (v := .agg #[.bool false, .int .u64 0, .int .i64 0]) (by simp [results, Try.results23, go_sem, zz0, zz1, zz2]) rfl ⟨rfl, zzb⟩
          · have hVc' : gv ys k m f s q u = (false, 0, 0) := by
              cases f with
              | zero => rfl
              | succ f => rw [gv, if_neg (fun h => hs h.2.2.1)]
            have dlt : decide ((s : Int) < 64) = false := by simp; omega
            have dge : decide ((64 : Int) ≤ (s : Int)) = true := by simp; omega
            have d0 : decide ((0 : Int) < (s : Int)) = true := by simp; omega
            replace hs := Kp.mk hs
            clear hps ht2
            by_cases hP0 : P = 0
            · subst hP0
              by_cases hM0 : M = 0
              · have dM : (M == 0) = true := by simp [hM0]
                replace hM0 := Kp.mk hM0
                rw [hVc'] at hVc
                injection hVc with v1 v2
                injection v2 with v2 v3
                subst v1 v2 v3
                obtain ⟨c0', c1', c2', cf, Z, hZ, zz0, zz1, zz2, zzb⟩ := fin.out V2 hBc hX2c
                clear fin hPb hPs0 e7 hdiv hgv hV hu
                go_upto_region 11 with fail
                clear s1 sf hs
                generalize (s : Int) = S at *
                go_wp2_with fail
                rw [← hZ.out]
                exact bodyPost_ret (v := .agg #[.bool false, .int .u64 0, .int .i64 0]) (by simp [results, Try.results23, go_sem, zz0, zz1, zz2]) rfl ⟨rfl, zzb⟩
              · have dM : (M == 0) = false := by simp [hM0]
                replace hM0 := Kp.mk hM0
                rw [hVc'] at hVc
                injection hVc with v1 v2
                injection v2 with v2 v3
                subst v1 v2 v3
                obtain ⟨c0', c1', c2', cf, Z, hZ, zz0, zz1, zz2, zzb⟩ := fin.out V2 hBc hX2c
                clear fin hPb hPs0 e7 hdiv hgv hV hu
                go_upto_region 11 with fail
                clear s1 sf hs
                generalize (s : Int) = S at *
                go_wp2_with fail
                rw [← hZ.out]
                exact bodyPost_ret (v := .agg #[.bool false, .int .u64 0, .int .i64 0]) (by simp [results, Try.results23, go_sem, zz0, zz1, zz2]) rfl ⟨rfl, zzb⟩
            · have dP : (P != 0) = true := by simp [hP0]
              replace hP0 := Kp.mk hP0
              rw [hVc'] at hVc
              injection hVc with v1 v2
              injection v2 with v2 v3
              subst v1 v2 v3
              obtain ⟨c0', c1', c2', cf, Z, hZ, zz0, zz1, zz2, zzb⟩ := fin.out V2 hBc hX2c
              clear fin hPb hPs0 e7 hdiv hgv hV hu
              go_wp2_with fail
              rw [← hZ.out]
              exact bodyPost_ret (v := .agg #[.bool false, .int .u64 0, .int .i64 0]) (by simp [results, Try.results23, go_sem, zz0, zz1, zz2]) rfl ⟨rfl, zzb⟩
        · have hbad : (r1 = false ∨ r2 = false) ∧ (Rg = false ∧ Rw = 0 ∧ Ra = 0) := by
            constructor
            · by_cases h1 : 0 ≤ q ∧ q + m ≤ k
              · right
                have h := hr2.out
                rw [resB, if_neg (by rintro ⟨a, b, c, d⟩; exact hA ⟨h1.1, by omega⟩)] at h
                injection h
              · left
                have h := hr1.out
                rw [resB, if_neg (by rintro ⟨a, b, c, d⟩; exact h1 ⟨c, by omega⟩)] at h
                injection h
            · have h := hV.out
              cases f with
              | zero => rw [gv] at h; injection h with h1 h2; injection h2 with h2 h3; exact ⟨h1.symm, h2.symm, h3.symm⟩
              | succ f => rw [gv, if_neg (fun h => hA ⟨h.1, h.2.1⟩)] at h; injection h with h1 h2; injection h2 with h2 h3; exact ⟨h1.symm, h2.symm, h3.symm⟩
          obtain ⟨hr, rfl, rfl, rfl⟩ := hbad
          obtain ⟨c0', c1', c2', cf, Z, hZ, zz0, zz1, zz2, zzb⟩ := fin.out V2 hBc hX2c
          clear hr1 hr2 hV hu fin CG
          cases r1 with
          | false =>
            go_wp2_with fail
            rw [← hZ.out]
            exact bodyPost_ret (v := .agg #[.bool false, .int .u64 0, .int .i64 0]) (by simp [results, Try.results23, go_sem, zz0, zz1, zz2]) rfl ⟨rfl, zzb⟩
          | true =>
            obtain rfl : r2 = false := by rcases hr with h | h; cases h; exact h
            go_wp2_with fail
            rw [← hZ.out]
            exact bodyPost_ret (v := .agg #[.bool false, .int .u64 0, .int .i64 0]) (by simp [results, Try.results23, go_sem, zz0, zz1, zz2]) rfl ⟨rfl, zzb⟩
      · have hbad : r1 = false ∧ (Rg = false ∧ Rw = 0 ∧ Ra = 0) := by
          constructor
          · have h := hr1.out
            rw [resB, if_neg (by rintro ⟨a, b, c, d⟩; omega)] at h
            injection h
          · have h := hV.out
            cases f with
            | zero => rw [gv] at h; injection h with h1 h2; injection h2 with h2 h3; exact ⟨h1.symm, h2.symm, h3.symm⟩
            | succ f => rw [gv, if_neg (by rintro ⟨a, b, c, d⟩; omega)] at h; injection h with h1 h2; injection h2 with h2 h3; exact ⟨h1.symm, h2.symm, h3.symm⟩
        obtain ⟨rfl, rfl, rfl, rfl⟩ := hbad
        have hwb : ∀ z, -9223372036854775808 ≤ wrap64 z ∧ wrap64 z ≤ 9223372036854775807 := fun z => by unfold wrap64; omega
        obtain ⟨j, hj⟩ : ∃ j, Kp (j = wrap64 (wrap64 (q + ((m : Int) + 1)) - 1)) := ⟨_, ⟨rfl⟩⟩
        have hjb : -9223372036854775808 ≤ j ∧ j ≤ 9223372036854775807 := by rw [hj.out]; exact hwb _
        obtain ⟨⟨r2, M, t2⟩, hr2⟩ : ∃ r, Kp (r = resB ys k j 1) := ⟨_, ⟨rfl⟩⟩
        have G2 := CG.out V1 j 1 (HI.out.keep hBb) hjb.1 hjb.2 (by decide) (by decide)
        rw [← hr2.out] at G2
        dsimp only [resV] at G2
        replace G2 := Kp.mk G2
        clear hwb
        go_wp2_with fail
        rw [← hj.out]
        refine G2.out.mono ?_
        rintro e w2 ⟨rfl, hb2⟩
        obtain ⟨r1, hr1'⟩ : ∃ r1, r1 = false := ⟨_, rfl⟩
        rw [← hr1'] at r9
        obtain ⟨s10, hs10⟩ : ∃ s, s = w2.heap.size := ⟨_, rfl⟩
        have hb2' := bel_trans hb2 (bel_alloc w2 (Go.Obj.cells #[.bool r2, .int .u64 M, .int .i64 t2] 33 (0, 0)))
        have r10 := new_cells w2 (Go.Obj.cells #[.bool r2, .int .u64 M, .int .i64 t2] 33 (0, 0))
        have r9c := keep_cells r9 hb2'
        have hX1c := keep_cells hX1b hb2'
        have hX2c := keep_cells hX2b hb2'
        have hBc := bel_trans hBb hb2'
        obtain ⟨V2, hV2⟩ : ∃ V, V = w2.alloc (Go.Obj.cells #[.bool r2, .int .u64 M, .int .i64 t2] 33 (0, 0)) := ⟨_, rfl⟩
        rw [← hs10] at r10
        rw [← hV2] at r10 r9c hX1c hX2c hBc
        have g0 : V2.cell? ⟨s9, 0, none⟩ = some (.bool r1) := at_cells r9c rfl
        have g1 : V2.cell? ⟨s9, 1, none⟩ = some (.int .u64 P) := at_cells r9c rfl
        have k0 : V2.cell? ⟨s10, 0, none⟩ = some (.bool r2) := at_cells r10 rfl
        have k1 : V2.cell? ⟨s10, 1, none⟩ = some (.int .u64 M) := at_cells r10 rfl
        have k2 : V2.cell? ⟨s10, 2, none⟩ = some (.int .i64 t2) := at_cells r10 rfl
        clear G2 z0 z1 hX1b hX2b hb2 hb2' r9 hBb
        go_upto_region 8 with fail
        rw [← hV2, ← hs10]
        clear hV2 hs10
        subst hr1'
        obtain ⟨c0', c1', c2', cf, Z, hZ, zz0, zz1, zz2, zzb⟩ := fin.out V2 hBc hX2c
        clear hr1 hr2 hV hu fin CG hj
        go_wp2_with fail
        rw [← hZ.out]
        exact bodyPost_ret (v := .agg #[.bool false, .int .u64 0, .int .i64 0]) (by simp [results, Try.results23, go_sem, zz0, zz1, zz2]) rfl ⟨rfl, zzb⟩
  · rw [resG, if_neg hg] at hR
    injection hR with e1 e2
    injection e2 with e2 e3
    subst e1 e2 e3
    obtain ⟨c0', c1', c2', cf, Z, hZ, zz0, zz1, zz2, zzb⟩ := fin.out V b1 x2
    clear fin CG x1 x2 b1 hS
    by_cases hlo : n < 2
    · have d1 : decide (n < 2) = true := by simp; omega
      go_enter Try.func23, Try.ntmps23
      go_upto_region 1 with fail
      rw [← hV]
      clear hV
      go_wp2_with fail
      rw [← hZ.out]
      exact bodyPost_ret (v := .agg #[.bool false, .int .u64 0, .int .i64 0]) (by simp [results, Try.results23, go_sem, zz0, zz1, zz2]) rfl ⟨rfl, zzb⟩
    · have d1 : decide (n < 2) = false := by simp; omega
      have d2 : decide (32 < n) = true := by simp; omega
      go_enter Try.func23, Try.ntmps23
      go_upto_region 1 with fail
      rw [← hV]
      clear hV
      go_wp2_with fail
      rw [← hZ.out]
      exact bodyPost_ret (v := .agg #[.bool false, .int .u64 0, .int .i64 0]) (by simp [results, Try.results23, go_sem, zz0, zz1, zz2]) rfl ⟨rfl, zzb⟩
end Go.Proofs.Ytfagafglloopbaa
