/- Values that are live where a block begins: the program's answer. -/
import Derived.Test.YtbfpfjkjeekbdaaLi6
import Derived.Test.YtbfpfjkjeekbdaaDo1
import Derived.Test.YtbfpfjkjeekbdaaShelf
import Derived.Test.YtbfpfjkjeekbdaaHr1
import Derived.Test.YtbfpfjkjeekbdaaTk
import Derived.Test.YtbfpfjkjeekbdaaWk1
namespace Go.Proofs.Ytbfpfjkjeekbdaa
open Go.ChangeShapes Go.WideShapes Go.ChangeAt Go.RowKit
attribute [local go_sem] Oper.semAt_some
set_option linter.unusedVariables false
set_option linter.unusedSimpArgs false
theorem usesC (vN vP : Value) (name : ByteArray) (link res : Int) (vp vb : Value) (hN : ∃ a n c, vN = .slice a n c) (hP : ∃ a n c, vP = .slice a n c) (hp : ∃ a n c, vp = .slice a n c) (hb : ∃ a n c, vb = .slice a n c) (w : World) :
    Calls Try.prog 45 #[.agg #[vN, vP], .agg #[.string name, .int .i64 link, vp, .int .i64 res, vb]] w fun e w' => e = .returned (.func (.func 64) #[] #[.pointer (some ⟨w.heap.size + 1, 0, none⟩), .pointer (some ⟨w.heap.size, 0, none⟩)]) ∧ w' = (w.alloc (.cells #[vN, vP] 53)).alloc (.cells #[.string name, .int .i64 link, vp, .int .i64 res, vb] 30) := by
  obtain ⟨a1, n1, c1, rfl⟩ := hN
  obtain ⟨a2, n2, c2, rfl⟩ := hP
  obtain ⟨a3, n3, c3, rfl⟩ := hp
  obtain ⟨a4, n4, c4, rfl⟩ := hb
  go_enter Try.func45, Try.ntmps45
  go_wp2
  go_ret
  exact ⟨rfl, rfl⟩
theorem prevs_okL (blocks : List (List InD)) (hn : blsN blocks ≤ 1048576) : ∀ y : Nat, y < blocks.length → (prevs blocks blocks.length y).length ≤ 1048576 ∧ ∀ x, x ∈ prevs blocks blocks.length y ↔ ∃ i : Nat, x = i ∧ i < blocks.length ∧ (y : Int) ∈ nextL blocks i := fun y hy =>
  ⟨by have h1 := prevs_len blocks blocks.length y; have h2 := nxtN_le blocks blocks.length (Nat.le_refl _); omega, fun x => prevs_mem blocks y x blocks.length⟩
theorem keeps_of {lo : Nat} {W X : World} (h : ∀ k, k < W.heap.size → X.heap[k]? = W.heap[k]?) : Keeps lo W X := fun b o v _ hc => (World.cell?_of_block (a := ⟨b, o, none⟩) (h b (Lib.lt_of_cell hc))).trans hc
theorem uA_len (bls : List (List InD)) (b i : Nat) (x : InD) : ∀ n, (uA bls b i x n).length ≤ n
  | 0 => by simp [uA]
  | n + 1 => by
    have := uA_len bls b i x n
    rw [uA, List.length_append]
    cases x.args[n]? with
    | none => simp; omega
    | some o => simp only; split <;> simp <;> omega
theorem uL_len (bls : List (List InD)) : ∀ L : List ItD, ((uL bls L).length : Int) ≤ (L.map fun y => (y.d.args.length : Int)).sum
  | [] => by simp [uL]
  | y :: r => by
    have h1 := uL_len bls r
    have h2 := uA_len bls y.b y.i y.d y.d.args.length
    have h3 : (uY bls y).length ≤ y.d.args.length := h2
    unfold uL at h1 ⊢
    rw [List.flatMap_cons, List.length_append, List.map_cons, List.sum_cons]
    omega
theorem args_sum1 : ∀ ys : List ItD, (ys.map fun y => (y.d.args.length : Int)).sum ≤ insN (ys.map (·.d))
  | [] => by simp [insN]
  | y :: r => by
    have := args_sum1 r
    unfold insN inN at *
    simp only [List.map_cons, List.sum_cons, List.map_map] at *
    omega
theorem args_sum : ∀ Y : List (List ItD), (Y.flatten.map fun y => (y.d.args.length : Int)).sum ≤ blsN (Y.map (·.map (·.d)))
  | [] => by simp [blsN]
  | ys :: R => by
    have h1 := args_sum R
    have h2 := args_sum1 ys
    unfold blsN blN at *
    simp only [List.flatten_cons, List.map_append, List.sum_append, List.map_cons, List.sum_cons] at *
    omega
theorem in_mem1 {y : ItD} : ∀ {ys : List ItD}, y ∈ ys → inN y.d ≤ insN (ys.map (·.d))
  | x :: r, h => by
    have h0 := insN_nn (r.map (·.d))
    have h1 := inN_nn x.d
    have e : insN ((x :: r).map (·.d)) = inN x.d + insN (r.map (·.d)) := by simp [insN]
    rcases List.mem_cons.1 h with rfl | h
    · omega
    · have := in_mem1 h
      omega
theorem in_mem {y : ItD} {Y : List (List ItD)} (h : y ∈ Y.flatten) : inN y.d ≤ blsN (Y.map (·.map (·.d))) := by
  induction Y with
  | nil => simp at h
  | cons ys R ih =>
    have h0 := blsN_nn (R.map (·.map (·.d)))
    have h1 := insN_nn (ys.map (·.d))
    have e : blsN ((ys :: R).map (·.map (·.d))) = blN (ys.map (·.d)) + blsN (R.map (·.map (·.d))) := by simp [blsN]
    have e2 : blN (ys.map (·.d)) = (ys.map (·.d)).length + insN (ys.map (·.d)) := rfl
    rcases List.mem_append.1 (by simpa using h : y ∈ ys ++ R.flatten) with h | h
    · have := in_mem1 h
      omega
    · have := ih h
      omega
theorem ItBls.up {n0 n1 : Nat} {w : World} {v : Value} {Y : List (List ItD)} (h : ItBls n0 w v Y) (hn : n0 ≤ n1) : ItBls n1 w v Y := by
  obtain ⟨b, o, s, c⟩ := h.ex
  refine ⟨⟨b, o, s, fun k hk => ?_⟩, h.ix⟩
  obtain ⟨h1, vi, h2, ⟨b2, o2, s2, c2⟩⟩ := c k hk
  exact ⟨by omega, vi, h2, ⟨b2, o2, s2, fun i hi => ⟨by have := (c2 i hi).1; omega, (c2 i hi).2⟩⟩⟩
set_option maxRecDepth 100000 in
set_option maxHeartbeats 8000000 in
theorem liveI (d : FnD) (vp vb : Value) (t : Int) (w : World) {lo : Nat} (h : FnAt lo w d vp vb) (hn : fnN d ≤ 1048576) :
    Calls Try.prog 21 #[fnV d vp vb, .int .i64 t] w fun e w' => ∃ v : Value, e = .returned v ∧ OwnI w' w.heap.size v (livL d t) ∧ Below w.heap.size w w' := by
  have CG : Kp (∀ W, Below w.heap.size w W → CallsIn Fence.wide 11 Try.prog 29 #[fnV d vp vb] W _) := ⟨fun W hW => callsIn_wide.2 (graphI d vp vb W (h.keep hW) hn)⟩
  have hh := h
  obtain ⟨Y, hY, hYd, hYi⟩ := itBls_of h.b
  unfold fnN at hn
  have hYn : ((uL d.blocks Y.flatten).length : Int) ≤ 1048576 := by
    have h1 := uL_len d.blocks Y.flatten
    have h2 := args_sum Y
    rw [hYd] at h2
    omega
  have hDn : d.params.length + Y.flatten.length ≤ 2097152 := by
    have h1 := blPl_len 0 d.blocks
    rw [blPl_Y hYd hY.ix, List.length_map] at h1
    omega
  have hLL : Kp (∀ y ∈ Y.flatten, y.d.args.length ≤ 1048576 ∧ y.d.bl.length ≤ 1048576 ∧ y.b < d.blocks.length) := ⟨fun y hy => by
    have h1 := in_mem hy
    rw [hYd] at h1
    unfold inN at h1
    exact ⟨by omega, by omega, (mem_Y hYd hY.ix hy).1⟩⟩
  obtain ⟨name, link, params, res, blocks⟩ := d
  obtain ⟨-, hp, hb⟩ := h
  dsimp only [fnV] at *
  have nn := blsN_nn blocks
  have n2 : (blocks.length : Int) ≤ 1048576 := by omega
  have n3 : blsN blocks ≤ 1048576 := by omega
  obtain ⟨a1, k1, rfl⟩ := hp.shape
  obtain ⟨a2, k2, rfl⟩ := hb.shape
  clear hp hb
  have CI : Kp (∀ w, CallsIn Fence.wide 11 Try.prog 43 #[.int .i64 t, .int .i64 blocks.length] w _) := ⟨fun w => callsIn_wide.2 (isIx t blocks.length w)⟩
  obtain ⟨W0, hW0⟩ : ∃ W0, Kp (W0 = w.alloc (Go.Obj.cells #[.string name, .int .i64 link, .slice a1 params.length k1, .int .i64 res, .slice a2 blocks.length k2] 30)) := ⟨_, ⟨rfl⟩⟩
  have hB0 : Below w.heap.size w W0 := by rw [hW0.out]; exact bel_alloc _ _
  have hx0 : W0.heap[w.heap.size]? = some (Go.Obj.cells #[.string name, .int .i64 link, .slice a1 params.length k1, .int .i64 res, .slice a2 blocks.length k2] 30 (0, 0)) := by rw [hW0.out]; exact new_cells _ _
  have x0 := at_cells hx0 (j := 0) rfl
  have x1 := at_cells hx0 (j := 1) rfl
  have x2 := at_cells hx0 (j := 2) rfl
  have x3 := at_cells hx0 (j := 3) rfl
  have x4 := at_cells hx0 (j := 4) rfl
  replace hx0 := Kp.mk hx0
  replace hYd := Kp.mk hYd
  replace hYi := Kp.mk hYi
  replace hh := Kp.mk hh
  replace hY := Kp.mk hY
  refine (callsIn_wide (n := 12)).1 ?_
  refine callsIn_of_wp_marks Try.func21 rfl trivial ?_ rfl
  simp only [Try.ntmps21, List.size_toArray, List.length_cons, List.length_nil, Nat.reduceAdd, Nat.reduceSub, Array.replicate_succ, Array.replicate_zero, List.push_toArray, List.append_toArray, List.nil_append, List.cons_append]
  by_cases h09 : 0 ≤ t ∧ t < blocks.length
  · obtain ⟨root, rfl⟩ : ∃ r : Nat, t = r := ⟨t.toNat, by omega⟩
    have hb0 : (decide (0 ≤ (root : Int)) && decide ((root : Int) < (blocks.length : Int))) = true := by simp; omega
    rw [hb0] at CI
    have hroot : root < blocks.length := by omega
    obtain ⟨nb, hnb⟩ : ∃ nb, Kp (blocks.length = nb) := ⟨_, ⟨rfl⟩⟩
    have CD : Kp (∀ W vN vP lo, Rws lo W vN blocks.length (fun i => nextL blocks i) → Rws lo W vP blocks.length (prevs blocks blocks.length) → CallsIn Fence.wide 11 Try.prog 30 #[.agg #[vN, vP], .int .i64 root] W fun e w' => ∃ (v : Value) (cm : Int → Bool) (hs : Int → Int → Bool), e = .returned v ∧ Below W.heap.size W w' ∧
        Kp ((∃ a1 c1 a2 c2 a3 c3 a4 c4 a5 c5 a6 c6 m1 m2 m3 m4 m5 m6, v = .agg #[.slice a1 m1 c1, .slice a2 m2 c2, .slice a3 m3 c3, .slice a4 m4 c4, .slice a5 m5 c5, .slice a6 m6 c6] ∧
        (∀ W2 y, Below w'.heap.size w' W2 → Calls Try.prog 46 #[.agg #[.slice a1 m1 c1, .slice a2 m2 c2, .slice a3 m3 c3], .int .i64 y] W2 fun e w3 => e = .returned (.bool (cm y)) ∧ Below W2.heap.size W2 w3) ∧
        (∀ W2 x y, Below w'.heap.size w' W2 → Calls Try.prog 31 #[.agg #[.slice a1 m1 c1, .slice a2 m2 c2, .slice a3 m3 c3, .slice a4 m4 c4, .slice a5 m5 c5, .slice a6 m6 c6], .int .i64 x, .int .i64 y] W2 fun e w3 => e = .returned (.bool (hs x y)) ∧ Below W2.heap.size W2 w3)) ∧
        (∀ t, cm t = true ↔ Way (EB (nextL blocks)) (fun _ => True) (root : Int) t) ∧ ∀ a b, hs a b = true ↔ DomB (nextL blocks) root a b)) := ⟨fun W vN vP lo hN hP => by
      refine callsIn_wide.2 ?_
      have hpo := prevs_okL blocks n3
      have hnx : ∀ i : Nat, i < blocks.length → (nextL blocks i).length ≤ 1048576 ∧ ∀ y ∈ nextL blocks i, 0 ≤ y ∧ y < blocks.length := fun i hi => ⟨by have := @nextL_len blocks i; omega, fun y hy => nextL_bd hy⟩
      refine (dominanceI (nextL blocks) blocks.length lo (prevs blocks blocks.length) W vN vP hN hP root hroot (by omega) hnx hpo).mono ?_
      rintro e w' ⟨prs, ab, st, sz, v, he, hd, hb, hA, hDv, hnear, hS, htop⟩
      obtain ⟨b1, b2, b3, b4, b5, b6, c1, c2, c3, c4, c5, c6, rfl, -, -, h3, -⟩ := hd.ex
      refine ⟨_, isC (numL (prs.map (·.1))) blocks.length, holdB (numL (prs.map (·.1))) (fun i => (st i : Int)) (fun i => (sz i : Int)) blocks.length, he, hb, ⟨⟨_, _, _, _, _, _, _, _, _, _, _, _, _, _, _, _, _, _, rfl, fun W2 y hW2 => ?_, fun W2 x y hW2 => ?_⟩, come_iff hA hDv, hold_iffR hA hDv hnear hS⟩⟩
      · exact comesI _ _ _ _ _ _ b3 blocks.length c3 _ y W2 (h3.keep hW2) (by omega)
      · exact holdsI _ blocks.length prs.length _ _ _ _ _ _ _ x y W2 (hd.keep hW2) (by omega) (by have := hA.len; omega) (fun k _ => (hA.num k).2.2) (fun k hk => ⟨by omega, by have := htop k hk; have := hA.len; omega⟩)⟩
    have CH : Kp (∀ W, Below w.heap.size w W → CallsIn Fence.wide 11 Try.prog 44 #[.agg #[.string name, .int .i64 link, .slice a1 params.length k1, .int .i64 res, .slice a2 blocks.length k2]] W _) := ⟨fun W hW => callsIn_wide.2 (homesI name link res _ _ params.length ⟨_, _, rfl⟩ ⟨_, _, _, rfl⟩ Y W ((hY.out.kq (Kq.below (S := fun k => k < w.heap.size) hW (fun _ h => h)) (fun _ h => h)).up hW.size) (by omega) (by simpa using hDn))⟩
    gi_upto_region 1 with fail
    rw [← hW0.out]
    gi_wp2
    refine ⟨trivial, ?_⟩
    refine (CI.out _).mono ?_
    rintro e w1 ⟨rfl, rfl⟩
    gi_wp2
    refine ⟨trivial, ?_⟩
    refine (CG.out _ hB0).mono ?_
    rintro e W1 ⟨vN, vP, rfl, hN, hP, hB01⟩
    have hB1 := bel_trans hB0 hB01
    obtain ⟨bN, oN, ⟨⟨aN, cN, rfl, l1, l2⟩, l3⟩, lr, lc⟩ := hN.ex
    obtain ⟨_, _, ⟨⟨aP, cP, rfl, -, -⟩, -⟩, -, -⟩ := hP.ex
    have bb := bel_alloc W1 (Go.Obj.cells #[.slice aN blocks.length cN, .slice aP blocks.length cP] 53)
    have z := new_cells W1 (Go.Obj.cells #[.slice aN blocks.length cN, .slice aP blocks.length cP] 53)
    obtain ⟨V, hV⟩ : ∃ V, Kp (V = W1.alloc (Go.Obj.cells #[.slice aN blocks.length cN, .slice aP blocks.length cP] 53)) := ⟨_, ⟨rfl⟩⟩
    clear CG x0 x1 x2 x3 x4
    gi_upto_region 4 with fail
    rw [← hV.out] at bb z ⊢
    have CD1 := Kp.mk (CD.out V _ _ _ (hN.keep bb) (hP.keep bb))
    have z0 : V.cell? ⟨W1.heap.size, 0, none⟩ = some (.slice aN blocks.length cN) := at_cells z rfl
    have z1 : V.cell? ⟨W1.heap.size, 1, none⟩ = some (.slice aP blocks.length cP) := at_cells z rfl
    gi_wp2
    refine ⟨trivial, ?_⟩
    refine CD1.out.mono ?_
    rintro e W2 ⟨v, cm, hs, rfl, hB2, ⟨⟨s1, c1, s2, c2, s3, c3, s4, c4, s5, c5, s6, c6, m1, m2, m3, m4, m5, m6, rfl, HC, HH⟩, hcm, hhs⟩⟩
    clear CD CD1 z0 z1
    have bu := bel_alloc W2 (Go.Obj.cells #[.slice s1 m1 c1, .slice s2 m2 c2, .slice s3 m3 c3, .slice s4 m4 c4, .slice s5 m5 c5, .slice s6 m6 c6] 58)
    have zd := new_cells W2 (Go.Obj.cells #[.slice s1 m1 c1, .slice s2 m2 c2, .slice s3 m3 c3, .slice s4 m4 c4, .slice s5 m5 c5, .slice s6 m6 c6] 58)
    obtain ⟨U, hU⟩ : ∃ U, Kp (U = W2.alloc (Go.Obj.cells #[.slice s1 m1 c1, .slice s2 m2 c2, .slice s3 m3 c3, .slice s4 m4 c4, .slice s5 m5 c5, .slice s6 m6 c6] 58)) := ⟨_, ⟨rfl⟩⟩
    replace HC := Kp.mk HC
    replace HH := Kp.mk HH
    replace hcm := Kp.mk hcm
    replace hhs := Kp.mk hhs
    gi_upto_region 5 with fail
    rw [← hU.out] at bu zd ⊢
    have hVU := bel_trans hB2 bu
    have h1U := bel_trans bb hVU
    have hwU := bel_trans hB1 h1U
    have h0U := bel_trans hB01 h1U
    have f0 := keep_cells hx0.out h0U
    have x0 := at_cells f0 (j := 0) rfl
    have x1 := at_cells f0 (j := 1) rfl
    have x2 := at_cells f0 (j := 2) rfl
    have x3 := at_cells f0 (j := 3) rfl
    have x4 := at_cells f0 (j := 4) rfl
    replace f0 := Kp.mk f0
    replace zd := Kp.mk zd
    replace z := Kp.mk z
    gi_wp2
    refine ⟨trivial, ?_⟩
    refine (CH.out _ hwU).mono ?_
    rintro e W3 ⟨vH, rfl, hH, hB3⟩
    have hHs : ∃ aH cH, vH = .slice aH (hmL params.length Y.flatten).length cH := by
      rcases hH.r.2 with ⟨rfl, h0⟩ | ⟨g, cap, cur, rfl, -⟩
      · exact ⟨none, 0, by rw [h0]⟩
      · exact ⟨_, _, rfl⟩
    obtain ⟨aH, cH, rfl⟩ := hHs
    clear CH x0 x1 x2 x3 x4
    have bq := bel_alloc W3 (Go.Obj.cells #[.slice aH (hmL params.length Y.flatten).length cH] 76)
    have zq := new_cells W3 (Go.Obj.cells #[.slice aH (hmL params.length Y.flatten).length cH] 76)
    obtain ⟨Q, hQ⟩ : ∃ Q, Kp (Q = W3.alloc (Go.Obj.cells #[.slice aH (hmL params.length Y.flatten).length cH] 76)) := ⟨_, ⟨rfl⟩⟩
    gi_upto_region 6 with fail
    rw [← hQ.out] at bq zq ⊢
    have hUQ := bel_trans hB3 bq
    have hwQ := bel_trans hwU hUQ
    have hS0 := SetI.made Q
    have bm := bel_alloc Q (Go.Obj.map #[] 0)
    have bm2 := bel_alloc (Q.alloc (Go.Obj.map #[] 0)) (Go.Obj.cells #[.map (some Q.heap.size)] 61)
    have zm := new_cells (Q.alloc (Go.Obj.map #[] 0)) (Go.Obj.cells #[.map (some Q.heap.size)] 61)
    rw [World.size_alloc] at zm
    obtain ⟨R, hR⟩ : ∃ R, Kp (R = (Q.alloc (Go.Obj.map #[] 0)).alloc (Go.Obj.cells #[.map (some Q.heap.size)] 61)) := ⟨_, ⟨rfl⟩⟩
    have hmm := @run_makeMap Try.prog
    replace zq := Kp.mk zq
    replace zm := Kp.mk zm
    gi_upto_region 7 with fail
    rw [← hR.out]
    rw [← hR.out] at bm2 zm
    have hQR : Below Q.heap.size Q R := bel_trans bm bm2
    have hUR := bel_trans hUQ hQR
    have h1R := bel_trans h1U hUR
    have hwR := bel_trans hwQ hQR
    have zR : R.heap.size = Q.heap.size + 2 := by rw [hR.out]; simp
    have f0R := keep_cells f0.out hUR
    have zgR := keep_cells z.out (bel_trans hVU hUR)
    have x0 := at_cells f0R (j := 0) rfl
    have x1 := at_cells f0R (j := 1) rfl
    have x2 := at_cells f0R (j := 2) rfl
    have x3 := at_cells f0R (j := 3) rfl
    have x4 := at_cells f0R (j := 4) rfl
    have y0 := at_cells zgR (j := 0) rfl
    have y1 := at_cells zgR (j := 1) rfl
    have CU := Kp.mk ((callsIn_wide (n := 11)).2 (usesC (.slice aN blocks.length cN) (.slice aP blocks.length cP) name link res (.slice a1 params.length k1) (.slice a2 blocks.length k2) ⟨_, _, _, rfl⟩ ⟨_, _, _, rfl⟩ ⟨_, _, _, rfl⟩ ⟨_, _, _, rfl⟩ R))
    replace f0R := Kp.mk f0R
    replace zgR := Kp.mk zgR
    gi_wp2
    refine ⟨trivial, ?_⟩
    refine CU.out.mono ?_
    rintro e W7' ⟨rfl, rfl⟩
    obtain ⟨L7, hL7⟩ : ∃ W7, Kp (W7 = (R.alloc (Go.Obj.cells #[.slice aN blocks.length cN, .slice aP blocks.length cP] 53)).alloc (Go.Obj.cells #[.string name, .int .i64 link, .slice a1 params.length k1, .int .i64 res, .slice a2 blocks.length k2] 30)) := ⟨_, ⟨rfl⟩⟩
    have hRL : Below R.heap.size R L7 := by rw [hL7.out]; exact bel_trans (bel_alloc _ _) (bel_alloc _ _)
    have zL : L7.heap.size = R.heap.size + 2 := by rw [hL7.out]; simp
    have hgL : L7.heap[R.heap.size]? = some (Go.Obj.cells #[.slice aN blocks.length cN, .slice aP blocks.length cP] 53 (0, 0)) := by rw [hL7.out]; exact keep_cells (new_cells R _) (bel_alloc _ _)
    have hfL : L7.heap[R.heap.size + 1]? = some (Go.Obj.cells #[.string name, .int .i64 link, .slice a1 params.length k1, .int .i64 res, .slice a2 blocks.length k2] 30 (0, 0)) := by
      have := new_cells (R.alloc (Go.Obj.cells #[.slice aN blocks.length cN, .slice aP blocks.length cP] 53)) (Go.Obj.cells #[.string name, .int .i64 link, .slice a1 params.length k1, .int .i64 res, .slice a2 blocks.length k2] 30)
      rw [World.size_alloc] at this
      rw [hL7.out]; exact this
    have hQL := bel_trans hQR hRL
    have hwL := bel_trans hwQ hQL
    have sQw : w.heap.size ≤ Q.heap.size := hwQ.size
    obtain ⟨S, hSd⟩ : ∃ S : Nat → Prop, S = fun k => k < L7.heap.size ∧ k ≠ Q.heap.size := ⟨_, rfl⟩
    have hSi : ∀ k, S k ↔ k < L7.heap.size ∧ k ≠ Q.heap.size := fun k => by rw [hSd]
    clear hSd
    have KK : ∀ {lo : Nat} (X : World), Kq S L7 X → Keeps lo Q X := fun {lo} X hX => keeps_of (fun k hk => (hX.low k ((hSi k).2 ⟨by omega, by omega⟩)).trans (hQL.block k hk))
    have hNR := hP.keep (bel_trans h1U hUQ)
    have hseq := Kp.mk (uses_seq (12 - 1) S w.heap.size (R.heap.size + 1) R.heap.size L7 ⟨name, link, params, res, blocks⟩ (.slice a1 params.length k1) (.slice a2 blocks.length k2) (.slice aN blocks.length cN) (.slice aP blocks.length cP) Y (hY.out.kq (Kq.below (S := fun k => k < w.heap.size) hwL (fun _ h => h)) (fun _ h => h)) ⟨_, _, _, rfl⟩ ⟨_, _, _, rfl⟩ ⟨_, _, _, rfl⟩ ⟨_, _, _, rfl⟩
      (at_cells hfL rfl) (at_cells hfL rfl) (at_cells hfL rfl) (at_cells hfL rfl) (at_cells hfL rfl) (at_cells hgL rfl) (at_cells hgL rfl) (fun k hk => (hSi k).2 ⟨by omega, by omega⟩) ((hSi _).2 ⟨by omega, by omega⟩) ((hSi _).2 ⟨by omega, by omega⟩) (fun k hk => ((hSi k).1 hk).1)
      (fun X hX => (hh.out.keep hwQ).mono (Nat.zero_le _) (KK X hX)) (fun X hX => by
        obtain ⟨b, o, s, l, c⟩ := hNR.ex
        refine ⟨b, o, s, Nat.zero_le _, fun i hi => ?_⟩
        obtain ⟨u, h1, h2⟩ := c i hi
        exact ⟨u, KK X hX _ _ _ (Nat.zero_le _) h1, h2.mono (Nat.zero_le _) (KK X hX)⟩)
      (fun y hy X hX => ((hYi.out y hy).keep hwQ).mono (Nat.zero_le _) (KK X hX)) hLL.out (by simpa using (show blocks.length ≤ 1048576 by omega)) n3)
    have hcoll := Kp.mk (fun z => coll_iff (d := ⟨name, link, params, res, blocks⟩) hYd.out hY.out.ix (root := root) hroot hcm.out hhs.out (z := z))
    obtain ⟨UL, hUL⟩ : ∃ UL, UL = uL blocks Y.flatten := ⟨_, rfl⟩
    obtain ⟨H, hHd⟩ : ∃ H, H = hmL params.length Y.flatten := ⟨_, rfl⟩
    dsimp only at hseq hcoll
    have hHn : H.length ≤ 3145728 := by
      have := defL_bd params.length Y.flatten
      rw [hHd, hmL_len]
      omega
    rw [← hUL] at hseq hcoll hYn
    rw [← hHd] at hcoll hH zq hQ ⊢
    replace hHd := Kp.mk hHd
    replace hUL := Kp.mk hUL
    have zR1 : R.heap.size ≤ Q.heap.size + 2 := by omega
    have zR2 : Q.heap.size + 2 ≤ R.heap.size := by omega
    have zL1 : L7.heap.size ≤ R.heap.size + 2 := by omega
    have zL2 : R.heap.size + 2 ≤ L7.heap.size := by omega
    clear zR zL
    simp only [World.size_alloc]
    rw [← hL7.out]
    have hmL2 : L7.heap[Q.heap.size + 1]? = some (Go.Obj.cells #[.map (some Q.heap.size)] 61 (0, 0)) := keep_cells zm.out hRL
    have hSL : SetI L7 Q.heap.size 0 [] := hS0.kept' ((hRL.block _ (by omega)).trans (by rw [hR.out]; exact (bel_alloc (Q.alloc (Go.Obj.map #[] 0)) _).block _ (by simp)))
    have hcQ : Kp (∀ X, Below Q.heap.size Q X → (∀ j, (hj : j < H.length) → ∀ (hp : ∃ gb, aH = some ⟨gb, 0, none⟩), True) ∧ True) := ⟨fun _ _ => ⟨fun _ _ _ => trivial, trivial⟩⟩
    clear hcQ hwR hUR h1R h0U hVU h1U x0 x1 x2 x3 x4 y0 y1 CU bm bm2 hS0
    gi_wp2
    refine wpIn_rangeL rfl (by decide) (gf := 64) (lb := #[.pointer (some ⟨R.heap.size + 1, 0, none⟩), .pointer (some ⟨R.heap.size, 0, none⟩)]) rfl trivial (enters_of Try.func64 (by kernel_rfl) rfl)
      hseq.out (Below.refl _ _) (fun k hk => ((hSi k).1 hk).1) (fun _ => rfl)
      (fun k X => ∃ acc, SetI X Q.heap.size k acc ∧ (∀ z : Int, acc.contains z = true ↔ ∃ x, x ∈ UL.take k ∧ liC H.length cm hs H x = true ∧ x.1 = z) ∧ Below Q.heap.size Q X ∧ X.heap[Q.heap.size + 1]? = some (Go.Obj.cells #[.map (some Q.heap.size)] 61 (0, 0)))
      (fun c k X => False) ?hI ?hIx ?h0
      (fun x a' X => ∃ B1, L7.heap.size ≤ B1 ∧ X.heap[B1]? = some (Go.Obj.cells #[.int .i64 x.2.1, .int .i64 x.2.2] 82 (0, 0)) ∧ ∃ u28 u29,
        a' = { tmps := #[.agg #[.string name, .int .i64 link, .slice a1 params.length k1, .int .i64 res, .slice a2 blocks.length k2], .int .i64 root, .pointer (some ⟨w.heap.size, 0, none⟩), undef, .slice none 0 0, .pointer (some ⟨W1.heap.size, 0, none⟩), .pointer (some ⟨W2.heap.size, 0, none⟩), .pointer (some ⟨W3.heap.size, 0, none⟩), .pointer (some ⟨Q.heap.size + 1, 0, none⟩), .int .i64 x.1, .pointer (some ⟨B1, 0, none⟩), .int .i64 root, .pointer (some ⟨w.heap.size, 4, none⟩), .slice a2 blocks.length k2, .int .i64 blocks.length, .bool true, .bool false, .agg #[.string name, .int .i64 link, .slice a1 params.length k1, .int .i64 res, .slice a2 blocks.length k2], .agg #[.slice aN blocks.length cN, .slice aP blocks.length cP], .agg #[.slice aN blocks.length cN, .slice aP blocks.length cP], .int .i64 root, .agg #[.slice s1 m1 c1, .slice s2 m2 c2, .slice s3 m3 c3, .slice s4 m4 c4, .slice s5 m5 c5, .slice s6 m6 c6], .agg #[.string name, .int .i64 link, .slice a1 params.length k1, .int .i64 res, .slice a2 blocks.length k2], .slice aH H.length cH, .map (some Q.heap.size), .agg #[.slice aN blocks.length cN, .slice aP blocks.length cP], .agg #[.string name, .int .i64 link, .slice a1 params.length k1, .int .i64 res, .slice a2 blocks.length k2], .func (.func 64) #[] #[.pointer (some ⟨R.heap.size + 1, 0, none⟩), .pointer (some ⟨R.heap.size, 0, none⟩)], u28, u29, undef, undef, undef, undef, undef, undef, undef, undef, undef, undef, undef, undef, undef, undef, undef, undef, undef, undef, undef, undef, undef, undef, undef, undef, undef, undef], defers := [] }) ?hAx ?assign ?body ?done ?stop
    case hI =>
      rintro k A C ⟨acc, q1, q2, q3, q4⟩ hA hB
      exact ⟨acc, q1.kept' (hB.block _ (by omega)), q2, q3.trans (hB.mono (by omega)), (hB.block _ (by omega)).trans q4⟩
    case hIx => rintro c k A C h; exact h.elim
    case h0 => exact ⟨[], hSL, fun z => by simp, hQL, hmL2⟩
    case hAx =>
      rintro x a' u A C row ⟨B1, b1, p1, p3⟩ hg hr
      refine ⟨B1, b1, (hg.block B1 (Array.getElem?_eq_some_iff.1 p1).1 (fun e => ?_)).trans p1, p3⟩
      obtain ⟨-, o, ho, hc⟩ := hr B1 e.symm
      rw [p1] at ho
      cases ho
      cases hc
    case assign =>
      intro lr k hk X K hi hX hK
      clear hi
      generalize UL[k] = y at *
      obtain ⟨yv, yb, yi⟩ := y
      simp only [usE, List.zip_toArray, List.zip_cons_cons, List.zip_nil_right, List.foldl_toArray', List.foldl_cons, List.foldl_nil, List.setIfInBounds_toArray, List.set_cons_succ, List.set_cons_zero, Array.zip, List.toList_toArray]
      gi_wp2
      exact hK _ _ (bel_alloc _ _) ⟨X.heap.size, hX, new_cells _ _, _, _, rfl⟩
    case body =>
      rintro lr k hk a' X hX ⟨acc, q1, q2, q3, q4⟩ ⟨B1, b1, p1, u28, u29, rfl⟩
      have hXs : ∀ k, S k → k < X.heap.size := fun k hk => by have := ((hSi k).1 hk).1; omega
      have hQX : Q.heap.size ≤ X.heap.size := q3.size
      have hstep : ∀ z : Int, (∃ x, x ∈ UL.take (k + 1) ∧ liC H.length cm hs H x = true ∧ x.1 = z) ↔ (∃ x, x ∈ UL.take k ∧ liC H.length cm hs H x = true ∧ x.1 = z) ∨ (liC H.length cm hs H UL[k] = true ∧ UL[k].1 = z) := fun z => by
        rw [List.take_succ_eq_append_getElem hk]
        constructor
        · rintro ⟨x, hx, h1, h2⟩
          rcases List.mem_append.1 hx with hx | hx
          · exact .inl ⟨x, hx, h1, h2⟩
          · obtain rfl := List.mem_singleton.1 hx
            exact .inr ⟨h1, h2⟩
        · rintro (⟨x, hx, h1, h2⟩ | ⟨h1, h2⟩)
          · exact ⟨x, List.mem_append.2 (.inl hx), h1, h2⟩
          · exact ⟨_, List.mem_append.2 (.inr (List.mem_singleton.2 rfl)), h1, h2⟩
      have hkn : k < 1048576 := by omega
      generalize UL[k] = x at *
      obtain ⟨xv, xb, xi⟩ := x
      dsimp only at p1 hstep
      have hskip : Kp (∀ W', Below X.heap.size X W' → liC H.length cm hs H (xv, xb, xi) = false → Kd S L7.heap.size X W' ∧ ∃ acc, SetI W' Q.heap.size (k + 1) acc ∧ (∀ z : Int, acc.contains z = true ↔ ∃ x, x ∈ UL.take (k + 1) ∧ liC H.length cm hs H x = true ∧ x.1 = z) ∧ Below Q.heap.size Q W' ∧ W'.heap[Q.heap.size + 1]? = some (Go.Obj.cells #[.map (some Q.heap.size)] 61 (0, 0))) := ⟨fun W' hW hc =>
        ⟨Kd.of_below hW hXs, acc, (q1.kept' (hW.block _ q1.lt)).mono (Nat.le_succ k), fun z => by rw [q2 z, hstep z, hc]; simp, q3.trans (hW.mono (by omega)), keep_cells q4 hW⟩⟩
      have hput : Kp (∀ W' W2, Below X.heap.size X W' → liC H.length cm hs H (xv, xb, xi) = true → W'.grownBy W2 (some Q.heap.size) → SetI W2 Q.heap.size (k + 1) (addL acc xv) → Kd S L7.heap.size X W2 ∧ ∃ acc, SetI W2 Q.heap.size (k + 1) acc ∧ (∀ z : Int, acc.contains z = true ↔ ∃ x, x ∈ UL.take (k + 1) ∧ liC H.length cm hs H x = true ∧ x.1 = z) ∧ Below Q.heap.size Q W2 ∧ W2.heap[Q.heap.size + 1]? = some (Go.Obj.cells #[.map (some Q.heap.size)] 61 (0, 0))) := ⟨fun W' W2 hW hc hg hs2 =>
        ⟨(Kd.of_below hW hXs).grown hg (fun h => ((hSi _).1 h).2 rfl) (by omega) (fun k hk => by have := hXs k hk; have := hW.size; omega), addL acc xv, hs2, fun z => by
          rw [addL_at, Bool.or_eq_true, q2 z, hstep z, beq_iff_eq, hc]
          simp only [true_and]
          exact or_congr Iff.rfl ⟨fun h => h.symm, fun h => h.symm⟩, (q3.trans (hW.mono (by omega))).grown hg (by have := hW.size; have := q3.size; omega) (fun j hj => by cases hj; exact Nat.le_refl _),
          (hg.block _ (by have := hW.size; omega) (by simp)).trans (keep_cells q4 hW)⟩⟩
      have HD : Kp (∀ W', Below X.heap.size X W' → W'.cell? ⟨W3.heap.size, 0, none⟩ = some (.slice aH H.length cH) ∧ W'.cell? ⟨B1, 0, none⟩ = some (.int .i64 xb) ∧ W'.cell? ⟨B1, 1, none⟩ = some (.int .i64 xi) ∧ (W'.cell? ⟨W2.heap.size, 0, none⟩ = some (.slice s1 m1 c1) ∧ W'.cell? ⟨W2.heap.size, 1, none⟩ = some (.slice s2 m2 c2) ∧ W'.cell? ⟨W2.heap.size, 2, none⟩ = some (.slice s3 m3 c3)) ∧ W'.cell? ⟨W2.heap.size, 3, none⟩ = some (.slice s4 m4 c4) ∧ W'.cell? ⟨W2.heap.size, 4, none⟩ = some (.slice s5 m5 c5) ∧ W'.cell? ⟨W2.heap.size, 5, none⟩ = some (.slice s6 m6 c6)) := ⟨fun W' hW => by
        have hQW := q3.trans (hW.mono (by omega))
        have e1 := keep_cells zq.out hQW
        have e2 := keep_cells p1 hW
        have e3 := keep_cells (keep_cells zd.out hUQ) hQW
        exact ⟨at_cells e1 rfl, at_cells e2 rfl, at_cells e2 rfl, ⟨at_cells e3 rfl, at_cells e3 rfl, at_cells e3 rfl⟩, at_cells e3 rfl, at_cells e3 rfl, at_cells e3 rfl⟩⟩
      have HRow : Kp (∀ i (hi : i < H.length), ∃ g, aH = some ⟨g, 0, none⟩ ∧ ∀ W', Below X.heap.size X W' → W'.cell? ⟨g, i * 2, none⟩ = some (.int .i64 H[i].1) ∧ W'.cell? ⟨g, i * 2 + 1, none⟩ = some (.int .i64 H[i].2)) := ⟨fun i hi => by
        rcases hH.r.2 with ⟨e, h0⟩ | ⟨g, cap, cur, e, hb, hg, h1, h2, h3, h4⟩
        · omega
        · injection e with e1 e2 e3
          refine ⟨g, e1, fun W' hW => ?_⟩
          have hQW := q3.trans (hW.mono (by omega))
          have hg' := keep_cells (keep_cells hg bq) hQW
          have hA := plZ_at H i hi
          rw [← h4] at hA
          constructor
          · refine at_cells hg' ?_
            have := hA.1
            rw [List.getElem?_take] at this
            split at this
            · simpa using this
            · cases this
          · refine at_cells hg' ?_
            have := hA.2
            rw [List.getElem?_take] at this
            split at this
            · simpa using this
            · cases this⟩
      have CI2 : Kp (∀ w, Calls Try.prog 43 #[.int .i64 xv, .int .i64 H.length] w _) := ⟨fun w => isIx xv H.length w⟩
      have HC2 : Kp (∀ W2, Below X.heap.size X W2 → Calls Try.prog 46 #[.agg #[.slice s1 m1 c1, .slice s2 m2 c2, .slice s3 m3 c3], .int .i64 xb] W2 _) := ⟨fun W2 hW2 => HC.out W2 xb (bel_trans bu (bel_trans hUQ (q3.trans (hW2.mono (by omega)))))⟩
      have HH2 : Kp (∀ W2 (hm : Int × Int), Below X.heap.size X W2 → Calls Try.prog 47 #[.agg #[.slice s1 m1 c1, .slice s2 m2 c2, .slice s3 m3 c3, .slice s4 m4 c4, .slice s5 m5 c5, .slice s6 m6 c6], .agg #[.int .i64 hm.1, .int .i64 hm.2], .agg #[.int .i64 xb, .int .i64 xi]] W2 _) := ⟨fun W2 hm hW2 => aheadI hs _ _ _ _ _ _ _ _ _ _ _ _ _ _ _ _ _ _ hm (xb, xi) W2 (fun W' hW' => HH.out W' hm.1 xb (bel_trans (bel_trans bu (bel_trans hUQ (q3.trans (hW2.mono (by omega))))) hW'))⟩
      have hsx := bel_drew X
      replace q1 := Kp.mk q1
      replace q4 := Kp.mk q4
      replace p1 := Kp.mk p1
      clear hstep q2 HC HH hcoll hseq
      cases c1v : (decide (0 ≤ xv) && decide (xv < (H.length : Int))) with
      | false =>
        have hc : Kp (liC H.length cm hs H (xv, xb, xi) = false) := ⟨by unfold liC; rw [c1v]; rfl⟩
        rw [c1v] at CI2
        gi_upto_region 10 with fail
        refine wpIn_region_held (S := fun W' => W'.cell? ⟨W3.heap.size, 0, none⟩ = some (.slice aH H.length cH)) (by kernel_rfl) (by kernel_rfl) (by rintro ⟨_, _, h⟩; exact h) (HD.out _ hsx).1 (fun hHeld => ?_)
        refine tks 3 [0, 1, 2] hHeld ?_
        try simp only [tkP]
        refine rdy 3 fun K hK => ?_
        go_simp
        refine (CI2.out _).mono ?_
        rintro e w1 ⟨rfl, rfl⟩
        refine hK.out _ _ (HD.out _ hsx).1 (fun hHeld => ?_)
        clear hK K
        try simp only [tkP]
        refine tks 4 [4, 5, 6, 7] hHeld ?_
        try simp only [tkP]
        refine tks 4 [8, 9, 10, 11] hHeld ?_
        try simp only [tkP]
        refine tks 4 [12, 13, 14, 15] hHeld ?_
        try simp only [tkP]
        refine tks 4 [16, 17, 18, 19] hHeld ?_
        try simp only [tkP]
        refine tks 1 [20] hHeld ?_
        try simp only [tkP]
        refine wpAnyH_done (by kernel_rfl) ?_ _
        gi_wp2
        exact hskip.out _ hsx hc.out
      | true =>
        simp only [Bool.and_eq_true, decide_eq_true_eq] at c1v
        obtain ⟨i, rfl⟩ : ∃ i : Nat, xv = i := ⟨xv.toNat, by omega⟩
        have hi : i < H.length := by omega
        have c1w : (decide (0 ≤ (i : Int)) && decide ((i : Int) < (H.length : Int))) = true := by simp; omega
        have hc1 : liC H.length cm hs H ((i : Int), xb, xi) = (cm xb && !ahB hs H[i] (xb, xi)) := by
          unfold liC
          dsimp only
          rw [c1w, Bool.true_and, Int.toNat_natCast, List.getD_eq_getElem?_getD, List.getElem?_eq_getElem hi]
          rfl
        rw [c1w] at CI2
        have hi0 : (0 : Int) ≤ (i : Int) := by omega
        have hi1 : (i : Int) < (H.length : Int) := by omega
        replace hc1 := Kp.mk hc1
        clear c1v c1w
        cases c2v : cm xb with
        | false =>
          rw [c2v] at HC2
          have hc : Kp (liC H.length cm hs H ((i : Int), xb, xi) = false) := ⟨by rw [hc1.out, c2v]; rfl⟩
          have kB : Kp (∀ W', Below X.heap.size X W' → W'.cell? ⟨W3.heap.size, 0, none⟩ = some (.slice aH H.length cH) ∧ W'.cell? ⟨B1, 0, none⟩ = some (.int .i64 xb) ∧ W'.cell? ⟨W2.heap.size, 0, none⟩ = some (.slice s1 m1 c1) ∧ W'.cell? ⟨W2.heap.size, 1, none⟩ = some (.slice s2 m2 c2) ∧ W'.cell? ⟨W2.heap.size, 2, none⟩ = some (.slice s3 m3 c3)) := ⟨fun W' hW => ⟨(HD.out W' hW).1, (HD.out W' hW).2.1, (HD.out W' hW).2.2.2.1⟩⟩
          replace c2v := Kp.mk c2v
          replace hi1 := Kp.mk hi1
          gi_upto_region 10 with fail
          refine wpIn_region_held (S := fun W' => W'.cell? ⟨W3.heap.size, 0, none⟩ = some (.slice aH H.length cH) ∧ W'.cell? ⟨B1, 0, none⟩ = some (.int .i64 xb) ∧ W'.cell? ⟨W2.heap.size, 0, none⟩ = some (.slice s1 m1 c1) ∧ W'.cell? ⟨W2.heap.size, 1, none⟩ = some (.slice s2 m2 c2) ∧ W'.cell? ⟨W2.heap.size, 2, none⟩ = some (.slice s3 m3 c3)) (by kernel_rfl) (by kernel_rfl) (by rintro ⟨_, _, h⟩; exact h) (kB.out _ hsx) (fun hHeld => ?_)
          refine tks 3 [0, 1, 2] hHeld ?_
          try simp only [tkP]
          refine rdy 3 fun K hK => ?_
          go_simp
          refine (CI2.out _).mono ?_
          rintro e w1 ⟨rfl, rfl⟩
          refine hK.out _ _ (kB.out _ hsx) (fun hHeld => ?_)
          clear hK K
          try simp only [tkP]
          refine tks 4 [4, 5, 6, 7] hHeld ?_
          try simp only [tkP]
          refine tks 1 [8] hHeld ?_
          try simp only [tkP]
          refine rdy 9 fun K hK => ?_
          go_simp
          refine (HC2.out _ hsx).mono ?_
          rintro e w2 ⟨rfl, hb2⟩
          have hB2' := bel_trans hsx hb2
          refine hK.out _ _ (kB.out _ hB2') (fun hHeld => ?_)
          clear hK K
          try simp only [tkP]
          refine tks 4 [10, 11, 12, 13] hHeld ?_
          try simp only [tkP]
          refine tks 4 [14, 15, 16, 17] hHeld ?_
          try simp only [tkP]
          refine tks 3 [18, 19, 20] hHeld ?_
          try simp only [tkP]
          refine wpAnyH_done (by kernel_rfl) ?_ _
          gi_wp2
          exact hskip.out _ hB2' hc.out
        | true =>
          rw [c2v] at HC2
          obtain ⟨gH, rfl, hrow⟩ := HRow.out i hi
          have HH3 := Kp.mk (fun W2 hW2 => HH2.out W2 H[i] hW2)
          have hc1' := hc1.out
          obtain ⟨hm, hhm⟩ : ∃ hm, H[i] = hm := ⟨_, rfl⟩
          rw [hhm] at hrow HH3 hc1'
          obtain ⟨hb, ha⟩ := hm
          dsimp only at hrow HH3
          obtain ⟨r, hr⟩ : ∃ r, ahB hs (hb, ha) (xb, xi) = r := ⟨_, rfl⟩
          rw [hr] at HH3 hc1'
          rw [c2v, Bool.true_and] at hc1'
          have hc := Kp.mk hc1'
          have kC : Kp (∀ W', Below X.heap.size X W' → W'.cell? ⟨W3.heap.size, 0, none⟩ = some (.slice (some ⟨gH, 0, none⟩) H.length cH) ∧ W'.cell? ⟨B1, 0, none⟩ = some (.int .i64 xb) ∧ W'.cell? ⟨B1, 1, none⟩ = some (.int .i64 xi) ∧ (W'.cell? ⟨W2.heap.size, 0, none⟩ = some (.slice s1 m1 c1) ∧ W'.cell? ⟨W2.heap.size, 1, none⟩ = some (.slice s2 m2 c2) ∧ W'.cell? ⟨W2.heap.size, 2, none⟩ = some (.slice s3 m3 c3)) ∧ (W'.cell? ⟨W2.heap.size, 3, none⟩ = some (.slice s4 m4 c4) ∧ W'.cell? ⟨W2.heap.size, 4, none⟩ = some (.slice s5 m5 c5) ∧ W'.cell? ⟨W2.heap.size, 5, none⟩ = some (.slice s6 m6 c6)) ∧ W'.cell? ⟨gH, i * 2, none⟩ = some (.int .i64 hb) ∧ W'.cell? ⟨gH, i * 2 + 1, none⟩ = some (.int .i64 ha)) := ⟨fun W' hW => by
            obtain ⟨q1, q2, q3, ⟨q4, q5, q6⟩, q7, q8, q9⟩ := HD.out W' hW
            exact ⟨q1, q2, q3, ⟨q4, q5, q6⟩, ⟨q7, q8, q9⟩, (hrow W' hW).1, (hrow W' hW).2⟩⟩
          replace c2v := Kp.mk c2v
          replace hhm := Kp.mk hhm
          replace hr := Kp.mk hr
          clear hc1' hc1 HRow HH2 hrow
          gi_upto_region 10 with fail
          refine wpIn_region_held (S := fun W' => W'.cell? ⟨W3.heap.size, 0, none⟩ = some (.slice (some ⟨gH, 0, none⟩) H.length cH) ∧ W'.cell? ⟨B1, 0, none⟩ = some (.int .i64 xb) ∧ W'.cell? ⟨B1, 1, none⟩ = some (.int .i64 xi) ∧ (W'.cell? ⟨W2.heap.size, 0, none⟩ = some (.slice s1 m1 c1) ∧ W'.cell? ⟨W2.heap.size, 1, none⟩ = some (.slice s2 m2 c2) ∧ W'.cell? ⟨W2.heap.size, 2, none⟩ = some (.slice s3 m3 c3)) ∧ (W'.cell? ⟨W2.heap.size, 3, none⟩ = some (.slice s4 m4 c4) ∧ W'.cell? ⟨W2.heap.size, 4, none⟩ = some (.slice s5 m5 c5) ∧ W'.cell? ⟨W2.heap.size, 5, none⟩ = some (.slice s6 m6 c6)) ∧ W'.cell? ⟨gH, i * 2, none⟩ = some (.int .i64 hb) ∧ W'.cell? ⟨gH, i * 2 + 1, none⟩ = some (.int .i64 ha)) (by kernel_rfl) (by kernel_rfl) (by rintro ⟨_, _, h⟩; exact h) (kC.out _ hsx) (fun hHeld => ?_)
          refine tks 3 [0, 1, 2] hHeld ?_
          try simp only [tkP]
          refine rdy 3 fun K hK => ?_
          go_simp
          refine (CI2.out _).mono ?_
          rintro e w1 ⟨rfl, rfl⟩
          refine hK.out _ _ (kC.out _ hsx) (fun hHeld => ?_)
          clear hK K
          try simp only [tkP]
          refine tks 4 [4, 5, 6, 7] hHeld ?_
          try simp only [tkP]
          refine tks 1 [8] hHeld ?_
          try simp only [tkP]
          refine rdy 9 fun K hK => ?_
          go_simp
          refine (HC2.out _ hsx).mono ?_
          rintro e w2 ⟨rfl, hb2⟩
          have hB2' := bel_trans hsx hb2
          refine hK.out _ _ (kC.out _ hB2') (fun hHeld => ?_)
          clear hK K
          try simp only [tkP]
          refine tks 4 [10, 11, 12, 13] hHeld ?_
          try simp only [tkP]
          refine tks 4 [14, 15, 16, 17] hHeld ?_
          try simp only [tkP]
          refine rdy 18 fun K hK => ?_
          go_simp
          refine (HH3.out _ hB2').mono ?_
          rintro e w3 ⟨rfl, hb3⟩
          have hB3' := bel_trans hB2' hb3
          refine hK.out _ _ (kC.out _ hB3') (fun hHeld => ?_)
          clear hK K
          try simp only [tkP]
          refine tks 2 [19, 20] hHeld ?_
          try simp only [tkP]
          refine wpAnyH_done (by kernel_rfl) ?_ _
          cases r with
          | true =>
            gi_wp2
            exact hskip.out _ hB3' (by rw [hc.out]; rfl)
          | false =>
            have c9 : w3.cell? ⟨Q.heap.size + 1, 0, none⟩ = some (.map (some Q.heap.size)) := at_cells (keep_cells q4.out hB3') rfl
            have CA := Kp.mk (addI Q.heap.size k acc (i : Int) w3 (q1.out.kept' (hB3'.block _ q1.out.lt)) (by omega) (WalkArith.wf_i64 (by omega)))
            gi_wp2
            refine ⟨trivial, ?_⟩
            refine (callsIn_wide.2 CA.out).mono ?_
            rintro e w4 ⟨rfl, hg4, hS4⟩
            replace hS4 := Kp.mk hS4
            gi_wp2
            exact hput.out _ _ hB3' (by rw [hc.out]; rfl) hg4 hS4.out
    case done =>
      rintro D X hD ⟨acc, q1, q2, q3, q4⟩ hK
      rw [List.take_length] at q2
      have hDz := (Array.getElem?_eq_some_iff.1 hK).1
      have CR := Kp.mk ((callsIn_wide (n := 11)).2 (risingM Q.heap.size UL.length acc X q1 (by omega) (livL ⟨name, link, params, res, blocks⟩ root) (livL_rise _ _) (fun z => by rw [hcoll.out z, q2 z])))
      have c0 := at_cells q4 (j := 0) rfl
      replace q1 := Kp.mk q1
      replace q2 := Kp.mk q2
      replace q4 := Kp.mk q4
      gi_wp2
      refine ⟨trivial, ?_⟩
      refine CR.out.mono ?_
      rintro e W9 ⟨v, rfl, hO, hB9⟩
      have hK9 : W9.heap[D]? = some (.deferred (some [])) := (hB9.block D hDz).trans hK
      replace hO := Kp.mk hO
      gi_wp2
      refine ⟨by simp, .inl ⟨_, _, rfl, run_takeDeferred hK9, ?_⟩⟩
      have hbF : Below w.heap.size w W9 := (hwQ.trans (q3.mono (by omega))).trans (hB9.mono (by omega))
      refine ⟨_, results_tmp rfl _ _ _, _, rfl, ⟨own_base (row_kept' hO.out.r (fun g hg => World.putObj_heap_other (fun e => ?_))) (by omega)⟩, hbF.grown (grownBy_putObj' W9 D _) hbF.size (fun k hk => by cases hk; omega)⟩
      have := (hO.out.r.lt g hg).1
      omega
    case stop =>
      rintro D c k X _ _ h _
      exact h.elim
  · have hb0 : (decide (0 ≤ t) && decide (t < (blocks.length : Int))) = false := by
      rw [Bool.eq_false_iff]
      intro q
      simp only [Bool.and_eq_true, decide_eq_true_eq] at q
      exact h09 q
    rw [hb0] at CI
    have hnil : Kp (livL ⟨name, link, params, res, blocks⟩ t = []) := ⟨if_neg h09⟩
    rw [hnil.out]
    gi_upto_region 1 with fail
    rw [← hW0.out]
    gi_wp2
    refine ⟨trivial, ?_⟩
    refine (CI.out _).mono ?_
    rintro e w1 ⟨rfl, rfl⟩
    gi_wp2
    exact ⟨_, results_tmp rfl _ _ _, _, rfl, ⟨World.ownsRow_nil _ _ _ _⟩, hB0⟩
end Go.Proofs.Ytbfpfjkjeekbdaa
