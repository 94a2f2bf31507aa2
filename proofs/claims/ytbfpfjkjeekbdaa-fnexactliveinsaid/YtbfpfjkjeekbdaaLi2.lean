/- Where an argument counts as used: the program's answer. -/
import Derived.Test.YtbfpfjkjeekbdaaLi0
import Derived.Test.YtbfpfjkjeekbdaaIt1
import Derived.Test.YtbfpfjkjeekbdaaHo1
namespace Go.Proofs.Ytbfpfjkjeekbdaa
open Go.ChangeShapes Go.WideShapes Go.ChangeAt Go.RowKit
set_option linter.unusedVariables false
set_option linter.unusedSimpArgs false
theorem useAt_plain {bls : List (List InD)} {b i n : Nat} {d : InD} (h : d.op ≠ 20) : useAt bls b i d n = ((b : Int), (i : Int)) := if_neg h
theorem useAt_none {bls : List (List InD)} {b i n : Nat} {d : InD} (h : d.op = 20) (hn : d.bl.length ≤ n) : useAt bls b i d n = (-1, -1) := by
  unfold useAt
  rw [if_pos h, List.getElem?_eq_none hn]
theorem useAt_phi {bls : List (List InD)} {b i n : Nat} {d : InD} (h : d.op = 20) (hn : n < d.bl.length) : useAt bls b i d n = if (b : Int) ∈ nextL bls d.bl[n] then (d.bl[n], ((bls.getD d.bl[n].toNat []).length : Int)) else (-1, -1) := by
  unfold useAt
  rw [if_pos h, List.getElem?_eq_getElem hn]
theorem five_li {w W : World} {o1 o2 o3 o4 o5 : Obj} (h : W = ((((w.alloc o1).alloc o2).alloc o3).alloc o4).alloc o5) :
    W.heap.size = w.heap.size + 5 ∧ Below w.heap.size w W ∧ W.heap[w.heap.size]? = some o1 ∧ W.heap[w.heap.size + 1]? = some o2 ∧ W.heap[w.heap.size + 1 + 1]? = some o3 ∧ W.heap[w.heap.size + 1 + 1 + 1]? = some o4 ∧ W.heap[w.heap.size + 1 + 1 + 1 + 1]? = some o5 := by
  subst h
  have n1 := new_cells w o1
  have n2 := new_cells (w.alloc o1) o2
  have n3 := new_cells ((w.alloc o1).alloc o2) o3
  have n4 := new_cells (((w.alloc o1).alloc o2).alloc o3) o4
  have n5 := new_cells ((((w.alloc o1).alloc o2).alloc o3).alloc o4) o5
  simp only [World.size_alloc] at n2 n3 n4 n5
  have b2 := bel_alloc (w.alloc o1) o2
  have b3 := bel_alloc ((w.alloc o1).alloc o2) o3
  have b4 := bel_alloc (((w.alloc o1).alloc o2).alloc o3) o4
  have b5 := bel_alloc ((((w.alloc o1).alloc o2).alloc o3).alloc o4) o5
  exact ⟨by simp, bel_trans (bel_trans (bel_trans (bel_trans (bel_alloc _ _) b2) b3) b4) b5, keep_cells n1 (bel_trans (bel_trans (bel_trans b2 b3) b4) b5), keep_cells n2 (bel_trans (bel_trans b3 b4) b5), keep_cells n3 (bel_trans b4 b5), keep_cells n4 b5, n5⟩
theorem two_end {w W : World} {n b : Nat} {u0 u1 : Value} {T : TypeId} (x y : Value) (h : W.heap[b]? = some (Go.Obj.cells #[u0, u1] T (0, 0))) (hB : Below n w W) (hb : n ≤ b) :
    World.cell? ((W.setCell ⟨b, 0, none⟩ x).setCell ⟨b, 1, none⟩ y) ⟨b, 0, none⟩ = some x ∧ World.cell? ((W.setCell ⟨b, 0, none⟩ x).setCell ⟨b, 1, none⟩ y) ⟨b, 1, none⟩ = some y ∧ Below n w ((W.setCell ⟨b, 0, none⟩ x).setCell ⟨b, 1, none⟩ y) := by
  have z := set_cells (set_cells h 0 x) 1 y
  exact ⟨at_cells z rfl, at_cells z rfl, (hB.setCell hb _).setCell hb _⟩
set_option maxRecDepth 100000 in
set_option maxHeartbeats 4000000 in
theorem usedAtI (f : FnD) (vp vbl vN vP va vb vw : Value) (b i n : Nat) (d : InD) (w : World) {lo l2 l3 : Nat} (hf : FnAt lo w f vp vbl) (hg : Rws l2 w vP f.blocks.length (prevs f.blocks f.blocks.length)) (hvN : ∃ a n c, vN = .slice a n c) (hb : Ints l3 .i64 w vb d.bl) (hs : Sh va vb vw)
    (hbn : b < f.blocks.length) (hn : f.blocks.length ≤ 1048576) (hbl : blsN f.blocks ≤ 1048576) (hdl : d.bl.length ≤ 1048576) (hnn : n ≤ 1048576) :
    Calls Try.prog 66 #[.agg #[vN, vP], fnV f vp vbl, .agg #[.int .i64 b, .int .i64 i], inV d va vb vw, .int .i64 n] w fun e w' =>
      e = .returned (.agg #[.int .i64 (useAt f.blocks b i d n).1, .int .i64 (useAt f.blocks b i d n).2]) ∧ Below w.heap.size w w' := by
  obtain ⟨name, link, params, res, blocks⟩ := f
  obtain ⟨-, hp, hfb⟩ := hf
  dsimp only [fnV] at *
  obtain ⟨a1, k1, rfl⟩ := hp.shape
  obtain ⟨b2, o2, ⟨⟨a2, k2, rfl, m1, m2⟩, m3⟩, -, fc⟩ := hfb.ex
  obtain ⟨aN, nN, kN, rfl⟩ := hvN
  obtain ⟨bP, oP, ⟨⟨aP, kP, rfl, p1, p2⟩, p3⟩, -, pc⟩ := hg.ex
  obtain ⟨⟨va1, va2, va3, rfl⟩, -, ⟨vw1, vw2, vw3, rfl⟩⟩ := hs
  obtain ⟨bB, oB, ⟨⟨aB, kB, rfl, q1, q2⟩, q3⟩, -, bc⟩ := hb.ex
  obtain rfl := m2 (by omega)
  obtain rfl := p2 (by omega)
  have CB : Kp (∀ vs xs t w, Ints 0 .i64 w vs xs → xs.length ≤ 1048576 → xs.Pairwise (· < ·) → Calls Try.prog 83 #[vs, .int .i64 t] w _) := ⟨fun vs xs t w h1 h2 h3 => binS vs xs t w h1 h2 h3⟩
  obtain ⟨W5, hW5⟩ : ∃ W5, Kp (W5 = ((((w.alloc (Go.Obj.cells #[.slice aN nN kN, .slice (some ⟨bP, oP, none⟩) blocks.length kP] 53)).alloc (Go.Obj.cells #[.string name, .int .i64 link, .slice a1 params.length k1, .int .i64 res, .slice (some ⟨b2, o2, none⟩) blocks.length k2] 30)).alloc (Go.Obj.cells #[.int .i64 b, .int .i64 i] 82)).alloc
    (Go.Obj.cells #[.int .i64 d.op, .int .i64 d.ty, .int .i64 d.fl, .int .i64 d.pr, .int .i64 d.ca, .int .i64 d.sz, .slice va1 va2 va3, .slice aB d.bl.length kB, .slice vw1 vw2 vw3] 112)).alloc (Go.Obj.cells #[.int .i64 0, .int .i64 0] 82)) := ⟨_, ⟨rfl⟩⟩
  obtain ⟨hz5, hB5, g1, g2, g3, g4, g5⟩ := five_li hW5.out
  have hlo : Kp (∀ W', Below w.heap.size W5 W' → (∀ j v, At W5 w.heap.size j v → True) ∧ True) := ⟨fun _ _ => ⟨fun _ _ _ => trivial, trivial⟩⟩
  clear hlo
  by_cases hop : d.op = 20
  · have hq : (d.op != 20) = false := by simp [hop]
    replace hop := Kp.mk hop
    have x1 : At W5 w.heap.size 1 (.slice (some ⟨bP, oP, none⟩) blocks.length kP) := at_cells g1 rfl
    have x2 : At W5 (w.heap.size + 1) 4 (.slice (some ⟨b2, o2, none⟩) blocks.length k2) := at_cells g2 rfl
    have x3 : At W5 (w.heap.size + 1 + 1) 0 (.int .i64 b) := at_cells g3 rfl
    have x4 : At W5 (w.heap.size + 1 + 1 + 1) 0 (.int .i64 d.op) := at_cells g4 rfl
    have x5 : At W5 (w.heap.size + 1 + 1 + 1) 7 (.slice aB d.bl.length kB) := at_cells g4 rfl
    have x6 := rw_cells g5 0
    have x7 := rw_cells g5 1
    have x8 : At W5 (w.heap.size + 1 + 1 + 1 + 1) 0 (.int .i64 0) := at_cells g5 rfl
    have x9 : At W5 (w.heap.size + 1 + 1 + 1 + 1) 1 (.int .i64 0) := at_cells g5 rfl
    replace g5 := Kp.mk g5
    replace hz5 := Kp.mk hz5
    by_cases hnl : n < d.bl.length
    · rw [useAt_phi hop.out hnl]
      obtain ⟨u, pu1, pu2⟩ := pc b hbn
      obtain ⟨bu, ou, ⟨⟨au, ku, rfl, -, -⟩, -⟩, -, -⟩ := pu2.ex
      have pl := prevs_len blocks blocks.length b
      have pl2 := nxtN_le blocks blocks.length (Nat.le_refl _)
      have CB1 := Kp.mk (CB.out _ _ d.bl[n] W5 ((pu2.keep hB5).mono (Nat.zero_le _) (fun _ _ _ _ h => h)) (by omega) (prevs_rise blocks b blocks.length))
      have c0 := at_keep (bc n hnl) hB5
      obtain rfl := q2 (by omega)
      have hiff : d.bl[n] ∈ prevs blocks blocks.length b ↔ (b : Int) ∈ nextL blocks d.bl[n] := by
        rw [prevs_mem]
        constructor
        · rintro ⟨j, e, -, h⟩
          rw [e]; exact h
        · intro h
          obtain ⟨k, e, hk⟩ := nextL_from h
          exact ⟨k, e, hk, by rw [← e]; exact h⟩
      replace pu1 := at_keep pu1 hB5
      clear pc p1 p2
      by_cases hmem : (b : Int) ∈ nextL blocks d.bl[n]
      · obtain ⟨t, ht, ht2⟩ := nextL_from hmem
        rw [decide_eq_true (hiff.2 hmem)] at CB1
        rw [if_pos hmem]
        clear hiff hmem
        obtain ⟨vi, f1, f2⟩ := fc t ht2
        have hgd : blocks.getD t [] = blocks[t] := by rw [List.getD_eq_getElem?_getD, List.getElem?_eq_getElem ht2]; rfl
        rw [ht, Int.toNat_natCast, hgd]
        rw [ht] at c0 CB1
        clear ht hgd bc fc
        obtain ⟨bI, oI, ⟨⟨aI, kI, rfl, -, -⟩, -⟩, -, -⟩ := f2.ex
        replace f1 := at_keep f1 hB5
        generalize blocks[t].length = m at *
        clear f2 pu2
        go_enter Try.func66, Try.ntmps66
        go_upto_region 1 with fail
        rw [← hW5.out]
        go_wp2_with fail
        refine CB1.out.mono ?_
        rintro e w2 ⟨ix, rfl, rfl⟩
        go_wp2_with fail
        obtain ⟨z0, z1, zB⟩ := two_end (.int .i64 t) (.int .i64 m) g5.out hB5 (by omega)
        exact bodyPost_ret (v := .agg #[.int .i64 t, .int .i64 m]) (by simp [results, Try.results66, go_sem, z0, z1]) rfl ⟨rfl, zB⟩
      · rw [decide_eq_false (fun q => hmem (hiff.1 q))] at CB1
        rw [if_neg hmem]
        clear hiff hmem fc
        generalize d.bl[n] = t at *
        clear bc
        go_enter Try.func66, Try.ntmps66
        go_upto_region 1 with fail
        rw [← hW5.out]
        go_wp2_with fail
        refine CB1.out.mono ?_
        rintro e w2 ⟨ix, rfl, rfl⟩
        go_wp2_with fail
        obtain ⟨z0, z1, zB⟩ := two_end (.int .i64 (-1)) (.int .i64 (-1)) g5.out hB5 (by omega)
        exact bodyPost_ret (v := .agg #[.int .i64 (-1), .int .i64 (-1)]) (by simp [results, Try.results66, go_sem, z0, z1]) rfl ⟨rfl, zB⟩
    · rw [useAt_none hop.out (by omega)]
      clear pc bc fc
      go_enter Try.func66, Try.ntmps66
      go_upto_region 1 with fail
      rw [← hW5.out]
      go_wp2_with fail
      obtain ⟨z0, z1, zB⟩ := two_end (.int .i64 (-1)) (.int .i64 (-1)) g5.out hB5 (by omega)
      exact bodyPost_ret (v := .agg #[.int .i64 (-1), .int .i64 (-1)]) (by simp [results, Try.results66, go_sem, z0, z1]) rfl ⟨rfl, zB⟩
  · rw [useAt_plain hop]
    have hq : (d.op != 20) = true := by simp [hop]
    clear hop pc bc fc hW5 hz5 hB5 g1 g2 g3 g4 g5
    go_enter Try.func66, Try.ntmps66
    go_wp2_with fail
    exact bodyPost_ret (v := .agg #[.int .i64 b, .int .i64 i]) (by simp [results, Try.results66, go_sem]) rfl ⟨rfl, bel_trans (bel_trans (bel_trans (bel_trans (bel_alloc _ _) (bel_alloc _ _)) (bel_alloc _ _)) (bel_alloc _ _)) (bel_alloc _ _)⟩
end Go.Proofs.Ytbfpfjkjeekbdaa
namespace Go.Proofs.Ytbfpfjkjeekbdaa
open Go.ChangeShapes Go.WideShapes Go.ChangeAt Go.RowKit
set_option linter.unusedVariables false
set_option linter.unusedSimpArgs false
def ahB (hs : Int → Int → Bool) (h u : Int × Int) : Bool := if h.1 = u.1 then decide (h.2 < u.2) else hs h.1 u.1
set_option maxRecDepth 100000 in
set_option maxHeartbeats 4000000 in
theorem aheadI (hs : Int → Int → Bool) (s1 s2 s3 s4 s5 s6 : Option Addr) (m1 m2 m3 m4 m5 m6 c1 c2 c3 c4 c5 c6 : Nat) (h u : Int × Int) (w : World)
    (CH : ∀ W', Below w.heap.size w W' → Calls Try.prog 31 #[.agg #[.slice s1 m1 c1, .slice s2 m2 c2, .slice s3 m3 c3, .slice s4 m4 c4, .slice s5 m5 c5, .slice s6 m6 c6], .int .i64 h.1, .int .i64 u.1] W' fun e w' => e = .returned (.bool (hs h.1 u.1)) ∧ Below W'.heap.size W' w') :
    Calls Try.prog 47 #[.agg #[.slice s1 m1 c1, .slice s2 m2 c2, .slice s3 m3 c3, .slice s4 m4 c4, .slice s5 m5 c5, .slice s6 m6 c6], .agg #[.int .i64 h.1, .int .i64 h.2], .agg #[.int .i64 u.1, .int .i64 u.2]] w fun e w' => e = .returned (.bool (ahB hs h u)) ∧ Below w.heap.size w w' := by
  obtain ⟨hb, ha⟩ := h
  obtain ⟨ub, ua⟩ := u
  dsimp only at *
  obtain ⟨W3, hW3⟩ : ∃ W3, Kp (W3 = ((w.alloc (Go.Obj.cells #[.slice s1 m1 c1, .slice s2 m2 c2, .slice s3 m3 c3, .slice s4 m4 c4, .slice s5 m5 c5, .slice s6 m6 c6] 58)).alloc (Go.Obj.cells #[.int .i64 hb, .int .i64 ha] 82)).alloc (Go.Obj.cells #[.int .i64 ub, .int .i64 ua] 82)) := ⟨_, ⟨rfl⟩⟩
  have n1 := new_cells w (Go.Obj.cells #[.slice s1 m1 c1, .slice s2 m2 c2, .slice s3 m3 c3, .slice s4 m4 c4, .slice s5 m5 c5, .slice s6 m6 c6] 58)
  have n2 := new_cells (w.alloc (Go.Obj.cells #[.slice s1 m1 c1, .slice s2 m2 c2, .slice s3 m3 c3, .slice s4 m4 c4, .slice s5 m5 c5, .slice s6 m6 c6] 58)) (Go.Obj.cells #[.int .i64 hb, .int .i64 ha] 82)
  have n3 := new_cells ((w.alloc (Go.Obj.cells #[.slice s1 m1 c1, .slice s2 m2 c2, .slice s3 m3 c3, .slice s4 m4 c4, .slice s5 m5 c5, .slice s6 m6 c6] 58)).alloc (Go.Obj.cells #[.int .i64 hb, .int .i64 ha] 82)) (Go.Obj.cells #[.int .i64 ub, .int .i64 ua] 82)
  simp only [World.size_alloc] at n2 n3
  have b2 := bel_alloc (w.alloc (Go.Obj.cells #[.slice s1 m1 c1, .slice s2 m2 c2, .slice s3 m3 c3, .slice s4 m4 c4, .slice s5 m5 c5, .slice s6 m6 c6] 58)) (Go.Obj.cells #[.int .i64 hb, .int .i64 ha] 82)
  have b3 := bel_alloc ((w.alloc (Go.Obj.cells #[.slice s1 m1 c1, .slice s2 m2 c2, .slice s3 m3 c3, .slice s4 m4 c4, .slice s5 m5 c5, .slice s6 m6 c6] 58)).alloc (Go.Obj.cells #[.int .i64 hb, .int .i64 ha] 82)) (Go.Obj.cells #[.int .i64 ub, .int .i64 ua] 82)
  have hB3 := bel_trans (bel_trans (bel_alloc w (Go.Obj.cells #[.slice s1 m1 c1, .slice s2 m2 c2, .slice s3 m3 c3, .slice s4 m4 c4, .slice s5 m5 c5, .slice s6 m6 c6] 58)) b2) b3
  replace n1 := keep_cells n1 (bel_trans b2 b3)
  replace n2 := keep_cells n2 b3
  rw [← hW3.out] at n1 n2 n3 hB3
  have d0 := at_cells n1 (j := 0) rfl
  have d1 := at_cells n1 (j := 1) rfl
  have d2 := at_cells n1 (j := 2) rfl
  have d3 := at_cells n1 (j := 3) rfl
  have d4 := at_cells n1 (j := 4) rfl
  have d5 := at_cells n1 (j := 5) rfl
  have e0 := at_cells n2 (j := 0) rfl
  have e1 := at_cells n2 (j := 1) rfl
  have f0 := at_cells n3 (j := 0) rfl
  have f1 := at_cells n3 (j := 1) rfl
  have C := Kp.mk (CH W3 hB3)
  clear n1 n2 n3 b2 b3 CH
  unfold ahB
  dsimp only
  by_cases hq : hb = ub
  · rw [if_pos hq]
    have hq2 : (hb == ub) = true := by simp [hq]
    replace hq := Kp.mk hq
    go_enter Try.func47, Try.ntmps47
    go_upto_region 1 with fail
    rw [← hW3.out]
    go_wp2_with fail
    go_ret
    exact ⟨rfl, hB3⟩
  · rw [if_neg hq]
    have hq2 : (hb == ub) = false := by simp [hq]
    replace hq := Kp.mk hq
    generalize hs hb ub = r at *
    go_enter Try.func47, Try.ntmps47
    go_upto_region 1 with fail
    rw [← hW3.out]
    go_wp2_with fail
    refine C.out.mono ?_
    rintro e w2 ⟨rfl, hb2⟩
    go_wp2_with fail
    go_ret
    exact ⟨rfl, bel_trans hB3 hb2⟩
end Go.Proofs.Ytbfpfjkjeekbdaa
