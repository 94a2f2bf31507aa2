/- The text of an operand, of the specification and of the program. -/
import Derived.Test.YtikecpcgcccmoaaDoorFo1
namespace Go.Proofs.YtikecpcgcccmoaaDoor
open Go.ChangeShapes Go.WideShapes Go.ChangeAt Go.RowKit
open Go.Lib
set_option linter.unusedVariables false
set_option linter.unusedSimpArgs false
set_option maxRecDepth 100000 in
set_option maxHeartbeats 2000000 in
theorem fmtOS (gs : List GlD) (fs : List FnD) (vg vf : Value) (q : OpD) (w : World) {lo : Nat} (h : MoAt lo w gs fs vg vf) (hb : OpB q) (hn : moN gs fs ≤ 1048576) :
    Calls Tryd.prog 5 #[moV vg vf, .agg #[.int .i64 q.k, .int .i64 q.t, .int .i64 q.i, .int .u64 q.w]] w fun e w' => e = .returned (.string (txO gs q)) ∧ Below w.heap.size w w' := by
  unfold moN at hn
  have g0 := glsN_nn gs
  have f0 := fnsN_nn fs
  have n1 : (gs.length : Int) ≤ 1048576 := by omega
  have n2 : glsN gs ≤ 1048576 := by omega
  obtain ⟨k, t, i, x⟩ := q
  obtain ⟨i0, i1, w0, w1⟩ := hb
  obtain ⟨a2, k2, rfl⟩ := h.f.shape
  obtain ⟨b, o, ⟨⟨a, cap, rfl, h1, h2⟩, h3⟩, -, hc⟩ := h.g.ex
  have HG := Kp.mk (glsN_of gs).1
  dsimp only at i0 i1 w0 w1 ⊢
  clear hn g0 f0 h
  replace hc := Kp.mk hc
  replace h2 := Kp.mk h2
  unfold txO
  dsimp only
  obtain ⟨W0, hW⟩ : ∃ W0, W0 = (w.alloc (Go.Obj.cells #[.slice a gs.length cap, .slice a2 fs.length k2] 34)).alloc (Go.Obj.cells #[.int .i64 k, .int .i64 t, .int .i64 i, .int .u64 x] 36) := ⟨_, rfl⟩
  obtain ⟨B0, hx, hy⟩ := two w _ _ _ _ hW
  have m0 : At W0 w.heap.size 0 (.slice a gs.length cap) := hx 0 _ rfl
  have p0 : At W0 (w.heap.size + 1) 0 (.int .i64 k) := hy 0 _ rfl
  have p1 : At W0 (w.heap.size + 1) 1 (.int .i64 t) := hy 1 _ rfl
  have p2 : At W0 (w.heap.size + 1) 2 (.int .i64 i) := hy 2 _ rfl
  have p3 : At W0 (w.heap.size + 1) 3 (.int .u64 x) := hy 3 _ rfl
  clear hx hy
  replace hW := Kp.mk hW
  by_cases e1 : k = 1
  · subst e1
    rw [if_pos rfl]
    have C := Kp.mk (fmtS_any t x W0 w0 w1)
    clear hc h2 HG
    go_enter Tryd.func5, Tryd.ntmps5
    go_wp2_with fail
    rw [← hW.out]
    clear hW
    go_wp2_with fail
    refine C.out.mono ?_
    rintro e w1 ⟨rfl, hb1⟩
    go_wp2_with fail
    go_ret
    exact ⟨rfl, bel_trans B0 hb1⟩
  by_cases e2 : k = 2
  · subst e2
    rw [if_neg (by decide), if_pos rfl]
    have B1 := B0
    rw [hW.out] at B1
    clear hc h2 HG m0 p0 p1 p2 p3 hW B0
    go_enter Tryd.func5, Tryd.ntmps5
    go_wp2_with fail
    go_ret
    exact ⟨rfl, B1⟩
  by_cases e3 : k = 3
  · subst e3
    rw [if_neg (by decide), if_neg (by decide), if_pos rfl]
    have B1 := B0
    rw [hW.out] at B1
    clear hc h2 HG m0 p0 p1 p2 p3 hW B0
    go_enter Tryd.func5, Tryd.ntmps5
    go_wp2_with fail
    go_ret
    exact ⟨rfl, B1⟩
  by_cases e4 : k = 4
  · subst e4
    rw [if_neg (by decide), if_neg (by decide), if_neg (by decide), if_pos rfl]
    have C := Kp.mk (l3I i W0 i0 i1)
    have L := itoa_len i i0 i1
    clear hc h2 HG
    go_enter Tryd.func5, Tryd.ntmps5
    go_wp2_with fail
    rw [← hW.out]
    clear hW
    go_wp2_with fail
    refine C.out.mono ?_
    rintro e w1 ⟨rfl, hb1⟩
    go_wp2_with fail
    go_ret
    exact ⟨by rw [ba_cons]; rfl, bel_trans B0 hb1⟩
  by_cases e5 : k = 5
  · subst e5
    rw [if_neg (by decide), if_neg (by decide), if_neg (by decide), if_neg (by decide), if_pos rfl]
    by_cases hin : 0 ≤ i ∧ i.toNat < gs.length
    · rw [dif_pos hin]
      obtain ⟨j, rfl⟩ : ∃ j : Nat, i = j := ⟨i.toNat, by omega⟩
      have hlt : j < gs.length := by omega
      obtain ⟨d, hd⟩ : ∃ d, gs[j] = d := ⟨_, rfl⟩
      have hd2 : gs[((j : Int)).toNat]'hin.2 = d := by simpa using hd
      rw [hd2]
      obtain rfl := h2.out (by omega)
      obtain ⟨vb, Q⟩ := hc.out j hlt
      have hnn := HG.out j hlt
      rw [hd] at Q hnn
      have c0 := (Q.keep B0).c0
      have hns : d.name.size ≤ 1048576 := by unfold glN at hnn; omega
      have B1 := B0
      rw [hW.out] at B1 c0
      clear hc h2 HG Q hnn hd hd2 hin m0 p0 p1 p2 p3 hW B0
      go_enter Tryd.func5, Tryd.ntmps5
      go_wp2_with fail
      go_ret
      exact ⟨rfl, B1⟩
    · rw [dif_neg hin]
      have B1 := B0
      rw [hW.out] at B1
      clear hc h2 HG m0 p0 p1 p2 p3 hW B0
      by_cases hi : i < 0
      · go_enter Tryd.func5, Tryd.ntmps5
        go_wp2_with fail
        go_ret
        exact ⟨rfl, B1⟩
      · have hi2 : (gs.length : Int) ≤ i := by omega
        have hi3 : 0 ≤ i := by omega
        clear hin hi
        go_enter Tryd.func5, Tryd.ntmps5
        go_wp2_with fail
        go_ret
        exact ⟨rfl, B1⟩
  · rw [if_neg e1, if_neg e2, if_neg e3, if_neg e4, if_neg e5]
    have b1 : (k == 1) = false := beq_eq_false_iff_ne.2 e1
    have b2 : (k == 2) = false := beq_eq_false_iff_ne.2 e2
    have b3 : (k == 3) = false := beq_eq_false_iff_ne.2 e3
    have b4 : (k == 4) = false := beq_eq_false_iff_ne.2 e4
    have b5 : (k == 5) = false := beq_eq_false_iff_ne.2 e5
    have B1 := B0
    rw [hW.out] at B1
    clear hc h2 HG m0 p0 p1 p2 p3 hW B0
    go_enter Tryd.func5, Tryd.ntmps5
    go_wp2_with fail
    go_ret
    exact ⟨rfl, B1⟩
set_option maxRecDepth 100000 in
set_option maxHeartbeats 2000000 in
theorem fmtOI (gs : List GlD) (fs : List FnD) (vg vf : Value) (q : OpD) (w : World) {lo : Nat} (h : MoAt lo w gs fs vg vf) (hL : Lt w) (hb : OpB q) (hn : moN gs fs ≤ 1048576) :
    Calls Tryd.prog 8 #[moV vg vf, .agg #[.int .i64 q.k, .int .i64 q.t, .int .i64 q.i, .int .u64 q.w]] w fun e w' => e = .returned (.string (txO gs q)) ∧ Below w.heap.size w w' := by
  unfold moN at hn
  have g0 := glsN_nn gs
  have f0 := fnsN_nn fs
  have n1 : (gs.length : Int) ≤ 1048576 := by omega
  have n2 : glsN gs ≤ 1048576 := by omega
  obtain ⟨k, t, i, x⟩ := q
  obtain ⟨i0, i1, w0, w1⟩ := hb
  obtain ⟨a2, k2, rfl⟩ := h.f.shape
  obtain ⟨b, o, ⟨⟨a, cap, rfl, h1, h2⟩, h3⟩, -, hc⟩ := h.g.ex
  have HG := Kp.mk (glsN_of gs).1
  dsimp only at i0 i1 w0 w1 ⊢
  clear hn g0 f0 h
  replace hc := Kp.mk hc
  replace h2 := Kp.mk h2
  unfold txO
  dsimp only
  obtain ⟨W0, hW⟩ : ∃ W0, W0 = (w.alloc (Go.Obj.cells #[.slice a gs.length cap, .slice a2 fs.length k2] 34)).alloc (Go.Obj.cells #[.int .i64 k, .int .i64 t, .int .i64 i, .int .u64 x] 36) := ⟨_, rfl⟩
  obtain ⟨B0, hx, hy⟩ := two w _ _ _ _ hW
  have m0 : At W0 w.heap.size 0 (.slice a gs.length cap) := hx 0 _ rfl
  have p0 : At W0 (w.heap.size + 1) 0 (.int .i64 k) := hy 0 _ rfl
  have p1 : At W0 (w.heap.size + 1) 1 (.int .i64 t) := hy 1 _ rfl
  have p2 : At W0 (w.heap.size + 1) 2 (.int .i64 i) := hy 2 _ rfl
  have p3 : At W0 (w.heap.size + 1) 3 (.int .u64 x) := hy 3 _ rfl
  clear hx hy
  replace hW := Kp.mk hW
  have hL0 := Kp.mk (hL.below B0)
  clear hL
  by_cases e1 : k = 1
  · subst e1
    rw [if_pos rfl]
    have C := Kp.mk (fmtI_any t x W0 hL0.out w0 w1)
    clear hc h2 HG
    go_enter Tryd.func8, Tryd.ntmps8
    go_wp2_with fail
    rw [← hW.out]
    clear hW
    go_wp2_with fail
    refine C.out.mono ?_
    rintro e w1 ⟨rfl, hb1⟩
    go_wp2_with fail
    go_ret
    exact ⟨rfl, bel_trans B0 hb1⟩
  by_cases e2 : k = 2
  · subst e2
    rw [if_neg (by decide), if_pos rfl]
    have B1 := B0
    rw [hW.out] at B1
    clear hc h2 HG m0 p0 p1 p2 p3 hW B0
    go_enter Tryd.func8, Tryd.ntmps8
    go_wp2_with fail
    go_ret
    exact ⟨rfl, B1⟩
  by_cases e3 : k = 3
  · subst e3
    rw [if_neg (by decide), if_neg (by decide), if_pos rfl]
    have B1 := B0
    rw [hW.out] at B1
    clear hc h2 HG m0 p0 p1 p2 p3 hW B0
    go_enter Tryd.func8, Tryd.ntmps8
    go_wp2_with fail
    go_ret
    exact ⟨rfl, B1⟩
  by_cases e4 : k = 4
  · subst e4
    rw [if_neg (by decide), if_neg (by decide), if_neg (by decide), if_pos rfl]
    have C := Kp.mk (decI i W0 hL0.out i0 i1)
    have L := itoa_len i i0 i1
    clear hc h2 HG
    go_enter Tryd.func8, Tryd.ntmps8
    go_wp2_with fail
    rw [← hW.out]
    clear hW
    go_wp2_with fail
    refine C.out.mono ?_
    rintro e w1 ⟨rfl, hb1⟩
    go_wp2_with fail
    go_ret
    exact ⟨by rw [ba_cons]; rfl, bel_trans B0 hb1⟩
  by_cases e5 : k = 5
  · subst e5
    rw [if_neg (by decide), if_neg (by decide), if_neg (by decide), if_neg (by decide), if_pos rfl]
    by_cases hin : 0 ≤ i ∧ i.toNat < gs.length
    · rw [dif_pos hin]
      obtain ⟨j, rfl⟩ : ∃ j : Nat, i = j := ⟨i.toNat, by omega⟩
      have hlt : j < gs.length := by omega
      obtain ⟨d, hd⟩ : ∃ d, gs[j] = d := ⟨_, rfl⟩
      have hd2 : gs[((j : Int)).toNat]'hin.2 = d := by simpa using hd
      rw [hd2]
      obtain rfl := h2.out (by omega)
      obtain ⟨vb, Q⟩ := hc.out j hlt
      have hnn := HG.out j hlt
      rw [hd] at Q hnn
      have c0 := (Q.keep B0).c0
      have hns : d.name.size ≤ 1048576 := by unfold glN at hnn; omega
      have C := isIx_c j gs.length W0 (by omega)
      rw [show isIx (j : Int) gs.length = true by unfold isIx; simp; omega] at C
      replace C := Kp.mk C
      clear hc h2 HG Q hnn hd hd2 hin
      go_enter Tryd.func8, Tryd.ntmps8
      go_wp2_with fail
      rw [← hW.out]
      clear hW
      go_wp2_with fail
      refine C.out.mono ?_
      rintro e w1 ⟨rfl, hb1⟩
      replace m0 := at_keep m0 hb1
      replace p2 := at_keep p2 hb1
      replace c0 := at_keep c0 hb1
      go_wp2_with fail
      go_ret
      exact ⟨rfl, bel_trans B0 hb1⟩
    · rw [dif_neg hin]
      have C := isIx_c i gs.length W0 (by omega)
      rw [show isIx i gs.length = false by unfold isIx; simp; omega] at C
      replace C := Kp.mk C
      clear hc h2 HG
      go_enter Tryd.func8, Tryd.ntmps8
      go_wp2_with fail
      rw [← hW.out]
      clear hW
      go_wp2_with fail
      refine C.out.mono ?_
      rintro e w1 ⟨rfl, hb1⟩
      go_wp2_with fail
      go_ret
      exact ⟨rfl, bel_trans B0 hb1⟩
  · rw [if_neg e1, if_neg e2, if_neg e3, if_neg e4, if_neg e5]
    have b1 : (k == 1) = false := beq_eq_false_iff_ne.2 e1
    have b2 : (k == 2) = false := beq_eq_false_iff_ne.2 e2
    have b3 : (k == 3) = false := beq_eq_false_iff_ne.2 e3
    have b4 : (k == 4) = false := beq_eq_false_iff_ne.2 e4
    have b5 : (k == 5) = false := beq_eq_false_iff_ne.2 e5
    have B1 := B0
    rw [hW.out] at B1
    clear hc h2 HG m0 p0 p1 p2 p3 hW B0
    go_enter Tryd.func8, Tryd.ntmps8
    go_wp2_with fail
    go_ret
    exact ⟨rfl, B1⟩
end Go.Proofs.YtikecpcgcccmoaaDoor
