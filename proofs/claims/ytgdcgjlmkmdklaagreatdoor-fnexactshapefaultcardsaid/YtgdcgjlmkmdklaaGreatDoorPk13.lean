/- Texts of one claim. -/
import Derived.Test.YtgdcgjlmkmdklaaGreatDoorPk0
import Derived.Test.YtgdcgjlmkmdklaaGreatDoorPk11
namespace Go.Proofs.YtgdcgjlmkmdklaaGreatDoor
open Go.ChangeShapes Go.WideShapes Go.ChangeAt Go.RowKit
set_option linter.unusedVariables false
set_option linter.unusedSimpArgs false
theorem boxes4 {w W : World} {o1 o2 o3 o4 : Obj} (h : W = (((w.alloc o1).alloc o2).alloc o3).alloc o4) :
  W.heap.size = w.heap.size + 4 ∧ Below w.heap.size w W ∧ W.heap[w.heap.size]? = some o1 ∧ W.heap[w.heap.size + 1]? = some o2 ∧ W.heap[w.heap.size + 1 + 1]? = some o3 ∧ W.heap[w.heap.size + 1 + 1 + 1]? = some o4 := by
 obtain ⟨z, b, h1, h2, h3⟩ := boxes3 (w := w) (W := ((w.alloc o1).alloc o2).alloc o3) rfl
 subst h
 have a4 := new_at (((w.alloc o1).alloc o2).alloc o3) o4
 rw [z] at a4
 exact ⟨by simp, bel_trans b (bel_alloc _ _), kept_at h1 (bel_alloc _ _), kept_at h2 (bel_alloc _ _), kept_at h3 (bel_alloc _ _), a4⟩
theorem rw_two {W : World} {C : Nat} {x y : Value} {T : TypeId} (h : W.heap[C]? = some (Go.Obj.cells #[x, y] T (0, 0))) : Rw W C 2 :=
 ⟨T, fun j => (#[x, y] : Array Value).getD j undef, #[x, y], h, rfl, fun i hi => by
  rcases (show i = 0 ∨ i = 1 by omega) with rfl | rfl <;> rfl⟩
theorem putTwo {W : World} {C : Nat} (r : Rw W C 2) (a b : Value) :
  At ((W.setCell ⟨C, 0, none⟩ a).setCell ⟨C, 1, none⟩ b) C 0 a ∧ At ((W.setCell ⟨C, 0, none⟩ a).setCell ⟨C, 1, none⟩ b) C 1 b :=
 ⟨set_other (set_same r (by omega) a) (.inr (by omega)), set_same (r.set _ _) (by omega) b⟩
set_option maxRecDepth 100000 in
set_option maxHeartbeats 8000000 in
theorem l2Cnt (gs : List GlD) (fs : List FnD) (vg vf : Value) (f : FnD) (vp vb : Value) (x : InD) (va vl vs : Value) (w : World) {lo : Nat} (hm : MoAt lo w gs fs vg vf) (hp : ∃ a n c, vp = .slice a n c) (hb : ∃ a n c, vb = .slice a n c) (hx : InV lo w va vl vs x) (hc : x.op = 25 → 0 ≤ x.ca ∧ x.ca < fs.length) :
  Calls Tryz.prog 89 #[moV vg vf, fnV f vp vb, inV x va vl vs] w fun e w' => e = .returned (.agg #[.int .i64 (cntA fs f x), .int .i64 (cntT x)]) ∧ Below w.heap.size w w' := by
 obtain ⟨op, ty, fl, pr, ca, sz, args, bl, ws⟩ := x
 obtain ⟨name, link, params, res, blocks⟩ := f
 obtain ⟨a3, n3, c3, rfl⟩ := hp
 obtain ⟨a4, n4, c4, rfl⟩ := hb
 obtain ⟨ha, hl, hs⟩ := hx
 dsimp only [moV, fnV, inV] at *
 obtain ⟨a5, c5, rfl⟩ := hl.shape
 obtain ⟨b6, o6, ⟨⟨a6, c6, rfl, -, -⟩, s6⟩, -, -⟩ := hs.ex
 obtain ⟨b7, o7, ⟨⟨a7, c7, rfl, -, -⟩, s7⟩, -, -⟩ := ha.ex
 obtain ⟨a1, c1, rfl⟩ := hm.g.shape
 obtain ⟨bf, of, ⟨⟨a2, c2, rfl, f1, f2⟩, f3⟩, -, hfc⟩ := hm.f.ex
 have g2 : (fs.length : Int) ≤ 140737488355328 := by omega
 have g6 : (ws.length : Int) ≤ 140737488355328 := by omega
 obtain ⟨W0, hW⟩ : ∃ W0, W0 = (((w.alloc (Go.Obj.cells #[.slice a1 gs.length c1, .slice a2 fs.length c2] 33)).alloc (Go.Obj.cells #[.string name, .int .i64 link, .slice a3 n3 c3, .int .i64 res, .slice a4 n4 c4] 53)).alloc (Go.Obj.cells #[.int .i64 op, .int .i64 ty, .int .i64 fl, .int .i64 pr, .int .i64 ca, .int .i64 sz, .slice a7 args.length c7, .slice a5 bl.length c5, .slice a6 ws.length c6] 73)).alloc (Go.Obj.cells #[.int .i64 0, .int .i64 0] 131) := ⟨_, rfl⟩
 obtain ⟨hz, B0, x1, x2, x3, x4⟩ := boxes4 hW
 have m1 : At W0 w.heap.size 1 _ := cells_at x1 rfl
 have r3 : At W0 (w.heap.size + 1) 3 _ := cells_at x2 rfl
 have i0 : At W0 (w.heap.size + 1 + 1) 0 _ := cells_at x3 rfl
 have i4 : At W0 (w.heap.size + 1 + 1) 4 _ := cells_at x3 rfl
 have i8 : At W0 (w.heap.size + 1 + 1) 8 _ := cells_at x3 rfl
 have u0 := rw_cells x4 0
 have u1 := rw_cells x4 1
 have k0 : At W0 (w.heap.size + 1 + 1 + 1) 0 _ := cells_at x4 rfl
 have k1 : At W0 (w.heap.size + 1 + 1 + 1) 1 _ := cells_at x4 rfl
 have hR := Kp.mk (rw_two x4)
 have hS : Kp (∀ a b, Below w.heap.size w ((W0.setCell ⟨w.heap.size + 1 + 1 + 1, 0, none⟩ a).setCell ⟨w.heap.size + 1 + 1 + 1, 1, none⟩ b)) := ⟨fun a b => bel_set (bel_set B0 (by omega) _) (by omega) _⟩
 clear x1 x2 x3 x4 ha hl hs hz
 replace hW := Kp.mk hW
 replace hfc := Kp.mk hfc
 replace f2 := Kp.mk f2
 replace hm := Kp.mk hm
 replace hc := Kp.mk hc
 by_cases e0 : op ≤ 14
 ·have G : Kp (cntA fs ⟨name, link, params, res, blocks⟩ ⟨op, ty, fl, pr, ca, sz, args, bl, ws⟩ = 2 ∧ cntT ⟨op, ty, fl, pr, ca, sz, args, bl, ws⟩ = 0) := ⟨by simp [cntA, e0], by simp [cntT]; omega⟩
  rw [G.out.1, G.out.2]
  clear G
  as_aux_lemma =>
   exact tl43
 have z0 : ¬ op ≤ 14 := e0
 by_cases e24 : op = 24
 ·subst e24
  have G : Kp (cntA fs ⟨name, link, params, res, blocks⟩ ⟨24, ty, fl, pr, ca, sz, args, bl, ws⟩ = 2 ∧ cntT ⟨24, ty, fl, pr, ca, sz, args, bl, ws⟩ = 0) := ⟨by simp [cntA], by simp [cntT]⟩
  rw [G.out.1, G.out.2]
  clear G
  as_aux_lemma =>
   exact tl43
 by_cases e23 : op = 23
 ·subst e23
  have G : Kp (cntA fs ⟨name, link, params, res, blocks⟩ ⟨23, ty, fl, pr, ca, sz, args, bl, ws⟩ = 2 ∧ cntT ⟨23, ty, fl, pr, ca, sz, args, bl, ws⟩ = 0) := ⟨by simp [cntA], by simp [cntT]⟩
  rw [G.out.1, G.out.2]
  clear G
  as_aux_lemma =>
   exact tl43
 by_cases e15 : op = 15
 ·subst e15
  have G : Kp (cntA fs ⟨name, link, params, res, blocks⟩ ⟨15, ty, fl, pr, ca, sz, args, bl, ws⟩ = 3 ∧ cntT ⟨15, ty, fl, pr, ca, sz, args, bl, ws⟩ = 0) := ⟨by simp [cntA], by simp [cntT]⟩
  rw [G.out.1, G.out.2]
  clear G
  as_aux_lemma =>
   obtain ⟨y0, y1⟩ := putTwo hR.out (.int .i64 3) (.int .i64 0)
   go_enter Tryz.func89, Tryz.ntmps89
   go_upto_region 1 with fail
   rw [← hW.out]
   go_wp2_with fail
   refine bodyPost_ret (v := .agg #[.int .i64 3, .int .i64 0]) ?_ rfl ⟨rfl, hS.out _ _⟩
   simp [results, Tryz.results89, go_sem, y0, y1]
 by_cases e20 : op = 20
 ·subst e20
  have G : Kp (cntA fs ⟨name, link, params, res, blocks⟩ ⟨20, ty, fl, pr, ca, sz, args, bl, ws⟩ = (-1) ∧ cntT ⟨20, ty, fl, pr, ca, sz, args, bl, ws⟩ = (-1)) := ⟨by simp [cntA], by simp [cntT]⟩
  rw [G.out.1, G.out.2]
  clear G
  as_aux_lemma =>
   obtain ⟨y0, y1⟩ := putTwo hR.out (.int .i64 (-1)) (.int .i64 (-1))
   go_enter Tryz.func89, Tryz.ntmps89
   go_upto_region 1 with fail
   rw [← hW.out]
   go_wp2_with fail
   refine bodyPost_ret (v := .agg #[.int .i64 (-1), .int .i64 (-1)]) ?_ rfl ⟨rfl, hS.out _ _⟩
   simp [results, Tryz.results89, go_sem, y0, y1]
 by_cases e21 : op = 21
 ·subst e21
  have G : Kp (cntA fs ⟨name, link, params, res, blocks⟩ ⟨21, ty, fl, pr, ca, sz, args, bl, ws⟩ = 0 ∧ cntT ⟨21, ty, fl, pr, ca, sz, args, bl, ws⟩ = 0) := ⟨by simp [cntA], by simp [cntT]⟩
  rw [G.out.1, G.out.2]
  clear G
  as_aux_lemma =>
   exact tl42
 by_cases e31 : op = 31
 ·subst e31
  have G : Kp (cntA fs ⟨name, link, params, res, blocks⟩ ⟨31, ty, fl, pr, ca, sz, args, bl, ws⟩ = 0 ∧ cntT ⟨31, ty, fl, pr, ca, sz, args, bl, ws⟩ = 0) := ⟨by simp [cntA], by simp [cntT]⟩
  rw [G.out.1, G.out.2]
  clear G
  as_aux_lemma =>
   exact tl42
 by_cases e25 : op = 25
 ·subst e25
  obtain ⟨q1, q2⟩ := hc.out rfl
  obtain ⟨n, rfl⟩ := Int.eq_ofNat_of_zero_le q1
  have hn : n < fs.length := by omega
  have hcal := calD_get hn
  obtain ⟨vp, vb, hfa⟩ := hfc.out n hn
  obtain rfl := f2.out (by omega)
  obtain ⟨ap, cp, rfl⟩ := hfa.f.p.shape
  have hfc2 := at_keep hfa.c2 B0
  obtain ⟨bp, op', ⟨-, p3⟩, -, -⟩ := hfa.f.p.ex
  have g5 : (fs[n].params.length : Int) ≤ 140737488355328 := by omega
  have G : Kp (cntA fs ⟨name, link, params, res, blocks⟩ ⟨25, ty, fl, pr, (n : Int), sz, args, bl, ws⟩ = (fs[n].params.length : Int) ∧ cntT ⟨25, ty, fl, pr, (n : Int), sz, args, bl, ws⟩ = 0) := ⟨by simp [cntA, hcal], by simp [cntT]⟩
  rw [G.out.1, G.out.2]
  clear G hfa hcal
  generalize fs[n].params.length = PL at *
  as_aux_lemma =>
   obtain ⟨y0, y1⟩ := putTwo hR.out (.int .i64 (PL : Int)) (.int .i64 0)
   go_enter Tryz.func89, Tryz.ntmps89
   go_upto_region 1 with fail
   rw [← hW.out]
   go_wp2_with fail
   refine bodyPost_ret (v := .agg #[.int .i64 (PL : Int), .int .i64 0]) ?_ rfl ⟨rfl, hS.out _ _⟩
   simp [results, Tryz.results89, go_sem, y0, y1]
 by_cases e27 : op = 27
 ·subst e27
  have G : Kp (cntA fs ⟨name, link, params, res, blocks⟩ ⟨27, ty, fl, pr, ca, sz, args, bl, ws⟩ = 0 ∧ cntT ⟨27, ty, fl, pr, ca, sz, args, bl, ws⟩ = 1) := ⟨by simp [cntA], by simp [cntT]⟩
  rw [G.out.1, G.out.2]
  clear G
  as_aux_lemma =>
   obtain ⟨y0, y1⟩ := putTwo hR.out (.int .i64 0) (.int .i64 1)
   go_enter Tryz.func89, Tryz.ntmps89
   go_upto_region 1 with fail
   rw [← hW.out]
   go_wp2_with fail
   refine bodyPost_ret (v := .agg #[.int .i64 0, .int .i64 1]) ?_ rfl ⟨rfl, hS.out _ _⟩
   simp [results, Tryz.results89, go_sem, y0, y1]
 by_cases e28 : op = 28
 ·subst e28
  have G : Kp (cntA fs ⟨name, link, params, res, blocks⟩ ⟨28, ty, fl, pr, ca, sz, args, bl, ws⟩ = 1 ∧ cntT ⟨28, ty, fl, pr, ca, sz, args, bl, ws⟩ = 2) := ⟨by simp [cntA], by simp [cntT]⟩
  rw [G.out.1, G.out.2]
  clear G
  as_aux_lemma =>
   obtain ⟨y0, y1⟩ := putTwo hR.out (.int .i64 1) (.int .i64 2)
   go_enter Tryz.func89, Tryz.ntmps89
   go_upto_region 1 with fail
   rw [← hW.out]
   go_wp2_with fail
   refine bodyPost_ret (v := .agg #[.int .i64 1, .int .i64 2]) ?_ rfl ⟨rfl, hS.out _ _⟩
   simp [results, Tryz.results89, go_sem, y0, y1]
 by_cases e29 : op = 29
 ·subst e29
  have G : Kp (cntA fs ⟨name, link, params, res, blocks⟩ ⟨29, ty, fl, pr, ca, sz, args, bl, ws⟩ = 1 ∧ cntT ⟨29, ty, fl, pr, ca, sz, args, bl, ws⟩ = ((ws.length : Int) + 1)) := ⟨by simp [cntA], by simp [cntT]⟩
  rw [G.out.1, G.out.2]
  clear G
  as_aux_lemma =>
   obtain ⟨y0, y1⟩ := putTwo hR.out (.int .i64 1) (.int .i64 ((ws.length : Int) + 1))
   go_enter Tryz.func89, Tryz.ntmps89
   go_upto_region 1 with fail
   rw [← hW.out]
   go_wp2_with fail
   refine bodyPost_ret (v := .agg #[.int .i64 1, .int .i64 ((ws.length : Int) + 1)]) ?_ rfl ⟨rfl, hS.out _ _⟩
   simp [results, Tryz.results89, go_sem, y0, y1]
 by_cases e30 : op = 30
 ·subst e30
  by_cases er : res = 0
  ·subst er
   have G : Kp (cntA fs ⟨name, link, params, 0, blocks⟩ ⟨30, ty, fl, pr, ca, sz, args, bl, ws⟩ = 0 ∧ cntT ⟨30, ty, fl, pr, ca, sz, args, bl, ws⟩ = 0) := ⟨by simp [cntA], by simp [cntT]⟩
   rw [G.out.1, G.out.2]
   clear G
   as_aux_lemma =>
    exact tl42
  ·have G : Kp (cntA fs ⟨name, link, params, res, blocks⟩ ⟨30, ty, fl, pr, ca, sz, args, bl, ws⟩ = 1 ∧ cntT ⟨30, ty, fl, pr, ca, sz, args, bl, ws⟩ = 0) := ⟨by simp [cntA, er], by simp [cntT]⟩
   rw [G.out.1, G.out.2]
   have er2 := nb er
   clear G er
   as_aux_lemma =>
    exact tl76
 have G : Kp (cntA fs ⟨name, link, params, res, blocks⟩ ⟨op, ty, fl, pr, ca, sz, args, bl, ws⟩ = 1 ∧ cntT ⟨op, ty, fl, pr, ca, sz, args, bl, ws⟩ = 0) := ⟨by simp [cntA, e0, e24, e23, e15, e20, e21, e31, e25, e27, e28, e29, e30], by simp [cntT, e24, e23, e15, e20, e21, e31, e25, e27, e28, e29, e30]⟩
 rw [G.out.1, G.out.2]
 have n24 := nb e24
 have n23 := nb e23
 have n15 := nb e15
 have n20 := nb e20
 have n21 := nb e21
 have n31 := nb e31
 have n25 := nb e25
 have n27 := nb e27
 have n28 := nb e28
 have n29 := nb e29
 have n30 := nb e30
 clear G e24 e23 e15 e20 e21 e31 e25 e27 e28 e29 e30
 exact tl76
end Go.Proofs.YtgdcgjlmkmdklaaGreatDoor
