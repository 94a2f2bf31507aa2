/- Texts of one claim. -/
import Derived.Test.YtgdcgjlmkmdklaaGreatDoorPk0
import Derived.Test.YtgdcgjlmkmdklaaGreatDoorPk9
namespace Go.Proofs.YtgdcgjlmkmdklaaGreatDoor
open Go.ChangeShapes Go.WideShapes Go.ChangeAt Go.RowKit
set_option linter.unusedVariables false
set_option linter.unusedSimpArgs false
theorem boxes3 {w W : World} {o1 o2 o3 : Obj} (h : W = ((w.alloc o1).alloc o2).alloc o3) :
  W.heap.size = w.heap.size + 3 ∧ Below w.heap.size w W ∧ W.heap[w.heap.size]? = some o1 ∧ W.heap[w.heap.size + 1]? = some o2 ∧ W.heap[w.heap.size + 1 + 1]? = some o3 := by
 subst h
 have a2 := new_at (w.alloc o1) o2
 have a3 := new_at ((w.alloc o1).alloc o2) o3
 rw [World.size_alloc] at a2
 rw [World.size_alloc, World.size_alloc] at a3
 exact ⟨by simp, bel_trans (bel_alloc _ _) (bel_trans (bel_alloc _ _) (bel_alloc _ _)), kept_at (kept_at (new_at w o1) (bel_alloc _ _)) (bel_alloc _ _), kept_at a2 (bel_alloc _ _), a3⟩
theorem calD_get {fs : List FnD} {n : Nat} (h : n < fs.length) : calD fs (n : Int) = fs[n] := by
 simp [calD, List.getD_eq_getElem?_getD, h]
set_option maxRecDepth 100000 in
set_option maxHeartbeats 8000000 in
theorem l2Wan (gs : List GlD) (fs : List FnD) (vg vf : Value) (f : FnD) (vp vb : Value) (x : InD) (va vl vs : Value) (k : Nat) (w : World) {lo : Nat} (hm : MoAt lo w gs fs vg vf) (hp : ∃ a n c, vp = .slice a n c) (hb : ∃ a n c, vb = .slice a n c) (hx : InV lo w va vl vs x) (hk : k < x.args.length) (hc : x.op = 25 → 0 ≤ x.ca ∧ x.ca < fs.length ∧ k < (calD fs x.ca).params.length) :
  Calls Tryz.prog 91 #[moV vg vf, fnV f vp vb, inV x va vl vs, .int .i64 k] w fun e w' => e = .returned (.bool (wanB fs f x k (x.args[k]).t)) ∧ Below w.heap.size w w' := by
 obtain ⟨op, ty, fl, pr, ca, sz, args, bl, ws⟩ := x
 obtain ⟨name, link, params, res, blocks⟩ := f
 obtain ⟨a3, n3, c3, rfl⟩ := hp
 obtain ⟨a4, n4, c4, rfl⟩ := hb
 obtain ⟨ha, hl, hs⟩ := hx
 dsimp only [moV, fnV, inV] at *
 obtain ⟨a5, c5, rfl⟩ := hl.shape
 obtain ⟨a6, c6, rfl⟩ := hs.shape
 obtain ⟨a1, c1, rfl⟩ := hm.g.shape
 obtain ⟨b, o, ⟨⟨a, ca', rfl, s1, s2⟩, s3⟩, -, hcl⟩ := ha.ex
 obtain ⟨bf, of, ⟨⟨a2, c2, rfl, f1, f2⟩, f3⟩, -, hfc⟩ := hm.f.ex
 have g1 : (args.length : Int) ≤ 140737488355328 := by omega
 have g2 : (fs.length : Int) ≤ 140737488355328 := by omega
 have hk0 : 0 < args.length := Nat.lt_of_le_of_lt (Nat.zero_le k) hk
 obtain rfl := s2 hk0
 obtain ⟨W0, hW⟩ : ∃ W0, W0 = ((w.alloc (Go.Obj.cells #[.slice a1 gs.length c1, .slice a2 fs.length c2] 33)).alloc (Go.Obj.cells #[.string name, .int .i64 link, .slice a3 n3 c3, .int .i64 res, .slice a4 n4 c4] 53)).alloc (Go.Obj.cells #[.int .i64 op, .int .i64 ty, .int .i64 fl, .int .i64 pr, .int .i64 ca, .int .i64 sz, .slice (some ⟨b, o, none⟩) args.length ca', .slice a5 bl.length c5, .slice a6 ws.length c6] 73) := ⟨_, rfl⟩
 obtain ⟨-, B0, x1, x2, x3⟩ := boxes3 hW
 have m1 : At W0 w.heap.size 1 _ := cells_at x1 rfl
 have r3 : At W0 (w.heap.size + 1) 3 _ := cells_at x2 rfl
 have i0 : At W0 (w.heap.size + 1 + 1) 0 _ := cells_at x3 rfl
 have i1 : At W0 (w.heap.size + 1 + 1) 1 _ := cells_at x3 rfl
 have i3 : At W0 (w.heap.size + 1 + 1) 3 _ := cells_at x3 rfl
 have i4 : At W0 (w.heap.size + 1 + 1) 4 _ := cells_at x3 rfl
 have i6 : At W0 (w.heap.size + 1 + 1) 6 _ := cells_at x3 rfl
 have hk2 : k < args.length := hk
 have hk' : (k : Int) < args.length := by omega
 have z0 : (0 : Int) < args.length := by omega
 have t0 := at_keep (hcl 0 hk0).c1 B0
 have tk := at_keep (hcl k hk).c1 B0
 have t0' : Kp ((args.getD 0 default).t = (args[0]'hk0).t) := ⟨by simp [List.getD_eq_getElem?_getD, hk0]⟩
 simp only [Nat.zero_mul, Nat.add_zero] at t0
 have VW : Kp (∀ w t, Calls Tryz.prog 86 #[.int .i64 t] w fun e w' => e = .returned (.bool (vw t)) ∧ w' = w) := ⟨fun w t => vwS_any t w⟩
 have VT : Kp (∀ w t, Calls Tryz.prog 46 #[.int .i64 t] w fun e w' => e = .returned (.bool (vtB t)) ∧ w' = w) := ⟨fun w t => vtS t w⟩
 clear x1 x2 x3 hcl ha hl hs s2
 replace hW := Kp.mk hW
 replace hfc := Kp.mk hfc
 replace f2 := Kp.mk f2
 replace hm := Kp.mk hm
 replace hc := Kp.mk hc
 generalize (args[0]'hk0).t = T0 at *
 generalize args[k].t = T at *
 by_cases e14 : op = 14
 ·subst e14
  have G : Kp (wanB fs ⟨name, link, params, res, blocks⟩ ⟨14, ty, fl, pr, ca, sz, args, bl, ws⟩ k T = (decide (T = T0) && (vw T || (decide (T = 65) && decide (pr ≤ 2))))) := ⟨by unfold wanB; rw [if_pos rfl]; simp only [t0'.out]⟩
  rw [G.out]
  clear G
  have V2 : Kp (∀ w, Calls Tryz.prog 86 #[.int .i64 T] w fun e w' => e = .returned (.bool (vw T)) ∧ w' = w) := ⟨fun w => VW.out w T⟩
  generalize vw T = R at *
  replace hc := True.intro
  by_cases q1 : T = T0
  ·subst q1
   cases R with
   | true =>
    rw [show (decide (T = T) && (true || (decide (T = 65) && decide (pr ≤ 2)))) = true by simp]
    as_aux_lemma =>
     exact tl23
   | false =>
    by_cases q2 : T = 65
    ·subst q2
     by_cases q3 : pr ≤ 2
     ·rw [show (decide ((65 : Int) = 65) && (false || (decide ((65 : Int) = 65) && decide (pr ≤ 2)))) = true by simp [q3]]
      as_aux_lemma =>
       exact tl23
     ·rw [show (decide ((65 : Int) = 65) && (false || (decide ((65 : Int) = 65) && decide (pr ≤ 2)))) = false by simp [q3]]
      as_aux_lemma =>
       exact tl23
    ·rw [show (decide (T = T) && (false || (decide (T = 65) && decide (pr ≤ 2)))) = false by simp [q2]]
     have q2' := nb q2
     clear q2
     as_aux_lemma =>
      exact tl23
  ·rw [show (decide (T = T0) && (R || (decide (T = 65) && decide (pr ≤ 2)))) = false by simp [q1]]
   have q1' := nb q1
   clear q1
   as_aux_lemma =>
    exact tl23
 by_cases e15 : op = 15
 ·subst e15
  have G : Kp (wanB fs ⟨name, link, params, res, blocks⟩ ⟨15, ty, fl, pr, ca, sz, args, bl, ws⟩ k T = ((decide (k = 0) && decide (T = 1)) || (decide (0 < k) && decide (T = ty)))) := ⟨by simp [wanB]⟩
  rw [G.out]
  exact tl18
 by_cases e16 : op = 16
 ·subst e16
  have G : Kp (wanB fs ⟨name, link, params, res, blocks⟩ ⟨16, ty, fl, pr, ca, sz, args, bl, ws⟩ k T = (vw T && decide (T < ty))) := ⟨by simp [wanB]⟩
  exact tl17
 by_cases e17 : op = 17
 ·subst e17
  have G : Kp (wanB fs ⟨name, link, params, res, blocks⟩ ⟨17, ty, fl, pr, ca, sz, args, bl, ws⟩ k T = (vw T && decide (T < ty))) := ⟨by simp [wanB]⟩
  exact tl17
 by_cases e18 : op = 18
 ·subst e18
  have G : Kp (wanB fs ⟨name, link, params, res, blocks⟩ ⟨18, ty, fl, pr, ca, sz, args, bl, ws⟩ k T = (vw T && decide (ty < T))) := ⟨by simp [wanB]⟩
  exact tl17
 by_cases e22 : op = 22
 ·subst e22
  have G : Kp (wanB fs ⟨name, link, params, res, blocks⟩ ⟨22, ty, fl, pr, ca, sz, args, bl, ws⟩ k T = (decide (T = 65))) := ⟨by simp [wanB]⟩
  rw [G.out]
  exact tl18
 by_cases e23 : op = 23
 ·subst e23
  have G : Kp (wanB fs ⟨name, link, params, res, blocks⟩ ⟨23, ty, fl, pr, ca, sz, args, bl, ws⟩ k T = ((decide (k = 0) && vtB T) || (decide (k = 1) && decide (T = 65)))) := ⟨by simp [wanB]⟩
  rw [G.out]
  clear G
  have V2 : Kp (∀ w, Calls Tryz.prog 46 #[.int .i64 T] w fun e w' => e = .returned (.bool (vtB T)) ∧ w' = w) := ⟨fun w => VT.out w T⟩
  generalize vtB T = R at *
  cases R
  all_goals
   go_enter Tryz.func91, Tryz.ntmps91
   go_upto_region 1 with fail
   rw [← hW.out]
   go_wp2_with (go_at_call 46; refine (V2.out _).mono ?_; rintro e w1 ⟨rfl, rfl⟩)
   all_goals
    go_ret
    exact ⟨ret_bool (by first | rfl | (rw [Bool.eq_iff_iff]; simp; omega) | simp_all), B0⟩
 by_cases e24 : op = 24
 ·subst e24
  have G : Kp (wanB fs ⟨name, link, params, res, blocks⟩ ⟨24, ty, fl, pr, ca, sz, args, bl, ws⟩ k T = ((decide (k = 0) && decide (T = 65)) || (decide (k = 1) && decide (T = 64)))) := ⟨by simp [wanB]⟩
  rw [G.out]
  exact tl18
 by_cases e25 : op = 25
 ·subst e25
  obtain ⟨q1, q2, q3⟩ := hc.out rfl
  obtain ⟨n, rfl⟩ := Int.eq_ofNat_of_zero_le q1
  have hn : n < fs.length := by omega
  have hcal := calD_get hn
  obtain ⟨vp, vb, hfa⟩ := hfc.out n hn
  obtain rfl := f2.out (by omega)
  obtain ⟨bp, op', ⟨⟨ap, cp, rfl, p1, p2⟩, p3⟩, -, hpc⟩ := hfa.f.p.ex
  have hfc2 := at_keep hfa.c2 B0
  rw [hcal] at q3
  have hpk := at_keep (hpc k q3) B0
  obtain rfl := p2 (by omega)
  have G : Kp (wanB fs ⟨name, link, params, res, blocks⟩ ⟨25, ty, fl, pr, (n : Int), sz, args, bl, ws⟩ k T = decide (T = fs[n].params[k])) := ⟨by simp [wanB, hcal, List.getD_eq_getElem?_getD, q3]⟩
  rw [G.out]
  clear hpc hfa hcal p2
  have q3' : (k : Int) < fs[n].params.length := by omega
  have g4 : (fs[n].params.length : Int) ≤ 140737488355328 := by omega
  generalize fs[n].params[k] = U at *
  generalize fs[n].params.length = PL at *
  exact tl18
 by_cases e26 : op = 26
 ·subst e26
  have G : Kp (wanB fs ⟨name, link, params, res, blocks⟩ ⟨26, ty, fl, pr, ca, sz, args, bl, ws⟩ k T = (decide (T = 64))) := ⟨by simp [wanB]⟩
  rw [G.out]
  exact tl18
 by_cases e28 : op = 28
 ·subst e28
  have G : Kp (wanB fs ⟨name, link, params, res, blocks⟩ ⟨28, ty, fl, pr, ca, sz, args, bl, ws⟩ k T = (decide (T = 1))) := ⟨by simp [wanB]⟩
  rw [G.out]
  exact tl18
 by_cases e29 : op = 29
 ·subst e29
  have G : Kp (wanB fs ⟨name, link, params, res, blocks⟩ ⟨29, ty, fl, pr, ca, sz, args, bl, ws⟩ k T = (vw T)) := ⟨by simp [wanB]⟩
  exact tl17
 by_cases e30 : op = 30
 ·subst e30
  have G : Kp (wanB fs ⟨name, link, params, res, blocks⟩ ⟨30, ty, fl, pr, ca, sz, args, bl, ws⟩ k T = (decide (T = res))) := ⟨by simp [wanB]⟩
  rw [G.out]
  exact tl18
 have G : Kp (wanB fs ⟨name, link, params, res, blocks⟩ ⟨op, ty, fl, pr, ca, sz, args, bl, ws⟩ k T = decide (T = ty)) := ⟨by simp [wanB, e14, e15, e16, e17, e18, e22, e23, e24, e25, e26, e28, e29, e30]⟩
 rw [G.out]
 have n14 := nb e14
 have n15 := nb e15
 have n16 := nb e16
 have n17 := nb e17
 have n18 := nb e18
 have n22 := nb e22
 have n23 := nb e23
 have n24 := nb e24
 have n25 := nb e25
 have n26 := nb e26
 have n28 := nb e28
 have n29 := nb e29
 have n30 := nb e30
 clear e14 e15 e16 e17 e18 e22 e23 e24 e25 e26 e28 e29 e30
 go_enter Tryz.func91, Tryz.ntmps91
 go_upto_region 1 with fail
 rw [← hW.out]
 go_wp2_with fail
 go_ret
 exact ⟨ret_bool (by first | rfl | simp_all), B0⟩
end Go.Proofs.YtgdcgjlmkmdklaaGreatDoor
