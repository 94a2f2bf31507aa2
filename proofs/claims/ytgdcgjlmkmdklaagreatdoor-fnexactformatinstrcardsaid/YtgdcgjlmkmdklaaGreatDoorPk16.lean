/- Texts of one claim. -/
import Derived.Test.YtgdcgjlmkmdklaaGreatDoorPk0
import Derived.Test.YtgdcgjlmkmdklaaGreatDoorPk14
namespace Go.Proofs.YtgdcgjlmkmdklaaGreatDoor
open Go.ChangeShapes Go.WideShapes Go.ChangeAt Go.RowKit
set_option linter.unusedVariables false
set_option linter.unusedSimpArgs false
theorem difB_getD (xs : List Int) : difB xs = true ↔ ∀ i j, i < xs.length → j < i → xs.getD i 0 ≠ xs.getD j 0 := by
 exact tl29
set_option maxRecDepth 100000 in
set_option maxHeartbeats 8000000 in
theorem l2HeadYesA (gs : List GlD) (fs : List FnD) (vg vf : Value) (f : FnD) (vp vb : Value) (bk : Int) (x : InD) (va vl vs : Value) (w : World) {lo : Nat} (hm : MoAt lo w gs fs vg vf) (hp : ∃ a n c, vp = .slice a n c) (hb : ∃ a n c, vb = .slice a n c) (hx : InV lo w va vl vs x) (hA : 0 ≤ x.fl) (hB : bits .andNot .i64 x.fl (flgs x.op) = 0) (hC : x.op = 14 ∨ x.pr = 0) (hD : x.op = 25 ∨ x.ca = 0) (hE : x.op = 21 ∨ x.sz = 0) (hG : x.op = 29 ∨ x.ws.length = 0) (hop : x.op = 14 ∨ x.op = 21 ∨ x.op = 25 ∨ x.op = 29) :
  Calls Tryz.prog 88 #[moV vg vf, fnV f vp vb, .int .i64 bk, inV x va vl vs] w fun e w' => e = .returned (.bool (hdB fs bk x)) ∧ Below w.heap.size w w' := by
 obtain ⟨op, ty, fl, pr, ca, sz, args, bl, ws⟩ := x
 obtain ⟨name, link, params, res, blocks⟩ := f
 obtain ⟨a3, n3, c3, rfl⟩ := hp
 obtain ⟨a4, n4, c4, rfl⟩ := hb
 obtain ⟨ha, hl, hs⟩ := hx
 dsimp only [moV, fnV, inV] at *
 obtain ⟨a5, c5, rfl⟩ := hl.shape
 obtain ⟨b6, o6, ⟨⟨a6, c6, rfl, w1, w2⟩, s6⟩, -, hwc⟩ := hs.ex
 obtain ⟨b7, o7, ⟨⟨a7, c7, rfl, -, -⟩, s7⟩, -, -⟩ := ha.ex
 obtain ⟨a1, c1, rfl⟩ := hm.g.shape
 obtain ⟨bf, of, ⟨⟨a2, c2, rfl, f1, f2⟩, f3⟩, -, hfc⟩ := hm.f.ex
 have g2 : (fs.length : Int) ≤ 140737488355328 := by omega
 have g6 : (ws.length : Int) ≤ 140737488355328 := by omega
 obtain ⟨W0, hW⟩ : ∃ W0, W0 = ((w.alloc (Go.Obj.cells #[.slice a1 gs.length c1, .slice a2 fs.length c2] 33)).alloc (Go.Obj.cells #[.string name, .int .i64 link, .slice a3 n3 c3, .int .i64 res, .slice a4 n4 c4] 53)).alloc (Go.Obj.cells #[.int .i64 op, .int .i64 ty, .int .i64 fl, .int .i64 pr, .int .i64 ca, .int .i64 sz, .slice a7 args.length c7, .slice a5 bl.length c5, .slice a6 ws.length c6] 73) := ⟨_, rfl⟩
 obtain ⟨hz, B0, x1, x2, x3⟩ := boxes3 hW
 have m1 : At W0 w.heap.size 1 _ := cells_at x1 rfl
 have i0 : At W0 (w.heap.size + 1 + 1) 0 _ := cells_at x3 rfl
 have i1 : At W0 (w.heap.size + 1 + 1) 1 _ := cells_at x3 rfl
 have i2 : At W0 (w.heap.size + 1 + 1) 2 _ := cells_at x3 rfl
 have i3 : At W0 (w.heap.size + 1 + 1) 3 _ := cells_at x3 rfl
 have i4 : At W0 (w.heap.size + 1 + 1) 4 _ := cells_at x3 rfl
 have i5 : At W0 (w.heap.size + 1 + 1) 5 _ := cells_at x3 rfl
 have i8 : At W0 (w.heap.size + 1 + 1) 8 _ := cells_at x3 rfl
 have FL : Kp (∀ w, Calls Tryz.prog 132 #[.int .i64 op] w fun e w' => e = .returned (.int .i64 (flgs op)) ∧ w' = w) := ⟨fun w => flgsS op w⟩
 have VW : Kp (∀ w, Calls Tryz.prog 86 #[.int .i64 ty] w fun e w' => e = .returned (.bool (vw ty)) ∧ w' = w) := ⟨fun w => vwS_any ty w⟩
 have VT : Kp (∀ w, Calls Tryz.prog 46 #[.int .i64 ty] w fun e w' => e = .returned (.bool (vtB ty)) ∧ w' = w) := ⟨fun w => vtS ty w⟩
 clear x1 x2 ha hl hs
 replace hW := Kp.mk hW
 replace hfc := Kp.mk hfc
 replace f2 := Kp.mk f2
 replace hm := Kp.mk hm
 replace hwc := Kp.mk hwc
 replace w2 := Kp.mk w2
 replace x3 := Kp.mk x3
 have G : Kp (hdB fs bk ⟨op, ty, fl, pr, ca, sz, args, bl, ws⟩ = ownB fs bk ⟨op, ty, fl, pr, ca, sz, args, bl, ws⟩) := ⟨by
  exact tl55⟩
 rw [G.out]
 clear G
 have dA : decide (fl < 0) = false := decide_eq_false (by omega)
 obtain ⟨F, hF⟩ : ∃ F, flgs op = F := ⟨_, rfl⟩
 rw [hF] at hB FL
 have dB : (bits .andNot .i64 fl F != 0) = false := by simp [hB]
 clear hF hA hB
 by_cases e14 : op = 14
 ·subst e14
  clear hC
  have ca0 : ca = 0 := by
   exact tl37
  clear hD
  subst ca0
  have sz0 : sz = 0 := by
   exact tl38
  clear hE
  subst sz0
  have ws0 : (ws.length : Int) = 0 := by
   exact tl40
  have dws : decide ((0 : Int) < (ws.length : Int)) = false := decide_eq_false (by omega)
  have dwsb : decide (0 < ws.length) = false := decide_eq_false (by omega)
  have dwsc : ¬ 0 < ws.length := by omega
  replace ws0 := Kp.mk ws0
  clear hG
  have G : Kp (ownB fs bk ⟨14, ty, fl, pr, 0, 0, args, bl, ws⟩ = (decide (ty = 1) && (decide (1 ≤ pr) && decide (pr ≤ 10)))) := ⟨by simp [ownB]⟩
  rw [G.out]
  clear G
  have B1 := Kp.mk B0
  as_aux_lemma =>
   go_enter Tryz.func88, Tryz.ntmps88
   go_upto_region 1 with fail
   rw [← hW.out]
   go_wp2_with fail
   go_quiet ((go_at_call 132; exact Calls.quiet_of_same (FL.out _)))
   go_wp2_with fail
   all_goals
    go_ret
    exact ⟨ret_bool (by first | rfl | (rw [Bool.eq_iff_iff]; simp; omega) | simp_all), by first | exact below_drewN B0 _ | exact below_drewN (below_drewN B0 _) _⟩
 by_cases e21 : op = 21
 ·subst e21
  have pr0 : pr = 0 := by
   exact tl39
  clear hC
  subst pr0
  have ca0 : ca = 0 := by
   exact tl37
  clear hD
  subst ca0
  clear hE
  have ws0 : (ws.length : Int) = 0 := by
   exact tl40
  have dws : decide ((0 : Int) < (ws.length : Int)) = false := decide_eq_false (by omega)
  have dwsb : decide (0 < ws.length) = false := decide_eq_false (by omega)
  have dwsc : ¬ 0 < ws.length := by omega
  replace ws0 := Kp.mk ws0
  clear hG
  have G : Kp (ownB fs bk ⟨21, ty, fl, 0, 0, sz, args, bl, ws⟩ = (decide (ty = 65) && (decide (1 ≤ sz) && (decide (sz ≤ 256) && decide (bk = 0))))) := ⟨by simp [ownB]⟩
  rw [G.out]
  clear G
  have B1 := Kp.mk B0
  as_aux_lemma =>
   go_enter Tryz.func88, Tryz.ntmps88
   go_upto_region 1 with fail
   rw [← hW.out]
   go_wp2_with fail
   go_quiet ((go_at_call 132; exact Calls.quiet_of_same (FL.out _)))
   go_wp2_with fail
   all_goals
    go_ret
    exact ⟨ret_bool (by first | rfl | (rw [Bool.eq_iff_iff]; simp; omega) | simp_all), by first | exact below_drewN B0 _ | exact below_drewN (below_drewN B0 _) _⟩
 by_cases e25 : op = 25
 ·subst e25
  have pr0 : pr = 0 := by
   exact tl39
  clear hC
  subst pr0
  clear hD
  have sz0 : sz = 0 := by
   exact tl38
  clear hE
  subst sz0
  have ws0 : (ws.length : Int) = 0 := by
   exact tl40
  have dws : decide ((0 : Int) < (ws.length : Int)) = false := decide_eq_false (by omega)
  have dwsb : decide (0 < ws.length) = false := decide_eq_false (by omega)
  have dwsc : ¬ 0 < ws.length := by omega
  replace ws0 := Kp.mk ws0
  clear hG
  by_cases q1 : 0 ≤ ca ∧ ca < fs.length
  ·obtain ⟨q1, q2⟩ := q1
   obtain ⟨n, rfl⟩ := Int.eq_ofNat_of_zero_le q1
   have hn : n < fs.length := by omega
   have hcal := calD_get hn
   obtain ⟨vp, vb, hfa⟩ := hfc.out n hn
   obtain rfl := f2.out (by omega)
   have hfc3 := at_keep hfa.c3 B0
   have G : Kp (ownB fs bk ⟨25, ty, fl, 0, (n : Int), 0, args, bl, ws⟩ = decide (ty = fs[n].res)) := ⟨by simp [ownB, hcal, hn]⟩
   rw [G.out]
   have q2' : decide ((n : Int) < (fs.length : Int)) = true := decide_eq_true q2
   have q1' : decide (0 ≤ (n : Int)) = true := decide_eq_true q1
   clear G hfa hcal
   generalize fs[n].res = U at *
   by_cases hu : ty = U
   ·subst hu
    rw [show decide (ty = ty) = true by simp]
    as_aux_lemma =>
     exact tl25
   ·rw [show decide (ty = U) = false by simp [hu]]
    have hu' := nb hu
    clear hu
    as_aux_lemma =>
     exact tl25
  ·have G : Kp (ownB fs bk ⟨25, ty, fl, 0, ca, 0, args, bl, ws⟩ = false) := ⟨by
    rw [Bool.eq_false_iff]
    intro q
    simp [ownB] at q
    exact q1 ⟨q.1, q.2.1⟩⟩
   rw [G.out]
   clear G
   by_cases q0 : 0 ≤ ca
   ·have q2' : decide (ca < (fs.length : Int)) = false := decide_eq_false (by omega)
    have q1' : decide (0 ≤ ca) = true := decide_eq_true q0
    clear q1 q0
    as_aux_lemma =>
     exact tl25
   ·have q1' : decide (0 ≤ ca) = false := decide_eq_false q0
    clear q1 q0
    as_aux_lemma =>
     exact tl25
 by_cases e29 : op = 29
 ·subst e29
  have pr0 : pr = 0 := by
   exact tl39
  clear hC
  subst pr0
  have ca0 : ca = 0 := by
   exact tl37
  clear hD
  subst ca0
  have sz0 : sz = 0 := by
   exact tl38
  clear hE
  subst sz0
  clear hG
  have G : Kp (ownB fs bk ⟨29, ty, fl, 0, 0, 0, args, bl, ws⟩ = (decide (ws.length ≤ 12) && (difB ws && decide (ty = 0)))) := ⟨by simp [ownB]⟩
  rw [G.out]
  clear G
  have dif := Kp.mk (difB_getD ws)
  by_cases h12 : 12 < ws.length
  ·rw [show (decide (ws.length ≤ 12) && (difB ws && decide (ty = 0))) = false by simp; omega]
   have h12a : (12 : Int) < (ws.length : Int) := by omega
   clear dif
   as_aux_lemma =>
    exact tl6
  ·rw [show (decide (ws.length ≤ 12) && (difB ws && decide (ty = 0))) = (difB ws && decide (ty = 0)) by rw [decide_eq_true (by omega)]; simp]
   have h12a : ¬ (12 : Int) < (ws.length : Int) := by omega
   clear h12
   as_aux_lemma =>
    go_enter Tryz.func88, Tryz.ntmps88
    go_upto_region 1 with fail
    rw [← hW.out]
    go_wp2_with fail
    go_quiet ((go_at_call 132; exact Calls.quiet_of_same (FL.out _)))
    go_wp2_with fail
    have B1 := below_drewN (Below.refl W0.heap.size W0) nq
    generalize W0.drewN nq = W1 at *
    have hWs : Kp (∀ W, Below W0.heap.size W0 W → ∀ i (h : i < ws.length), At W b6 (o6 + i) (.int .u64 (ws.getD i 0))) := ⟨fun W hB i h => by
     have := at_keep (hwc.out i h) (bel_trans B0 hB)
     rwa [show ws.getD i 0 = ws[i] by simp [List.getD_eq_getElem?_getD, h]]⟩
    have hI8 : Kp (∀ W, Below W0.heap.size W0 W → At W (w.heap.size + 1 + 1) 8 (.slice a6 ws.length c6) ∧ At W (w.heap.size + 1 + 1) 1 (.int .i64 ty)) := ⟨fun W hB => ⟨cells_at (kept_at x3.out hB) rfl, cells_at (kept_at x3.out hB) rfl⟩⟩
    clear i0 i1 i2 i3 i4 i5 i8 m1 hwc FL VW VT hfc f2 hm
    go_loopw [9, 10] (fun s r wr => ∃ n : Nat, n ≤ ws.length ∧ s = .int .i64 n ∧ Kp (∀ i j, i < n → j < i → ws.getD i 0 ≠ ws.getD j 0) ∧ Below W0.heap.size W0 wr) (fun s _ _ => ws.length - (intOf s).toNat)
    case atStart => exact ⟨0, Nat.zero_le _, rfl, ⟨fun i j hi => absurd hi (by omega)⟩, B1⟩
    case round =>
     clear B1
     obtain ⟨n, hn, rfl, hd, hB⟩ := hrel
     obtain ⟨y8, y1⟩ := hI8.out _ hB
     by_cases hlt : n < ws.length
     ·obtain rfl := w2.out (by omega)
      have hlt' : (n : Int) < (ws.length : Int) := by omega
      go_wp2_with fail
      go_loopw [10] (fun k wq => ∃ m : Nat, m ≤ n ∧ k = .int .i64 m ∧ Kp (∀ j, j < m → ws.getD n 0 ≠ ws.getD j 0) ∧ Below W0.heap.size W0 wq) (fun k _ => n - (intOf k).toNat)
      case atStart => exact ⟨0, Nat.zero_le _, rfl, ⟨fun j hj => absurd hj (by omega)⟩, hB⟩
      case round =>
       clear y8 y1 hB
       obtain ⟨m, hm, rfl, he, hB⟩ := hrel
       obtain ⟨y8, y1⟩ := hI8.out _ hB
       by_cases hlm : m < n
       ·have hlm' : (m : Int) < (n : Int) := by omega
        have hlm2 : (m : Int) < (ws.length : Int) := by omega
        have cn := hWs.out _ hB n hlt
        have cm := hWs.out _ hB m (by omega)
        by_cases q : ws.getD n 0 = ws.getD m 0
        ·have hf : Kp (difB ws = false) := ⟨by
          rw [Bool.eq_false_iff]
          intro t
          exact dif.out.1 t n m hlt hlm q⟩
         rw [q] at cn
         generalize ws.getD m 0 = u at *
         go_wp2_with fail
         go_quiet (fail)
         go_wp2_with fail
         go_ret
         exact ⟨ret_bool (by rw [hf.out]; rfl), bel_trans B0 (below_drewN hB _)⟩
        ·have he' : Kp (∀ j, j < m + 1 → ws.getD n 0 ≠ ws.getD j 0) := ⟨fun j hj => by
          by_cases e : j = m
          ·rw [e]; exact q
          ·exact he.out j (by omega)⟩
         have q' := nb q
         clear q he
         generalize hu : ws.getD m 0 = u at *
         generalize hv : ws.getD n 0 = v at *
         replace hu := Kp.mk hu
         replace hv := Kp.mk hv
         go_wp2_with fail
         go_quiet (fail)
         go_wp2_with fail
         refine ⟨⟨m + 1, by omega, by go_num, ?_, below_drewN hB _⟩, by simp [intOf]; omega⟩
         first | exact he' | (rw [hv.out]; exact he')
       ·have hlm' : ¬ (m : Int) < (n : Int) := by omega
        obtain rfl : m = n := by omega
        go_wp2_with fail
        refine ⟨⟨m + 1, by omega, by go_num, ⟨fun i j hi hj => ?_⟩, hB⟩, by simp [intOf]; omega⟩
        by_cases e : i = m
        ·subst e; exact he.out j hj
        ·exact hd.out i j (by omega) hj
     ·have hlt' : ¬ (n : Int) < (ws.length : Int) := by omega
      obtain rfl : n = ws.length := by omega
      have ht : Kp (difB ws = true) := ⟨dif.out.2 (fun i j hi hj => hd.out i j hi hj)⟩
      go_wp2_with fail
      all_goals
       go_ret
       exact ⟨ret_bool (by rw [ht.out]; first | rfl | (rw [Bool.eq_iff_iff]; simp; done) | simp_all), bel_trans B0 hB⟩
 exfalso
 rcases hop with h | h | h | h
 ·exact e14 h
 ·exact e21 h
 ·exact e25 h
 ·exact e29 h
end Go.Proofs.YtgdcgjlmkmdklaaGreatDoor
