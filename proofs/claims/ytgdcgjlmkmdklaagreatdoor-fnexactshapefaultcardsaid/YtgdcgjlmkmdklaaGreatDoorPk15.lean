/- Texts of one claim. -/
import Derived.Test.YtgdcgjlmkmdklaaGreatDoorPk0
import Derived.Test.YtgdcgjlmkmdklaaGreatDoorPk12
import Derived.Test.YtgdcgjlmkmdklaaGreatDoorPk14
import Derived.Laws.EntriesVeiled
namespace Go.Proofs.YtgdcgjlmkmdklaaGreatDoor
open Go.ChangeShapes Go.WideShapes Go.ChangeAt Go.RowKit
set_option linter.unusedVariables false
set_option linter.unusedSimpArgs false
set_option maxHeartbeats 1000000 in
theorem isLinkI (x : Int) (w : World) :
  Calls Tryz.prog 55 #[.int .i64 x] w fun e w' => e = .returned (.bool (decide (0 ≤ x) && decide (x ≤ 3))) ∧ w' = w := by
 obtain ⟨R, hR⟩ : ∃ R, R = (decide (0 ≤ x) && decide (x ≤ 3)) := ⟨_, rfl⟩
 rw [← hR]
 replace hR := Kp.mk hR
 go_enter Tryz.func55, Tryz.ntmps55
 go_wp2
 all_goals
  go_ret
  refine ⟨ret_bool ?_, rfl⟩
  rw [hR.out, Bool.eq_iff_iff]
  simp <;> omega
set_option maxRecDepth 100000 in
set_option maxHeartbeats 4000000 in
theorem sigI (f : FnD) (vp vb : Value) (w : World) {lo : Nat} (h : FnAt lo w f vp vb) (hw : Wid w) :
  Calls Tryz.prog 57 #[fnV f vp vb] w fun e w' => e = .returned (.bool (sigB f)) ∧ Below w.heap.size w w' := by
 obtain ⟨name, link, params, res, blocks⟩ := f
 obtain ⟨-, hp, hb⟩ := h
 dsimp only [fnV] at *
 obtain ⟨bp, op, ⟨⟨ap, kp, rfl, p1, p2⟩, p3⟩, -, pc⟩ := hp.ex
 obtain ⟨_, _, ⟨⟨ab, kb, rfl, -, -⟩, b3⟩, -, -⟩ := hb.ex
 have l1 : (params.length : Int) ≤ 140737488355328 := by omega
 obtain ⟨W0, hW⟩ : ∃ W0, W0 = w.alloc (Go.Obj.cells #[.string name, .int .i64 link, .slice ap params.length kp, .int .i64 res, .slice ab blocks.length kb] 53) := ⟨_, rfl⟩
 have BB : Below w.heap.size w W0 := by rw [hW]; exact bel_alloc w _
 have q0 := new_at w (Go.Obj.cells #[.string name, .int .i64 link, .slice ap params.length kp, .int .i64 res, .slice ab blocks.length kb] 53)
 rw [← hW] at q0
 have x2 : At W0 w.heap.size 2 _ := cells_at q0 rfl
 have x3 : At W0 w.heap.size 3 _ := cells_at q0 rfl
 have PC : Kp (∀ i, i < params.length → At W0 bp (op + i) (.int .i64 (params.getD i 0))) := ⟨fun i hi => by
  rw [show params.getD i 0 = params[i] by simp [List.getD_eq_getElem?_getD, hi]]
  exact at_keep (pc i hi) BB⟩
 have CT : Kp (∀ x, Calls Tryz.prog 102 #[.int .i64 x] W0 fun e w' => e = .returned (.bool (vtB x)) ∧ w' = W0) := ⟨fun x => vtI x W0 (hw.below BB)⟩
 have hAP := Kp.mk (all_iff_getD params (0 : Int) vtB)
 have hS : Kp (sigB ⟨name, link, params, res, blocks⟩ = (decide ((params.length : Int) ≤ 6) && ((params.all vtB) && (decide (res = 0) || vtB res)))) := ⟨by
  unfold sigB
  rw [Bool.eq_iff_iff]
  simp
  intros
  omega⟩
 obtain ⟨R, hR⟩ : ∃ R, R = sigB ⟨name, link, params, res, blocks⟩ := ⟨_, rfl⟩
 rw [← hR]
 rw [← hR] at hS
 generalize (params.all vtB) = AP at *
 replace hW := Kp.mk hW
 replace p2 := Kp.mk p2
 clear hp hb pc q0 hw hR
 by_cases h6 : (6 : Int) < params.length
 ·have hf : Kp (R = false) := ⟨by rw [hS.out]; simp; omega⟩
  go_enter Tryz.func57, Tryz.ntmps57
  exact tl73
 ·replace hS : Kp (R = (AP && (decide (res = 0) || vtB res))) := ⟨by rw [hS.out, show decide ((params.length : Int) ≤ 6) = true from decide_eq_true (by omega)]; simp⟩
  go_enter Tryz.func57, Tryz.ntmps57
  go_upto_region 1 with fail
  rw [← hW.out]
  go_wp2_with fail
  go_loopw [12] (fun r wr => wr = W0 ∧ ∃ i : Nat, i ≤ params.length ∧ r = .int .i64 i ∧ Kp (∀ j, j < i → vtB (params.getD j 0) = true)) (fun r _ => params.length - (intOf r).toNat)
  case atStart => exact ⟨rfl, 0, Nat.zero_le _, rfl, ⟨fun j hj => absurd hj (by omega)⟩⟩
  case round =>
   obtain ⟨rfl, i, hi, rfl, hd⟩ := hrel
   by_cases hlt : i < params.length
   ·obtain rfl := p2.out (by omega)
    have hlt' : (i : Int) < (params.length : Int) := by omega
    have c0 := PC.out i hlt
    have CTi := Kp.mk (CT.out (params.getD i 0))
    cases hv : vtB (params.getD i 0) with
    | false =>
     have hf : Kp (R = false) := ⟨by
      have : AP = false := by
       exact tl159
      rw [hS.out, this]; simp⟩
     rw [hv] at CTi
     clear hv hd
     generalize params.getD i 0 = u at *
     go_wp2_with fail
     refine CTi.out.mono ?_
     exact tl116
    | true =>
     have hd' : Kp (∀ j, j < i + 1 → vtB (params.getD j 0) = true) := ⟨fun j hj => by
      exact tl158⟩
     rw [hv] at CTi
     clear hv hd
     obtain ⟨u, hu⟩ : ∃ u, u = params.getD i 0 := ⟨_, rfl⟩
     rw [← hu] at c0 CTi
     replace hu := Kp.mk hu
     go_wp2_with fail
     refine CTi.out.mono ?_
     rintro e w2 ⟨rfl, hw2⟩
     subst w2
     exact tl148
   ·have hlt' : ¬ (i : Int) < (params.length : Int) := by omega
    have hAP' := hAP.out.2 (fun j hj => hd.out j (by omega))
    clear hd
    by_cases e4 : res = 0
    ·subst e4
     have hf : Kp (R = true) := ⟨by rw [hS.out, hAP']; simp⟩
     clear hAP'
     go_wp2_with fail
     go_ret
     exact ⟨ret_bool hf.out.symm, BB⟩
    ·have n4 := nb e4
     have hf : Kp (R = vtB res) := ⟨by rw [hS.out, hAP']; simp [e4]⟩
     have CTr := Kp.mk (CT.out res)
     clear e4 hAP'
     generalize vtB res = V at *
     go_wp2_with fail
     refine CTr.out.mono ?_
     exact tl116
def extB (f : FnD) : Bool := decide (decide (f.link = 0) = decide (f.blocks.length = 0)) && smB f
set_option maxRecDepth 100000 in
set_option maxHeartbeats 4000000 in
theorem extI (f : FnD) (vp vb : Value) (w : World) {lo : Nat} (h : FnAt lo w f vp vb) (hn : fnN f ≤ 1048576) :
  Calls Tryz.prog 58 #[fnV f vp vb] w fun e w' => e = .returned (.bool (extB f)) ∧ Below w.heap.size w w' := by
 obtain ⟨name, link, params, res, blocks⟩ := f
 obtain ⟨-, hp, hb⟩ := h
 unfold fnN at hn
 dsimp only [fnV] at *
 have nn := blsN_nn blocks
 have hL := flat_len blocks
 have n2 : (blocks.length : Int) ≤ 1048576 := by omega
 have n3 : blocks.flatten.length ≤ 1048576 := by omega
 obtain ⟨_, _, ⟨⟨a1, k1, rfl, -, -⟩, -⟩, -, -⟩ := hp.ex
 obtain ⟨b, o, ⟨⟨a2, k2, rfl, h1, h2⟩, h3⟩, -, hc⟩ := hb.ex
 obtain ⟨W0, hW⟩ : ∃ W0, W0 = w.alloc (Go.Obj.cells #[.string name, .int .i64 link, .slice a1 params.length k1, .int .i64 res, .slice a2 blocks.length k2] 53) := ⟨_, rfl⟩
 have BB : Below w.heap.size w W0 := by rw [hW]; exact bel_alloc w _
 have q0 := new_at w (Go.Obj.cells #[.string name, .int .i64 link, .slice a1 params.length k1, .int .i64 res, .slice a2 blocks.length k2] 53)
 rw [← hW] at q0
 have x1 : At W0 w.heap.size 1 _ := cells_at q0 rfl
 have x4 : At W0 w.heap.size 4 _ := cells_at q0 rfl
 have HC : Kp (∀ W, Below W0.heap.size W0 W → ∀ i (h : i < blocks.length), ∃ vi, At W b (o + i) vi ∧ Ins lo W vi blocks[i]) := ⟨fun W hB i hi => by
  exact tl131⟩
 have hFL := Kp.mk (flat_take_le blocks)
 have hEX : Kp (extB ⟨name, link, params, res, blocks⟩ = (decide (decide (link = 0) = decide (blocks.length = 0)) && (decide (blocks.length ≤ 40) && (decide (blocks.flatten.length ≤ 256) && decide (frS blocks.flatten ≤ 512))))) := ⟨rfl⟩
 replace h2 := Kp.mk h2
 replace hW := Kp.mk hW
 obtain ⟨R, hR⟩ : ∃ R, R = extB ⟨name, link, params, res, blocks⟩ := ⟨_, rfl⟩
 rw [← hR]
 rw [← hR] at hEX
 clear hR hc hb hp hn nn hL q0
 have LN := Kp.mk (lnk_lem hEX.out)
 by_cases q1 : (link = 0 ∧ ¬ blocks.length = 0) ∨ (¬ link = 0 ∧ blocks.length = 0)
 ·have hf : Kp (R = false) := ⟨by simpa using LN.out.2 q1⟩
  rcases q1 with ⟨e1, e2⟩ | ⟨e1, e2⟩
  ·subst e1
   have n5 := nb (x := (blocks.length : Int)) (k := 0) (by omega)
   clear e2
   go_enter Tryz.func58, Tryz.ntmps58
   exact tl73
  ·have n4 := nb e1
   have n5 : ((blocks.length : Int) == 0) = true := by simp [e2]
   replace e2 := Kp.mk e2
   clear e1
   go_enter Tryz.func58, Tryz.ntmps58
   exact tl73
 have hEQ : Kp (R = (decide (blocks.length ≤ 40) && (decide (blocks.flatten.length ≤ 256) && decide (frS blocks.flatten ≤ 512)))) := ⟨by
  have := LN.out.1 (by
   by_cases e : link = 0
   ·by_cases e2 : blocks.length = 0
    ·exact .inl ⟨e, e2⟩
    ·exact absurd (.inl ⟨e, e2⟩) q1
   ·by_cases e2 : blocks.length = 0
    ·exact absurd (.inr ⟨e, e2⟩) q1
    ·exact .inr ⟨e, e2⟩)
  have e : ∀ a b : Bool, (!a) = (!b) → a = b := by decide
  exact e _ _ this⟩
 have gd : (link == 0) = ((blocks.length : Int) == 0) := by
  by_cases e : link = 0
  ·by_cases e2 : blocks.length = 0
   ·simp [e, e2]
   ·exact absurd (.inl ⟨e, e2⟩) q1
  ·by_cases e2 : blocks.length = 0
   ·exact absurd (.inr ⟨e, e2⟩) q1
   ·rw [nb e, nb (x := (blocks.length : Int)) (k := 0) (by omega)]
 clear q1 hEX LN
 by_cases q40 : (40 : Int) < blocks.length
 ·have hf : Kp (R = false) := ⟨by rw [hEQ.out]; simp; omega⟩
  go_enter Tryz.func58, Tryz.ntmps58
  exact tl73
 go_enter Tryz.func58, Tryz.ntmps58
 go_upto_region 1 with fail
 rw [← hW.out]
 go_wp2_with fail
 go_loopw [3, 4, 26] (fun n s r wr => ∃ (B N : Nat) (S : Int), B ≤ blocks.length ∧ r = .int .i64 B ∧ n = .int .i64 (256 - (N : Int)) ∧ s = .int .i64 (512 - S) ∧ Kp (N = (blocks.take B).flatten.length) ∧ Kp (S = frS (blocks.take B).flatten) ∧ 0 ≤ S ∧ S ≤ 512 ∧ N ≤ 256 ∧ Below W0.heap.size W0 wr) (fun _ _ r _ => blocks.length - (intOf r).toNat)
 case atStart => exact ⟨0, 0, 0, Nat.zero_le _, rfl, rfl, rfl, ⟨rfl⟩, ⟨rfl⟩, by omega, by omega, by omega, Below.refl _ _⟩
 case round =>
  clear x1 x4
  obtain ⟨B, N, S, hB, rfl, rfl, rfl, hN, hS, s0, s1, hN1, hBl⟩ := hrel
  by_cases hlt : B < blocks.length
  ·obtain rfl := h2.out (by omega)
   have hlt' : (B : Int) < (blocks.length : Int) := by omega
   obtain ⟨vi, c0, hv⟩ := HC.out _ hBl B hlt
   obtain ⟨ys, hys⟩ : ∃ ys, Kp (blocks[B] = ys) := ⟨_, ⟨rfl⟩⟩
   rw [hys.out] at hv
   have hft := Kp.mk (flat_take hlt)
   rw [hys.out] at hft
   have hN2 : Kp (N + ys.length ≤ blocks.flatten.length) := ⟨by
    have q := hFL.out (B + 1)
    rw [hft.out, List.length_append, ← hN.out] at q
    exact q⟩
   obtain ⟨bi, oi, ⟨⟨ai, ki, rfl, i1, i2⟩, i3⟩, -, ic⟩ := hv.ex
   have g5 : (ys.length : Int) ≤ 140737488355328 := by omega
   have hmem : Kp (∀ i (h : i < ys.length), ys[i] ∈ blocks.flatten) := ⟨fun i h => by
    exact tl114⟩
   have hpre : Kp (∀ i (h : i ≤ ys.length), frS ((blocks.take B).flatten ++ ys.take i) ≤ frS blocks.flatten) := ⟨fun i h => by
    have e : blocks.flatten = ((blocks.take B).flatten ++ ys.take i) ++ (ys.drop i ++ (blocks.drop (B + 1)).flatten) := by
     have e1 := congrArg List.flatten (List.take_append_drop (B + 1) blocks)
     rw [List.flatten_append, hft.out] at e1
     rw [← e1, List.append_assoc, List.append_assoc, ← List.append_assoc (ys.take i), List.take_append_drop]
    rw [e, frS_app _ (ys.drop i ++ (blocks.drop (B + 1)).flatten)]
    have := frS_nn (ys.drop i ++ (blocks.drop (B + 1)).flatten)
    omega⟩
   replace i2 := Kp.mk i2
   by_cases qN : 256 - (N : Int) - ys.length < 0
   ·have hf : Kp (R = false) := ⟨by
     have := hN2.out
     rw [hEQ.out, show decide (blocks.flatten.length ≤ 256) = false from decide_eq_false (by omega)]
     simp⟩
    clear hv ic
    go_wp2_with fail
    go_ret
    exact ⟨ret_bool hf.out.symm, bel_trans BB (bel_trans hBl (bel_alloc _ _))⟩
   ·obtain ⟨wo, hwo⟩ : ∃ wo, wo = wr.alloc (Go.Obj.cells #[.slice ai ys.length ki] 59) := ⟨_, rfl⟩
    have hb2 : Below wr.heap.size wr wo := by rw [hwo]; exact bel_alloc _ _
    have z0 : At wo wr.heap.size 0 (.slice ai ys.length ki) := by
     have q := new_at wr (Go.Obj.cells #[.slice ai ys.length ki] 59)
     rw [← hwo] at q
     exact cells_at q rfl
    have IC : Kp (∀ W, Below wo.heap.size wo W → ∀ i (h : i < ys.length), ∃ va vb vw, InAt lo W bi (oi + i * 9) ys[i] va vb vw) := ⟨fun W hW i h => by
     obtain ⟨va, vb, vw, q⟩ := ic i h
     exact ⟨va, vb, vw, q.keep (bel_trans hb2 hW)⟩⟩
    have hBo := bel_trans hBl hb2
    have hrf := Below.refl wo.heap.size wo
    replace hwo := Kp.mk hwo
    clear hv ic
    go_upto_region 7 with fail
    rw [← hwo.out]
    go_wp2_with fail
    go_loopw [4, 40] (fun s r wr => ∃ (i : Nat) (T : Int), i ≤ ys.length ∧ r = .int .i64 i ∧ s = .int .i64 (512 - T) ∧ Kp (T = frS ((blocks.take B).flatten ++ ys.take i)) ∧ 0 ≤ T ∧ T ≤ 512 ∧ Below wo.heap.size wo wr) (fun _ r _ => ys.length - (intOf r).toNat)
    case atStart => exact ⟨0, S, Nat.zero_le _, rfl, rfl, ⟨by simpa using hS.out⟩, s0, s1, hrf⟩
    case round =>
     clear z0 c0 hS s0 s1 hrf
     obtain ⟨i, T, hi, rfl, rfl, hT, t0, t1, hBq⟩ := hrel
     by_cases hlt2 : i < ys.length
     ·obtain rfl := i2.out (by omega)
      have hlt2' : (i : Int) < (ys.length : Int) := by omega
      obtain ⟨va, vl, vs, hin⟩ := IC.out _ hBq i hlt2
      have hT2 : frS ((blocks.take B).flatten ++ ys.take (i + 1)) = T + alS ys[i] := by
       rw [List.take_succ_eq_append_getElem hlt2, ← List.append_assoc, frS_app, frS_one, hT.out]
      have hge := hpre.out (i + 1) (by omega)
      generalize ys[i] = X at *
      obtain ⟨op, ty, fl, pr, ca, sz, args, bl, ws⟩ := X
      obtain ⟨d0, d1, d2, d3, d4, d5, d6, d7, d8, hl⟩ := hin
      obtain ⟨_, _, ⟨⟨aa, ka, rfl, -, -⟩, -⟩, -, -⟩ := hl.a.ex
      obtain ⟨_, _, ⟨⟨ab, kb, rfl, -, -⟩, -⟩, -, -⟩ := hl.b.ex
      obtain ⟨_, _, ⟨⟨ac, kc, rfl, -, -⟩, -⟩, -, -⟩ := hl.c.ex
      dsimp only at *
      replace hT2 := Kp.mk hT2
      replace hge := Kp.mk hge
      clear hl hT
      by_cases q1 : op = 21
      ·subst q1
       by_cases q2 : 0 < sz
       ·have hal : Kp (alS ⟨21, ty, fl, pr, ca, sz, args, bl, ws⟩ = sz) := ⟨by simp [alS, q2]⟩
        by_cases q3 : 512 - T < sz
        ·have hf : Kp (R = false) := ⟨by
          rw [hEQ.out]
          have := hge.out
          rw [hT2.out, hal.out] at this
          have q : ¬ frS blocks.flatten ≤ 512 := by omega
          simp [q]⟩
         clear hge hT2 hal
         go_wp2_with fail
         go_ret
         exact ⟨ret_bool hf.out.symm, bel_trans BB (bel_trans hBo (bel_trans hBq (bel_alloc _ _)))⟩
        ·exact tl70
       ·exact tl153
      ·have hT3 : Kp (T = frS ((blocks.take B).flatten ++ ys.take (i + 1))) := ⟨by rw [hT2.out]; simp [alS, q1]⟩
       have n21 := nb q1
       have m21 := nbT q1
       clear hge hT2 q1
       exact tl57
     ·have hT3 : Kp (T = frS (blocks.take (B + 1)).flatten) := ⟨by rw [hft.out, hT.out, show ys.take i = ys from List.take_of_length_le (by omega)]⟩
      have hN3 : Kp (N + ys.length = (blocks.take (B + 1)).flatten.length) := ⟨by rw [hft.out, List.length_append, ← hN.out]⟩
      have hlt2' : ¬ (i : Int) < (ys.length : Int) := by omega
      go_wp2_with fail
      exact ⟨⟨B + 1, N + ys.length, T, by omega, by go_num, by go_num, rfl, hN3, hT3, t0, t1, by omega, bel_trans hBo hBq⟩, by simp [intOf]; omega⟩
  ·have hlt' : ¬ (B : Int) < (blocks.length : Int) := by omega
   have hf : Kp (R = true) := ⟨by
    have e1 := hN.out
    have e2 := hS.out
    rw [List.take_of_length_le (by omega)] at e1 e2
    rw [hEQ.out, show decide (blocks.length ≤ 40) = true from decide_eq_true (by omega), show decide (blocks.flatten.length ≤ 256) = true from decide_eq_true (by omega), show decide (frS blocks.flatten ≤ 512) = true from decide_eq_true (by omega)]
    rfl⟩
   go_wp2_with fail
   go_ret
   exact ⟨ret_bool hf.out.symm, bel_trans BB hBl⟩
end Go.Proofs.YtgdcgjlmkmdklaaGreatDoor

namespace Go.Proofs.YtgdcgjlmkmdklaaGreatDoor
open Go.ChangeShapes Go.WideShapes Go.ChangeAt Go.RowKit
attribute [local go_sem] Oper.semAt_some
set_option linter.unusedVariables false
set_option linter.unusedSimpArgs false
theorem strB_eq (a b : ByteArray) : (a.toList == b.toList) = decide (a = b) := by
 by_cases h : a = b
 ·subst h; simp
 ·rw [strB_no h, decide_eq_false h]
set_option maxRecDepth 100000 in
set_option maxHeartbeats 2000000 in
theorem hasGlobal1 (q : GlD) (yb : Option Addr) (yc : Nat) (Bv : Nat) (s : ByteArray) (w : World) (hv : At w Bv 0 (.string s)) :
  Calls Tryz.prog 99 #[.agg #[.string q.name, .int .i64 q.link, .bool q.fx, .int .i64 q.size, .slice yb q.bytes.length yc], .pointer (some ⟨Bv, 0, none⟩)] w fun e w' => e = .returned (.bool (decide (q.name = s))) ∧ Below w.heap.size w w' := by
 have hv2 : (w.alloc (Go.Obj.cells #[.string q.name, .int .i64 q.link, .bool q.fx, .int .i64 q.size, .slice yb q.bytes.length yc] 77)).cell? ⟨Bv, 0, none⟩ = some (.string s) := at_keep hv (bel_alloc _ _)
 rw [← strB_eq]
 go_enter Tryz.func99, Tryz.ntmps99
 go_wp2_with fail
 go_ret
 exact ⟨rfl, bel_alloc _ _⟩
set_option maxRecDepth 100000 in
set_option maxHeartbeats 2000000 in
theorem hasGlobalIx (a : Option Addr) (n cap : Nat) (xs : List GlD) (b o : Nat) (Bv : Nat) (s : ByteArray) (w : World) {lo : Nat} (hn : n ≤ xs.length) (hl : n ≤ 140737488355328) (hcap : n ≤ cap) (h2 : 0 < n → a = some ⟨b, o, none⟩) (hc : ∀ i (h : i < xs.length), ∃ vb, GlAt lo w b (o + i * 5) xs[i] vb) (hv : At w Bv 0 (.string s)) :
  Calls Tryz.prog 135 #[.slice a n cap, .func (.func 99) #[] #[.pointer (some ⟨Bv, 0, none⟩)]] w fun e w' => ∃ r : Int, e = .returned (.int .i64 r) ∧ decide (0 ≤ r) = ((xs.take n).any fun q => decide (q.name = s)) ∧ Below w.heap.size w w' := by
 have g1 : (n : Int) ≤ 140737488355328 := by omega
 obtain ⟨R, hR⟩ : ∃ R, R = ((xs.take n).any fun q => decide (q.name = s)) := ⟨_, rfl⟩
 have IFF : Kp (R = true ↔ ∃ i, i < n ∧ (xs.getD i glD0).name = s) := ⟨by
  rw [hR, List.any_eq_true]
  constructor
  ·rintro ⟨x, hx, e⟩
   rw [List.mem_take_iff_getElem] at hx
   obtain ⟨i, hi, rfl⟩ := hx
   exact ⟨i, by omega, by rw [show xs.getD i glD0 = xs[i] from glD_get (by omega)]; simpa using e⟩
  ·rintro ⟨i, hi, e⟩
   refine ⟨xs[i]'(by omega), List.mem_take_iff_getElem.2 ⟨i, by omega, rfl⟩, ?_⟩
   rw [show xs.getD i glD0 = xs[i]'(by omega) from glD_get (by omega)] at e
   simpa using e⟩
 rw [← hR]
 replace h2 := Kp.mk h2
 replace hv := Kp.mk hv
 replace hc := Kp.mk hc
 clear hR
 go_enter Tryz.func135, Tryz.ntmps135
 go_wp2_with fail
 go_loopw [8] (fun s' wr => ∃ i : Nat, i ≤ n ∧ s' = .int .i64 i ∧ Kp (∀ j, j < i → (xs.getD j glD0).name ≠ s) ∧ Below w.heap.size w wr) (fun s' _ => n - (intOf s').toNat)
 case atStart => exact ⟨0, Nat.zero_le _, rfl, ⟨fun j hj => absurd hj (by omega)⟩, Below.refl _ _⟩
 case round =>
  obtain ⟨i, hi, rfl, hd, hB⟩ := hrel
  by_cases hlt0 : i < n
  ·have hlt : i < xs.length := by omega
   have hlt' : (i : Int) < (n : Int) := by omega
   obtain rfl := h2.out (by omega)
   have hc := hc.out
   obtain ⟨vb, H⟩ := hc i hlt
   have H' := H.keep hB
   obtain ⟨hnm, c0, c1, c2, c3, c4, hy⟩ := H'
   obtain ⟨_, _, ⟨⟨yb, yc, rfl, -, -⟩, -⟩, -, -⟩ := hy.ex
   have hgd : xs.getD i glD0 = xs[i] := glD_get hlt
   have hdi : Kp (xs[i].name = s → R = true) := ⟨fun e => IFF.out.2 ⟨i, hlt0, by rw [hgd]; exact e⟩⟩
   have hdn : Kp (¬ xs[i].name = s → ∀ j, j < i + 1 → (xs.getD j glD0).name ≠ s) := ⟨fun e j hj => by
    exact tl117⟩
   have C := Kp.mk (hasGlobal1 xs[i] yb yc Bv s wr (at_keep hv.out hB))
   clear hc hgd hd hnm hy H
   exact tl32
  ·exact tl67
set_option maxRecDepth 100000 in
set_option maxHeartbeats 2000000 in
theorem hasGlobalI (a : Option Addr) (n cap : Nat) (xs : List GlD) (b o : Nat) (s : ByteArray) (w : World) {lo : Nat} (hn : n ≤ xs.length) (hl : n ≤ 140737488355328) (hcap : n ≤ cap) (h2 : 0 < n → a = some ⟨b, o, none⟩) (hc : ∀ i (h : i < xs.length), ∃ vb, GlAt lo w b (o + i * 5) xs[i] vb) :
  Calls Tryz.prog 54 #[.slice a n cap, .string s] w fun e w' => e = .returned (.bool ((xs.take n).any fun q => decide (q.name = s))) ∧ Below w.heap.size w w' := by
 have C1 : Kp (∀ Bv W, Below w.heap.size w W → At W Bv 0 (.string s) → Calls Tryz.prog 135 #[.slice a n cap, .func (.func 99) #[] #[.pointer (some ⟨Bv, 0, none⟩)]] W fun e w' => ∃ r : Int, e = .returned (.int .i64 r) ∧ decide (0 ≤ r) = ((xs.take n).any fun q => decide (q.name = s)) ∧ Below W.heap.size W w') := ⟨fun Bv W hB hv => hasGlobalIx a n cap xs b o Bv s W hn hl hcap h2 (fun i h => by
  have q := hc i h
  obtain ⟨vb, q⟩ := q
  exact ⟨vb, q.keep hB⟩) hv⟩
 obtain ⟨R, hR⟩ : ∃ R, R = ((xs.take n).any fun q => decide (q.name = s)) := ⟨_, rfl⟩
 rw [← hR] at C1 ⊢
 have C2 : Kp (∀ Bv W, Below w.heap.size w W → At W Bv 0 (.string s) → Calls Tryz.prog 98 #[.slice a n cap, .func (.func 99) #[] #[.pointer (some ⟨Bv, 0, none⟩)]] W fun e w' => e = .returned (.bool R) ∧ Below W.heap.size W w') := ⟨fun Bv W hB hv => by
  have C := Kp.mk (C1.out Bv W hB hv)
  clear hv hB C1 hR hc h2
  go_enter Tryz.func98, Tryz.ntmps98
  exact tl103⟩
 have q0 := new_at w (Go.Obj.cells #[.string s] 9)
 have hv0 : At (w.alloc (Go.Obj.cells #[.string s] 9)) w.heap.size 0 (.string s) := cells_at q0 rfl
 replace hv0 := Kp.mk hv0
 clear C1 hR hc h2 q0
 go_enter Tryz.func54, Tryz.ntmps54
 go_wp2_with fail
 refine (C2.out _ _ (bel_alloc _ _) hv0.out).mono ?_
 exact tl47
set_option maxRecDepth 100000 in
set_option maxHeartbeats 2000000 in
theorem hasFunc1 (q : FnD) (pa yb : Option Addr) (pc yc : Nat) (Bv : Nat) (s : ByteArray) (w : World) (hv : At w Bv 0 (.string s)) :
  Calls Tryz.prog 101 #[.agg #[.string q.name, .int .i64 q.link, .slice pa q.params.length pc, .int .i64 q.res, .slice yb q.blocks.length yc], .pointer (some ⟨Bv, 0, none⟩)] w fun e w' => e = .returned (.bool (decide (q.name = s))) ∧ Below w.heap.size w w' := by
 have hv2 : (w.alloc (Go.Obj.cells #[.string q.name, .int .i64 q.link, .slice pa q.params.length pc, .int .i64 q.res, .slice yb q.blocks.length yc] 53)).cell? ⟨Bv, 0, none⟩ = some (.string s) := at_keep hv (bel_alloc _ _)
 rw [← strB_eq]
 go_enter Tryz.func101, Tryz.ntmps101
 go_wp2_with fail
 go_ret
 exact ⟨rfl, bel_alloc _ _⟩
set_option maxRecDepth 100000 in
set_option maxHeartbeats 2000000 in
theorem hasFuncIx (a : Option Addr) (n cap : Nat) (xs : List FnD) (b o : Nat) (Bv : Nat) (s : ByteArray) (w : World) {lo : Nat} (hn : n ≤ xs.length) (hl : n ≤ 140737488355328) (hcap : n ≤ cap) (h2 : 0 < n → a = some ⟨b, o, none⟩) (hc : ∀ i (h : i < xs.length), ∃ vp vb, FcAt lo w b (o + i * 5) xs[i] vp vb) (hv : At w Bv 0 (.string s)) :
  Calls Tryz.prog 136 #[.slice a n cap, .func (.func 101) #[] #[.pointer (some ⟨Bv, 0, none⟩)]] w fun e w' => ∃ r : Int, e = .returned (.int .i64 r) ∧ decide (0 ≤ r) = ((xs.take n).any fun q => decide (q.name = s)) ∧ Below w.heap.size w w' := by
 have g1 : (n : Int) ≤ 140737488355328 := by omega
 obtain ⟨R, hR⟩ : ∃ R, R = ((xs.take n).any fun q => decide (q.name = s)) := ⟨_, rfl⟩
 have IFF : Kp (R = true ↔ ∃ i, i < n ∧ (xs.getD i fnD0).name = s) := ⟨by
  rw [hR, List.any_eq_true]
  constructor
  ·rintro ⟨x, hx, e⟩
   rw [List.mem_take_iff_getElem] at hx
   obtain ⟨i, hi, rfl⟩ := hx
   exact ⟨i, by omega, by rw [show xs.getD i fnD0 = xs[i] from fnD_get (by omega)]; simpa using e⟩
  ·rintro ⟨i, hi, e⟩
   refine ⟨xs[i]'(by omega), List.mem_take_iff_getElem.2 ⟨i, by omega, rfl⟩, ?_⟩
   rw [show xs.getD i fnD0 = xs[i]'(by omega) from fnD_get (by omega)] at e
   simpa using e⟩
 rw [← hR]
 replace h2 := Kp.mk h2
 replace hv := Kp.mk hv
 replace hc := Kp.mk hc
 clear hR
 go_enter Tryz.func136, Tryz.ntmps136
 go_wp2_with fail
 go_loopw [8] (fun s' wr => ∃ i : Nat, i ≤ n ∧ s' = .int .i64 i ∧ Kp (∀ j, j < i → (xs.getD j fnD0).name ≠ s) ∧ Below w.heap.size w wr) (fun s' _ => n - (intOf s').toNat)
 case atStart => exact ⟨0, Nat.zero_le _, rfl, ⟨fun j hj => absurd hj (by omega)⟩, Below.refl _ _⟩
 case round =>
  obtain ⟨i, hi, rfl, hd, hB⟩ := hrel
  by_cases hlt0 : i < n
  ·have hlt : i < xs.length := by omega
   have hlt' : (i : Int) < (n : Int) := by omega
   obtain rfl := h2.out (by omega)
   have hc := hc.out
   obtain ⟨vp, vb, H⟩ := hc i hlt
   have H' := H.keep hB
   obtain ⟨c0, c1, c2, c3, c4, hy⟩ := H'
   obtain ⟨_, _, ⟨⟨pa, pc, rfl, -, -⟩, -⟩, -, -⟩ := hy.p.ex
   obtain ⟨_, _, ⟨⟨yb, yc, rfl, -, -⟩, -⟩, -, -⟩ := hy.b.ex
   have hgd : xs.getD i fnD0 = xs[i] := fnD_get hlt
   have hdi : Kp (xs[i].name = s → R = true) := ⟨fun e => IFF.out.2 ⟨i, hlt0, by rw [hgd]; exact e⟩⟩
   have hdn : Kp (¬ xs[i].name = s → ∀ j, j < i + 1 → (xs.getD j fnD0).name ≠ s) := ⟨fun e j hj => by
    exact tl117⟩
   have C := Kp.mk (hasFunc1 xs[i] pa yb pc yc Bv s wr (at_keep hv.out hB))
   clear hc hgd hd hy H
   exact tl32
  ·exact tl67
set_option maxRecDepth 100000 in
set_option maxHeartbeats 2000000 in
theorem hasFuncI (a : Option Addr) (n cap : Nat) (xs : List FnD) (b o : Nat) (s : ByteArray) (w : World) {lo : Nat} (hn : n ≤ xs.length) (hl : n ≤ 140737488355328) (hcap : n ≤ cap) (h2 : 0 < n → a = some ⟨b, o, none⟩) (hc : ∀ i (h : i < xs.length), ∃ vp vb, FcAt lo w b (o + i * 5) xs[i] vp vb) :
  Calls Tryz.prog 56 #[.slice a n cap, .string s] w fun e w' => e = .returned (.bool ((xs.take n).any fun q => decide (q.name = s))) ∧ Below w.heap.size w w' := by
 have C1 : Kp (∀ Bv W, Below w.heap.size w W → At W Bv 0 (.string s) → Calls Tryz.prog 136 #[.slice a n cap, .func (.func 101) #[] #[.pointer (some ⟨Bv, 0, none⟩)]] W fun e w' => ∃ r : Int, e = .returned (.int .i64 r) ∧ decide (0 ≤ r) = ((xs.take n).any fun q => decide (q.name = s)) ∧ Below W.heap.size W w') := ⟨fun Bv W hB hv => hasFuncIx a n cap xs b o Bv s W hn hl hcap h2 (fun i h => by
  have q := hc i h
  obtain ⟨vp, vb, q⟩ := q
  exact ⟨vp, vb, q.keep hB⟩) hv⟩
 obtain ⟨R, hR⟩ : ∃ R, R = ((xs.take n).any fun q => decide (q.name = s)) := ⟨_, rfl⟩
 rw [← hR] at C1 ⊢
 have C2 : Kp (∀ Bv W, Below w.heap.size w W → At W Bv 0 (.string s) → Calls Tryz.prog 100 #[.slice a n cap, .func (.func 101) #[] #[.pointer (some ⟨Bv, 0, none⟩)]] W fun e w' => e = .returned (.bool R) ∧ Below W.heap.size W w') := ⟨fun Bv W hB hv => by
  have C := Kp.mk (C1.out Bv W hB hv)
  clear hv hB C1 hR hc h2
  go_enter Tryz.func100, Tryz.ntmps100
  exact tl103⟩
 have q0 := new_at w (Go.Obj.cells #[.string s] 9)
 have hv0 : At (w.alloc (Go.Obj.cells #[.string s] 9)) w.heap.size 0 (.string s) := cells_at q0 rfl
 replace hv0 := Kp.mk hv0
 clear C1 hR hc h2 q0
 go_enter Tryz.func56, Tryz.ntmps56
 go_wp2_with fail
 refine (C2.out _ _ (bel_alloc _ _) hv0.out).mono ?_
 exact tl47
end Go.Proofs.YtgdcgjlmkmdklaaGreatDoor
