/- Texts of one claim. -/
import Derived.Below
import Derived.BigQuiet
import Derived.Deep.DeepCutAuto
import Derived.Deep.DeepFit
import Derived.Deep.OwnRows
import Derived.Deep.RegionHeld3
import Derived.Deep.RegionLaw
import Derived.Deep.RegionWith
import Derived.Deep.Slices
import Derived.Great.BuildSlice
import Derived.Laws.BitsAllLaws
import Derived.Laws.Closers25b
import Derived.Laws.CopyOwn
import Derived.Laws.EntriesVeiled
import Derived.Laws.MathBits
import Derived.Laws.Tables
import Derived.Lib.AtoiAll
import Derived.Lib.AtoiErrMem
import Derived.Lib.ItoaLen
import Derived.Lib.ItoaMem
import Derived.Lib.ItoaNum
import Derived.Lib.LaidTab
import Derived.Lib.QuietBelow
import Derived.Lib.SliceRun
import Derived.Lib.SmallJoins
import Derived.LoopIn
import Derived.LoopNIn
import Derived.Maps.AppendAt
import Derived.Maps.RangeWalk
import Derived.OpenShut
import Derived.Outline
import Derived.OwnWalk
import Derived.OwnWalkIn
import Derived.ProofKit
import Derived.RangeFuncBound
import Derived.RangeFuncBox
import Derived.RangeFuncCalls
import Derived.RangeFuncLeaves
import Derived.RangeFuncNested
import Derived.Shelf.Abstract
import Derived.Shelf.Bits.Mul64
import Derived.Shelf.LaysM
import Derived.Shelf.Spec.BitsCarry
import Derived.Shelf.Strconv.Itoa0
import Derived.Shelf.Strconv.Itoa1
import Derived.Shelf.Strconv.Itoa2
import Derived.Shelf.Strconv.Itoa3
import Derived.Shelf.Strconv.Itoa4
import Derived.Shelf.Strings.Builder1
import Derived.Shelf.Strings.Builder2
import Derived.Shelf.Strings.BuilderF
import Derived.Shelf.Strings.BuilderK
import Derived.Shelf.Strings.OnBuilder
import Derived.SizedLaws
import Derived.Stop.LaidErr
import Derived.TacticsInMore
import Derived.WalkKit
import Derived.WalkLawsBesides
import Derived.Test.YtgdcgjlmkmdklaaGreatDoorRows
namespace Go.Proofs.YtgdcgjlmkmdklaaGreatDoor
open Go.ChangeShapes Go.WideShapes Go.ChangeAt Go.RowKit
open Go.Lib
theorem tl1 {P : Prop} (h : P := by
 rw [← hOW] at CW1 WA ⊢
 have hb0 := (Below.refl W0.heap.size W0).drew
 have R0 := Kp.mk (fun {ops : Array Oper} {Q : Exit → Act → World → Prop} {id : Nat} {a : Act} hm h => wp_region_held_drew (P := Tryz.prog) (ops := ops) (Q := Q) (id := id) (a := a) (w := W0) (S := (fun W' => Below W0.heap.size W0 W' ∧ W'.cell? ⟨w.heap.size, 0, none⟩ = some (.slice a1 gs.length c1) ∧ W'.cell? ⟨w.heap.size, 1, none⟩ = some (.slice a2 fs.length c2) ∧ W'.cell? ⟨w.heap.size, 2, none⟩ = some (.string name) ∧ W'.cell? ⟨w.heap.size, 3, none⟩ = some (.int .i64 link) ∧ W'.cell? ⟨w.heap.size, 4, none⟩ = some (.slice a3 params.length c3) ∧ W'.cell? ⟨w.heap.size, 5, none⟩ = some (.int .i64 res) ∧ W'.cell? ⟨w.heap.size, 6, none⟩ = some (.slice a4 blocks.length c4) ∧ W'.cell? ⟨w.heap.size, 7, none⟩ = some (.slice a5 ts.length c5) ∧ W'.cell? ⟨w.heap.size, 8, none⟩ = some (.int .i64 bk) ∧ W'.cell? ⟨w.heap.size + 1, 0, none⟩ = some (.int .i64 op) ∧ W'.cell? ⟨w.heap.size + 1, 1, none⟩ = some (.int .i64 ty) ∧ W'.cell? ⟨w.heap.size + 1, 2, none⟩ = some (.int .i64 fl) ∧ W'.cell? ⟨w.heap.size + 1, 3, none⟩ = some (.int .i64 pr) ∧ W'.cell? ⟨w.heap.size + 1, 4, none⟩ = some (.int .i64 ca) ∧ W'.cell? ⟨w.heap.size + 1, 5, none⟩ = some (.int .i64 sz) ∧ W'.cell? ⟨w.heap.size + 1, 6, none⟩ = some (.slice aa args.length ca') ∧ W'.cell? ⟨w.heap.size + 1, 7, none⟩ = some (.slice al bl.length cl) ∧ W'.cell? ⟨w.heap.size + 1, 8, none⟩ = some (.slice as' ws.length cs))) hm (SK.out _ hb0) h)
 clear hNM hOW hRE hwn sC0 iC0 ha hl hs hm hw
 cases NMv with
 | false =>
  clear CW1 CR CA WA
  go_enter Tryz.func107, Tryz.ntmps107
  go_upto_region 1 with fail
  rw [← hW.out]
  refine R0.out (by kernel_rfl) (fun hHeld => ?_)
  refine tks 2 [0, 1] hHeld ?_
  try simp only [tkP]
  refine rdy 2 fun K hK => ?_
  go_simp
  refine (CF.out _ hb0).mono ?_
  rintro e w1 ⟨⟨av, cv, rfl⟩, hb⟩
  have hb1 := hb0.trans hb
  clear hb
  refine hK.out _ _ (SK.out _ hb1) (fun hHeld => ?_)
  clear hK K
  try simp only [tkP]
  refine rdy 3 fun K hK => ?_
  go_simp
  refine (CN.out _ _ _).mono ?_
  exact tl139
 | true =>
  cases OWv with
  | false =>
   clear CR CA WA
   go_enter Tryz.func107, Tryz.ntmps107
   go_upto_region 1 with fail
   rw [← hW.out]
   refine R0.out (by kernel_rfl) (fun hHeld => ?_)
   refine tks 2 [0, 1] hHeld ?_
   try simp only [tkP]
   refine rdy 2 fun K hK => ?_
   go_simp
   refine (CF.out _ hb0).mono ?_
   rintro e w1 ⟨⟨av, cv, rfl⟩, hb⟩
   have hb1 := hb0.trans hb
   clear hb
   refine hK.out _ _ (SK.out _ hb1) (fun hHeld => ?_)
   clear hK K
   try simp only [tkP]
   refine rdy 3 fun K hK => ?_
   go_simp
   refine (CN.out _ _ _).mono ?_
   exact tl138
  | true =>
   have WA' := Kp.mk (WA.out rfl)
   clear WA
   cases REv with
   | false =>
    clear CA WA'
    go_enter Tryz.func107, Tryz.ntmps107
    go_upto_region 1 with fail
    rw [← hW.out]
    refine R0.out (by kernel_rfl) (fun hHeld => ?_)
    refine tks 2 [0, 1] hHeld ?_
    try simp only [tkP]
    refine rdy 2 fun K hK => ?_
    go_simp
    refine (CF.out _ hb0).mono ?_
    rintro e w1 ⟨⟨av, cv, rfl⟩, hb⟩
    have hb1 := hb0.trans hb
    clear hb
    refine hK.out _ _ (SK.out _ hb1) (fun hHeld => ?_)
    clear hK K
    try simp only [tkP]
    refine rdy 3 fun K hK => ?_
    go_simp
    refine (CN.out _ _ _).mono ?_
    exact tl137
   | true =>
    by_cases hlen : wn = args.length
    ·have m1 : ((wn : Int) == (args.length : Int)) = true := by simp [hlen]
     rw [show decide (wn = args.length) = true from decide_eq_true hlen]
     replace hlen := Kp.mk hlen
     exact tl164
    ·have m1 : ((wn : Int) == (args.length : Int)) = false := nb (by omega)
     rw [show decide (wn = args.length) = false from decide_eq_false hlen]
     clear hlen
     exact tl164) : P := h
theorem tl2 {P : Prop} (h : P := by
 go_enter Tryz.func109, Tryz.ntmps109
 go_upto_region 1 with fail
 rw [← hW.out]
 have hx := XS.out W0 (Below.refl _ _)
 have s0 : At W0 w.heap.size 0 _ := cells_at hx rfl
 have s1 : At W0 w.heap.size 1 _ := cells_at hx rfl
 have s2 : At W0 w.heap.size 2 _ := cells_at hx rfl
 have s3 : At W0 w.heap.size 3 _ := cells_at hx rfl
 have s4 : At W0 w.heap.size 4 _ := cells_at hx rfl
 have s5 : At W0 w.heap.size 5 _ := cells_at hx rfl
 have s6 : At W0 w.heap.size 6 _ := cells_at hx rfl
 have s7 : At W0 w.heap.size 7 _ := cells_at hx rfl
 have s8 : At W0 w.heap.size 8 _ := cells_at hx rfl
 clear hx
 go_wp2_with fail
 refine (WA.out _ BB).mono ?_
 rintro e w1 ⟨wv, rfl, hwv, hb1⟩
 clear s0 s1 s2 s3 s4 s5 s6 s7 s8
 obtain ⟨bw, ow, ⟨⟨aw, cw, rfl, p1, p2⟩, p3⟩, -, pc⟩ := hwv.ex
 have g2 : (wan.length : Int) ≤ 140737488355328 := by omega
 have PC : Kp (∀ W, Below w1.heap.size w1 W → ∀ i, i < wan.length → At W bw (ow + i) (.int .i64 (wan.getD i 0))) := ⟨fun W hB i hi => by
  rw [show wan.getD i 0 = wan[i] by simp [List.getD_eq_getElem?_getD, hi]]
  exact at_keep (pc i hi) hB⟩
 replace p2 := Kp.mk p2
 clear pc hwv
 go_wp2_with fail
 refine (CA.out _).mono ?_
 rintro e w2 ⟨rfl, hb2⟩
 have hB02 := bel_trans hb1 hb2
 go_wp2_with fail
 go_loopw [14] (fun r wr => ∃ i : Nat, i ≤ args.length ∧ r = .int .i64 i ∧ Kp (∀ j, j < i → (args.getD j default).t = wan.getD j 0 ∧ opB gs.length ts (args.getD j default) = true) ∧ Below w2.heap.size w2 wr) (fun r _ => args.length - (intOf r).toNat)
 case atStart => exact ⟨0, Nat.zero_le _, rfl, ⟨fun j hj => absurd hj (by omega)⟩, Below.refl _ _⟩
 case round =>
  obtain ⟨i, hi, rfl, hd, hB⟩ := hrel
  have hB0 := bel_trans hB02 hB
  have hBw := bel_trans BB hB0
  by_cases hlt : i < args.length
  ·obtain rfl := k2.out (by omega)
   have hll := hlen.out
   obtain rfl := p2.out (by omega)
   have hlt' : (i : Int) < (args.length : Int) := by omega
   have hltw : (i : Int) < (wan.length : Int) := by omega
   obtain ⟨oq, hoq⟩ : ∃ oq, oq = args.getD i default := ⟨_, rfl⟩
   obtain ⟨wi, hwi⟩ : ∃ wi, wi = wan.getD i 0 := ⟨_, rfl⟩
   have hac := AC.out _ hBw i hlt
   rw [← hoq] at hac
   obtain ⟨a0, a1', a2', a3'⟩ := hac
   obtain ⟨w3, hw3⟩ : ∃ w3, w3 = wr.alloc (Go.Obj.cells #[.int .i64 oq.k, .int .i64 oq.t, .int .i64 oq.i, .int .u64 oq.w] 135) := ⟨_, rfl⟩
   have hb3 : Below wr.heap.size wr w3 := by rw [hw3]; exact bel_alloc _ _
   have x3 := new_at wr (Go.Obj.cells #[.int .i64 oq.k, .int .i64 oq.t, .int .i64 oq.i, .int .u64 oq.w] 135)
   rw [← hw3] at x3
   have q0 : At w3 wr.heap.size 0 _ := cells_at x3 rfl
   have q1 : At w3 wr.heap.size 1 _ := cells_at x3 rfl
   have q2 : At w3 wr.heap.size 2 _ := cells_at x3 rfl
   have q3 : At w3 wr.heap.size 3 _ := cells_at x3 rfl
   have hB3 := bel_trans hB hb3
   have hx := XS.out w3 (bel_trans hB02 hB3)
   have s0 : At w3 w.heap.size 0 _ := cells_at hx rfl
   have s1 : At w3 w.heap.size 1 _ := cells_at hx rfl
   have s2 : At w3 w.heap.size 2 _ := cells_at hx rfl
   have s3 : At w3 w.heap.size 3 _ := cells_at hx rfl
   have s4 : At w3 w.heap.size 4 _ := cells_at hx rfl
   have s5 : At w3 w.heap.size 5 _ := cells_at hx rfl
   have s6 : At w3 w.heap.size 6 _ := cells_at hx rfl
   have s7 : At w3 w.heap.size 7 _ := cells_at hx rfl
   have s8 : At w3 w.heap.size 8 _ := cells_at hx rfl
   have pw := PC.out w3 (bel_trans hb2 hB3) i (by omega)
   rw [← hwi] at pw
   have COi := Kp.mk (fun W (hW : Below w3.heap.size w3 W) => CO.out W (bel_trans hBw (bel_trans hb3 hW)) i hlt)
   rw [← hoq] at COi
   have hB3w := bel_trans hBw hb3
   have hiff := Kp.mk (fun t => IFF.out.1 t i hlt)
   rw [← hoq, ← hwi] at hiff
   replace hoq := Kp.mk hoq
   replace hwi := Kp.mk hwi
   replace hw3 := Kp.mk hw3
   clear hx x3 hll
   by_cases ety : oq.t = wi
   ·have mt : (oq.t != wi) = false := by simp [ety]
    have kq0 := cell_regrown q0
    have kq1 := cell_regrown q1
    have kq2 := cell_regrown q2
    have kq3 := cell_regrown q3
    have ks0 := cell_regrown s0
    have ks1 := cell_regrown s1
    have ks2 := cell_regrown s2
    have ks3 := cell_regrown s3
    have ks4 := cell_regrown s4
    have ks5 := cell_regrown s5
    have ks6 := cell_regrown s6
    have ks7 := cell_regrown s7
    have ks8 := cell_regrown s8
    have kpw := cell_regrown pw
    cases ho : opB gs.length ts oq with
    | true =>
     have hd' : Kp (∀ j, j < i + 1 → (args.getD j default).t = wan.getD j 0 ∧ opB gs.length ts (args.getD j default) = true) := ⟨fun j hj => by
      by_cases e : j = i
      ·rw [e, ← hoq.out, ← hwi.out]; exact ⟨ety, ho⟩
      ·exact hd.out j (by omega)⟩
     rw [ho] at COi
     replace ety := Kp.mk ety
     clear ho hd
     have IO2 : Kp (∀ d os, Calls Tryz.prog 142 _ (Go.Sort.grow (redrawn w3 d) os) _) := ⟨fun d os => Calls.regrown_of (COi.out _ (below_regrown w3 d os))⟩
     go_upto_region 5 with fail
     rw [← hw3.out]
     refine wp_region_quiet_below (by kernel_rfl) (by kernel_rfl) ?_
     repeat (go_big_quiet_step (fail))
     go_big_quiet_step (exact IO2.out _ _)
     repeat (go_big_quiet_step (fail))
     refine wpQuiet_nil ?_
     intro _ hw'
     obtain ⟨⟨dq, osq⟩, hw''⟩ := hw'
     subst hw''
     have hq := below_regrown w3 dq osq
     go_wp2_with fail
     exact ⟨⟨i + 1, by omega, by go_num, hd', bel_trans hB3 hq⟩, by simp [intOf]; omega⟩
    | false =>
     have hf : Kp (R = false) := ⟨by
      rw [Bool.eq_false_iff]
      intro t
      rw [(hiff.out t).2] at ho
      cases ho⟩
     rw [ho] at COi
     replace ety := Kp.mk ety
     clear ho hd
     have IO2 : Kp (∀ d os, Calls Tryz.prog 142 _ (Go.Sort.grow (redrawn w3 d) os) _) := ⟨fun d os => Calls.regrown_of (COi.out _ (below_regrown w3 d os))⟩
     go_upto_region 5 with fail
     rw [← hw3.out]
     refine wp_region_quiet_below (by kernel_rfl) (by kernel_rfl) ?_
     repeat (go_big_quiet_step (fail))
     go_big_quiet_step (exact IO2.out _ _)
     repeat (go_big_quiet_step (fail))
     refine wpQuiet_nil ?_
     intro _ hw'
     obtain ⟨⟨dq, osq⟩, hw''⟩ := hw'
     subst hw''
     have hq := below_regrown w3 dq osq
     go_wp2_with fail
     go_ret
     exact ⟨ret_bool (by rw [hf.out]; rfl), bel_trans hB3w hq⟩
   ·have mt := nbT ety
    have hf : Kp (R = false) := ⟨by
     rw [Bool.eq_false_iff]
     intro t
     exact ety (hiff.out t).1⟩
    clear ety hd
    go_upto_region 5 with fail
    rw [← hw3.out]
    go_quiet (fail)
    go_wp2_with fail
    go_ret
    exact ⟨ret_bool (by rw [hf.out]; rfl), below_drewN hB3w _⟩
  ·have hlt' : ¬ (i : Int) < (args.length : Int) := by omega
   have hT : Kp (R = true) := ⟨IFF.out.2 (fun j hj => hd.out j (by omega))⟩
   clear hd
   go_wp2_with fail
   refine (CC.out _ hBw).mono ?_
   rintro e w4 ⟨rfl, hb4⟩
   go_wp2_with fail
   go_ret
   exact ⟨ret_bool (by rw [hT.out]; rfl), bel_trans hBw hb4⟩) : P := h
theorem tl3 {P : Prop} (h : P := by
 clear SK IV0 CV hb0
 have q6 : At w3 SB 6 _ := cells_at I1.s rfl
 have I1K := Kp.mk I1
 clear I1
 go_wp2_with fail
 go_loopw [27] (fun r wr => ∃ B bk : Nat, B ≤ blocks.length ∧ r = .int .i64 B ∧ Kp (∀ j, j < B → blF gs.length ts fs F k j (blocks.getD j []) = none) ∧ Kp (BdI w (w.heap.size + 1) SB #[.slice ag gs.length kg, .slice (some ⟨b, o, none⟩) fs.length kf, .string name, .int .i64 link, .slice ap params.length kp, .int .i64 res, .slice ab blocks.length kb, .slice av ts.length cv, .int .i64 bk] av ts wr)) (fun r _ => blocks.length - (intOf r).toNat)
 case atStart => exact ⟨0, 0, Nat.zero_le _, rfl, ⟨fun j hj => absurd hj (by omega)⟩, I1K⟩
 case round =>
  clear q6 I1K
  obtain ⟨B, bk, hBl, rfl, hd, hI⟩ := hrel
  by_cases hlt : B < blocks.length
  ·obtain rfl := zab.out (by omega)
   have hlt' : (B : Int) < (blocks.length : Int) := by omega
   obtain ⟨vi, c0, hv⟩ := BC.out _ hI.out.b B hlt
   have FIB := Kp.mk (fun W ai ki i I hy hi hp => FI.out W av cv B (w.heap.size + 1) SB #[.slice ag gs.length kg, .slice (some ⟨b, o, none⟩) fs.length kf, .string name, .int .i64 link, .slice ap params.length kp, .int .i64 res, .slice (some ⟨b4, o4, none⟩) blocks.length kb, .slice av ts.length cv, .int .i64 B] hcv I hlt ai ki i hy hi hp)
   have hget := Kp.mk (fun (x : FtD) (hq : blF gs.length ts fs F k B (blocks.getD B []) = some x) => show R = some x by rw [RB.out]; exact firstF_hit hlt hd.out hq)
   have hnone := Kp.mk (fun (hq : blF gs.length ts fs F k B (blocks.getD B []) = none) => show ∀ j, j < B + 1 → blF gs.length ts fs F k j (blocks.getD j []) = none from fun j hj => by
    exact tl161)
   have BCi0 : Kp (∀ W, Below w.heap.size w W → ∃ vi, At W b4 (o4 + B) vi ∧ Ins lo W vi (blocks.getD B [])) := ⟨fun W hW => BC.out W hW B hlt⟩
   have hBase := Kp.mk (BC0.out B hlt)
   generalize blocks.getD B [] = ys at *
   obtain ⟨vi0, c00, hv0⟩ := hBase.out
   obtain ⟨bi, oi, ⟨⟨ai, ki, rfl, i1, i2⟩, i3⟩, -, -⟩ := hv.ex
   have g5 : (ys.length : Int) ≤ 140737488355328 := by omega
   have hvi : vi0 = .slice ai ys.length ki := by
    have q := at_keep c00 hI.out.b
    exact Option.some.inj (q.symm.trans c0)
   rw [hvi] at hv0
   have BCi : Kp (∀ W, Below w.heap.size w W → Ins lo W (.slice ai ys.length ki) ys) := ⟨fun W hW => hv0.keep hW⟩
   clear hBase BCi0 hvi c00 hv0
   obtain ⟨w5, hw5⟩ : ∃ w5, w5 = wr.alloc (Go.Obj.cells #[.slice ai ys.length ki] 59) := ⟨_, rfl⟩
   have hb5 : Below wr.heap.size wr w5 := by rw [hw5]; exact bel_alloc _ _
   have x5 : w5.heap[wr.heap.size]? = some (Go.Obj.cells #[.slice ai ys.length ki] 59) := by rw [hw5]; exact new_at wr _
   have I5 := hI.out.keep hb5
   have e8 : At w5 SB 8 _ := cells_at I5.s rfl
   have f8 := rw_cells I5.s 8
   obtain ⟨WBB, hWBB⟩ : ∃ WBB, WBB = wr.heap.size := ⟨_, rfl⟩
   have hlS : SB < wr.heap.size := (Array.getElem?_eq_some_iff.1 hI.out.s).1
   have I6 := I5.set (ds := #[.slice ag gs.length kg, .slice (some ⟨b, o, none⟩) fs.length kf, .string name, .int .i64 link, .slice ap params.length kp, .int .i64 res, .slice (some ⟨b4, o4, none⟩) blocks.length kb, .slice av ts.length cv, .int .i64 B]) 8 (.int .i64 B) rfl hne hle
   have x6 := setO (i := 8) (g' := SB) x5 (.int .i64 B) (by omega)
   obtain ⟨w6, hw6⟩ : ∃ w6, w6 = w5.setCell ⟨SB, 8, none⟩ (.int .i64 B) := ⟨_, rfl⟩
   rw [← hw6] at I6 x6
   replace hw5 := Kp.mk hw5
   replace hw6 := Kp.mk hw6
   replace I6 := Kp.mk I6
   rw [← hWBB] at x6
   replace x6 := Kp.mk x6
   replace i2 := Kp.mk i2
   clear I5 hI hd hb5 x5 hv
   go_upto_region 5 with fail
   rw [← hw5.out]
   go_upto_region 6 with fail
   rw [← hw6.out]
   rw [← hWBB]
   replace hWBB := Kp.mk hWBB
   have y0' : At w6 WBB 0 _ := cells_at x6.out rfl
   have s8 : At w6 SB 8 _ := cells_at I6.out.s rfl
   clear e8 f8
   by_cases h0 : (ys.length : Int) = 0
   ·have hR : Kp (R = some ((4, (k : Int), (B : Int), (-1 : Int)) : FtD)) := ⟨hget.out (4, (k : Int), (B : Int), (-1 : Int)) (by unfold blF; rw [if_pos (by omega)])⟩
    have n0 : ((ys.length : Int) == 0) = true := by simp [h0]
    replace h0 := Kp.mk h0
    obtain ⟨hRw, hBl, hCl, hFz, z0, z1, z2, z3, y0, y1, y2, y3⟩ := four_of I6.out.r I6.out.b (Nat.le_succ _)
    have u0 := hFz 0
    have u1 := hFz 1
    have u2 := hFz 2
    have u3 := hFz 3
    have hS := Kp.mk (fun a b c d => belFour hBl hCl a b c d)
    obtain ⟨p0, p1, p2, p3⟩ := putFour hRw (Value.int .i64 4) (Value.int .i64 k) (Value.int .i64 B) (Value.int .i64 (-1))
    replace hRw := Kp.mk hRw
    clear hBl hCl hFz
    go_wp2_with fail
    refine bodyPost_ret (v := .agg #[Value.int .i64 4, Value.int .i64 k, Value.int .i64 B, Value.int .i64 (-1)]) ?_ rfl ⟨by rw [hR.out]; rfl, hS.out _ _ _ _⟩
    simp [results, Tryz.results25, go_sem, p0, p1, p2, p3]
   ·have n0 := nb h0
    have hrf := Below.refl w6.heap.size w6
    go_wp2_with fail
    go_loopw [45] (fun r wr => ∃ i : Nat, i ≤ ys.length ∧ r = .int .i64 i ∧ Kp (∀ j, j < i → atF gs.length ts fs F B ys j = 0) ∧ Below w6.heap.size w6 wr) (fun r _ => ys.length - (intOf r).toNat)
    case atStart => exact ⟨0, Nat.zero_le _, rfl, ⟨fun j hj => absurd hj (by omega)⟩, hrf⟩
    case round =>
     clear hrf y0' s8
     obtain ⟨i, hi, rfl, hd, hBq⟩ := hrel
     have Iq := Kp.mk (I6.out.keep hBq)
     by_cases hlt2 : i < ys.length
     ·have hlt2' : (i : Int) < (ys.length : Int) := by omega
      have xq := kept_at x6.out hBq
      have y0' : At wr WBB 0 _ := cells_at xq rfl
      have s0 : At wr SB 0 _ := cells_at Iq.out.s rfl
      have s1 : At wr SB 1 _ := cells_at Iq.out.s rfl
      have s2 : At wr SB 2 _ := cells_at Iq.out.s rfl
      have s3 : At wr SB 3 _ := cells_at Iq.out.s rfl
      have s4 : At wr SB 4 _ := cells_at Iq.out.s rfl
      have s5 : At wr SB 5 _ := cells_at Iq.out.s rfl
      have s6 : At wr SB 6 _ := cells_at Iq.out.s rfl
      have s7 : At wr SB 7 _ := cells_at Iq.out.s rfl
      have s8 : At wr SB 8 _ := cells_at Iq.out.s rfl
      have FIi := Kp.mk (FIB.out _ ai ki i Iq.out (BCi.out _ Iq.out.b) hlt2 hd.out)
      have HIT := Kp.mk (fun (q : ¬ atF gs.length ts fs F B ys i = 0) => hget.out _ (blF_hit (fn := k) hlt2 hd.out q))
      have hnx : Kp (atF gs.length ts fs F B ys i = 0 → ∀ j, j < i + 1 → atF gs.length ts fs F B ys j = 0) := ⟨fun q j hj => by
       exact tl144⟩
      generalize atF gs.length ts fs F B ys i = AT at *
      clear hd xq
      by_cases hC : AT = 0
      ·subst hC
       have hnx' := Kp.mk (hnx.out rfl)
       clear HIT hnx
       go_wp2_with fail
       refine FIi.out.mono ?_
       rintro e w7 ⟨rfl, hb7⟩
       go_wp2_with fail
       exact ⟨⟨i + 1, by omega, by go_num, hnx', bel_trans hBq hb7⟩, by simp [intOf]; omega⟩
      ·have hR : Kp (R = some ((AT, (k : Int), (B : Int), (i : Int)) : FtD)) := ⟨HIT.out hC⟩
       have nC := nbT hC
       have mC := nb hC
       clear HIT hnx hC
       go_wp2_with fail
       refine FIi.out.mono ?_
       rintro e w7 ⟨rfl, hb7⟩
       have I7 := Kp.mk (Iq.out.keep hb7)
       clear s0 s1 s2 s3 s4 s5 s6 s7 s8 y0'
       have s8 : At w7 SB 8 _ := cells_at I7.out.s rfl
       obtain ⟨hRw, hBl, hCl, hFz, z0, z1, z2, z3, y0, y1, y2, y3⟩ := four_of I7.out.r I7.out.b (Nat.le_succ _)
       have u0 := hFz 0
       have u1 := hFz 1
       have u2 := hFz 2
       have u3 := hFz 3
       have hS := Kp.mk (fun a b c d => belFour hBl hCl a b c d)
       obtain ⟨p0, p1, p2, p3⟩ := putFour hRw (Value.int .i64 AT) (Value.int .i64 k) (Value.int .i64 B) (Value.int .i64 i)
       replace hRw := Kp.mk hRw
       clear hBl hCl hFz
       go_wp2_with fail
       refine bodyPost_ret (v := .agg #[Value.int .i64 AT, Value.int .i64 k, Value.int .i64 B, Value.int .i64 i]) ?_ rfl ⟨by rw [hR.out]; rfl, hS.out _ _ _ _⟩
       simp [results, Tryz.results25, go_sem, p0, p1, p2, p3]
     ·have hlt2' : ¬ (i : Int) < (ys.length : Int) := by omega
      have hn0 := Kp.mk (hnone.out (blF_none (by omega) (fun j hj => hd.out j (by omega))))
      clear hd
      go_wp2_with fail
      exact ⟨⟨B + 1, B, by omega, by go_num, hn0, Iq⟩, by simp [intOf]; omega⟩
  ·have hlt' : ¬ (B : Int) < (blocks.length : Int) := by omega
   have hR : Kp (R = none) := ⟨by rw [RB.out]; exact firstF_none (fun j hj => hd.out j (by omega))⟩
   clear hd
   obtain ⟨hRw, hBl, hCl, hFz, z0, z1, z2, z3, y0, y1, y2, y3⟩ := four_of hI.out.r hI.out.b (Nat.le_succ _)
   have u0 := hFz 0
   have u1 := hFz 1
   have u2 := hFz 2
   have u3 := hFz 3
   have hS := Kp.mk (fun a b c d => belFour hBl hCl a b c d)
   obtain ⟨p0, p1, p2, p3⟩ := putFour hRw (Value.int .i64 0) (Value.int .i64 0) (Value.int .i64 0) (Value.int .i64 0)
   replace hRw := Kp.mk hRw
   clear hBl hCl hFz
   go_wp2_with fail
   refine bodyPost_ret (v := .agg #[Value.int .i64 0, Value.int .i64 0, Value.int .i64 0, Value.int .i64 0]) ?_ rfl ⟨by rw [hR.out]; rfl, hS.out _ _ _ _⟩
   simp [results, Tryz.results25, go_sem, p0, p1, p2, p3]) : P := h
theorem tl4 {P : Prop} (h : P := by
 go_wp2_with fail
 clear y0 y1 y2 y3 y4 x0 x1
 go_loopw [8] (fun r wz => ∃ i : Nat, i ≤ params.length ∧ r = .int .i64 i ∧ Kp (∀ j, j < i → vtB (params.getD j 0) = true) ∧ Below wp.heap.size wp wz) (fun r _ => params.length - (intOf r).toNat)
 case atStart => exact ⟨0, Nat.zero_le _, rfl, ⟨fun j hj => absurd hj (by omega)⟩, hBp⟩
 case round =>
  clear hBp
  obtain ⟨i, hi, rfl, hd, hBz⟩ := hrel
  have hB2 := bel_trans hB1 hBz
  have B4 := bel_trans B3 hBz
  obtain ⟨y0, y1, y2, y3, y4⟩ := XF.out _ hB2
  by_cases hlt : i < params.length
  ·obtain rfl := p2.out (by omega)
   have hlt' : (i : Int) < (params.length : Int) := by omega
   have c0 := PC.out _ (bel_trans B1 hB2) i hlt
   have CTi := Kp.mk (fun w => CT.out (params.getD i 0) w)
   cases hv : vtB (params.getD i 0) with
   | false =>
    have hf : Kp (R = false) := ⟨by
     have : AP = false := by
      exact tl159
     rw [hHE.out, this]; simp⟩
    rw [hv] at CTi
    clear hv hHE hd
    generalize params.getD i 0 = u at *
    go_wp2_with fail
    refine (CTi.out _).mono ?_
    rintro e w2 ⟨rfl, rfl⟩
    go_wp2_with fail
    go_ret
    exact ⟨ret_bool (by rw [hf.out]; rfl), B4⟩
   | true =>
    have hd' : Kp (∀ j, j < i + 1 → vtB (params.getD j 0) = true) := ⟨fun j hj => by
     exact tl158⟩
    rw [hv] at CTi
    clear hv hd
    generalize params.getD i 0 = u at *
    go_wp2_with fail
    refine (CTi.out _).mono ?_
    rintro e w2 ⟨rfl, rfl⟩
    go_wp2_with fail
    exact ⟨⟨i + 1, by omega, by go_num, hd', hBz⟩, by simp [intOf]; omega⟩
  ·have hlt' : ¬ (i : Int) < (params.length : Int) := by omega
   have hAP' := hAP.out.2 (fun j hj => hd.out j (by omega))
   replace hHE : Kp (R = (decide (decide (link = 0) = decide (blocks.length = 0)) && SM)) := ⟨by rw [hHE.out, hAP']; simp⟩
   have CSi := Kp.mk (CS.out _ (bel_trans B1 hB2))
   clear hAP' hd
   by_cases q1 : link = 0
   ·subst q1
    by_cases q2 : (blocks.length : Int) = 0
    ·have G : Kp ((!R) = !SM) := ⟨(lnk_lem hHE.out).1 (by omega)⟩
     have n2 : ((blocks.length : Int) == 0) = true := by simp [q2]
     replace q2 := Kp.mk q2
     exact tl149
    ·have G : Kp ((!R) = true) := ⟨(lnk_lem hHE.out).2 (by omega)⟩
     have n2 := nb q2
     clear q2
     go_wp2_with fail
     go_ret
     exact ⟨ret_bool (by rw [G.out]), B4⟩
   ·have n1 := nb q1
    by_cases q2 : (blocks.length : Int) = 0
    ·have G : Kp ((!R) = true) := ⟨(lnk_lem hHE.out).2 (by omega)⟩
     have n2 : ((blocks.length : Int) == 0) = true := by simp [q2]
     replace q2 := Kp.mk q2
     clear q1
     go_wp2_with fail
     go_ret
     exact ⟨ret_bool (by rw [G.out]), B4⟩
    ·have G : Kp ((!R) = !SM) := ⟨(lnk_lem hHE.out).1 (by omega)⟩
     have n2 := nb q2
     clear q1 q2
     exact tl149) : P := h
theorem tl5 {P : Prop} (h : P := by
 obtain ⟨b, o, ⟨⟨ab, cb, rfl, s1, s2⟩, s3⟩, -, hc⟩ := h.ex
 have g1 : (bl.length : Int) ≤ 140737488355328 := by omega
 have g5 : (n4 : Int) ≤ 140737488355328 := by omega
 have TG : Kp (∀ w, Calls Tryz.prog 223 #[.agg #[.int .i64 op, .int .i64 ty, .slice a n c, .slice ab bl.length cb]] w fun e w' => e = .returned (.slice ab bl.length cb) ∧ Below w.heap.size w w') := ⟨fun w => jnTgt op ty a ab n c bl.length cb w⟩
 obtain ⟨W0, hW⟩ : ∃ W0, W0 = w.alloc (scC (.slice a1 n1 c1) (.slice a2 n2 c2) name link (.slice a3 n3 c3) res (.slice a4 n4 c4) (.slice a5 n5 c5) bk) := ⟨_, rfl⟩
 have BB : Below w.heap.size w W0 := by rw [hW]; exact bel_alloc w _
 have XS : Kp (∀ W, Below W0.heap.size W0 W → At W w.heap.size 6 (.slice a4 n4 c4)) := ⟨fun W hB => by
  have q := new_at w (scC (.slice a1 n1 c1) (.slice a2 n2 c2) name link (.slice a3 n3 c3) res (.slice a4 n4 c4) (.slice a5 n5 c5) bk)
  rw [← hW] at q
  exact cells_at (kept_at q hB) rfl⟩
 have LC : Kp (∀ W, Below W0.heap.size W0 W → ∀ j (h : j < bl.length), At W b (o + j) (.int .i64 (bl.getD j 0))) := ⟨fun W hB j h => by
  rw [show bl.getD j 0 = bl[j] by simp [List.getD_eq_getElem?_getD, h]]
  exact at_keep (hc j h) (bel_trans BB hB)⟩
 have IX : Kp (∀ z w, Calls Tryz.prog 31 #[.int .i64 z, .int .i64 n4] w fun e w' => e = .returned (.bool (isIx z n4)) ∧ w' = w) := ⟨fun z w => isIx_e z n4 w hn⟩
 have ATG := Kp.mk (all_iff_getD bl (0 : Int) (fun b => decide (0 ≤ b) && decide (b < n4)))
 generalize (bl.all fun b => decide (0 ≤ b) && decide (b < n4)) = R at *
 replace hW := Kp.mk hW
 replace s2 := Kp.mk s2
 clear hc h
 go_enter Tryz.func108, Tryz.ntmps108
 go_upto_region 1 with fail
 rw [← hW.out]
 go_wp2_with fail
 refine (TG.out _).mono ?_
 rintro e w1 ⟨rfl, hb1⟩
 go_wp2_with fail
 go_loopw [10] (fun r wr => wr = w1 ∧ ∃ i : Nat, i ≤ bl.length ∧ r = .int .i64 i ∧ Kp (∀ j, j < i → isIx (bl.getD j 0) n4 = true)) (fun r _ => bl.length - (intOf r).toNat)
 case atStart => exact ⟨rfl, 0, Nat.zero_le _, rfl, ⟨fun j hj => absurd hj (by omega)⟩⟩
 case round =>
  obtain ⟨rfl, i, hi, rfl, hd⟩ := hrel
  have x6 := XS.out _ hb1
  by_cases hlt : i < bl.length
  ·obtain rfl := s2.out (by omega)
   have hlt' : (i : Int) < (bl.length : Int) := by omega
   have c0 := LC.out _ hb1 i hlt
   have IXi := Kp.mk (fun w => IX.out (bl.getD i 0) w)
   cases hq : isIx (bl.getD i 0) n4 with
   | false =>
    have hf : Kp (R = false) := ⟨by
     rw [Bool.eq_false_iff]
     intro t
     have := ATG.out.1 t i hlt
     rw [show isIx (bl.getD i 0) n4 = (decide (0 ≤ bl.getD i 0) && decide (bl.getD i 0 < n4)) from rfl, this] at hq
     cases hq⟩
    rw [hq] at IXi
    clear hq hd
    generalize bl.getD i 0 = u at *
    go_wp2_with fail
    refine (IXi.out _).mono ?_
    rintro e w2 ⟨rfl, rfl⟩
    go_wp2_with fail
    go_ret
    exact ⟨ret_bool hf.out.symm, bel_trans BB hb1⟩
   | true =>
    have hd' : Kp (∀ j, j < i + 1 → isIx (bl.getD j 0) n4 = true) := ⟨fun j hj => by
     by_cases e : j = i
     ·rw [e]; exact hq
     ·exact hd.out j (by omega)⟩
    rw [hq] at IXi
    clear hq hd
    obtain ⟨u, hu⟩ : ∃ u, u = bl.getD i 0 := ⟨_, rfl⟩
    rw [← hu] at c0 IXi
    replace hu := Kp.mk hu
    go_wp2_with fail
    refine (IXi.out _).mono ?_
    rintro e w2 ⟨rfl, hw2⟩
    subst w2
    exact tl148
  ·have hlt' : ¬ (i : Int) < (bl.length : Int) := by omega
   have ht : Kp (R = true) := ⟨ATG.out.2 (fun j hj => hd.out j (by omega))⟩
   clear hd
   go_wp2_with fail
   go_ret
   exact ⟨ret_bool ht.out.symm, bel_trans BB hb1⟩) : P := h
theorem tl6 {P : Prop} (h : P := by
 go_enter Tryz.func88, Tryz.ntmps88
 go_upto_region 1 with fail
 rw [← hW.out]
 go_wp2_with fail
 go_quiet ((go_at_call 132; exact Calls.quiet_of_same (FL.out _)))
 go_wp2_with fail
 go_ret
 exact ⟨rfl, below_drewN B0 _⟩) : P := h
theorem tl7 {P : Prop} (h : P := by
 go_enter Tryz.func107, Tryz.ntmps107
 go_upto_region 1 with fail
 rw [← hW.out]
 refine R0.out (by kernel_rfl) (fun hHeld => ?_)
 refine tks 2 [0, 1] hHeld ?_
 try simp only [tkP]
 refine rdy 2 fun K hK => ?_
 go_simp
 refine (CF.out _ hb0).mono ?_
 rintro e w1 ⟨⟨av, cv, alv, clv, asv, csv, rfl⟩, hb⟩
 have hb1 := hb0.trans hb
 clear hb
 refine hK.out _ _ (SK.out _ hb1) (fun hHeld => ?_)
 clear hK K
 try simp only [tkP]
 refine rdy 3 fun K hK => ?_
 go_simp
 refine (CN.out _ _ _ _ _ _ _).mono ?_
 exact tl135) : P := h
theorem tl8 {P : Prop} (h : P := by
 go_enter Tryz.func107, Tryz.ntmps107
 go_upto_region 1 with fail
 rw [← hW.out]
 refine R0.out (by kernel_rfl) (fun hHeld => ?_)
 refine tks 2 [0, 1] hHeld ?_
 try simp only [tkP]
 refine rdy 2 fun K hK => ?_
 go_simp
 refine (CF.out _ hb0).mono ?_
 rintro e w1 ⟨⟨av, cv, alv, clv, rfl⟩, hb⟩
 have hb1 := hb0.trans hb
 clear hb
 refine hK.out _ _ (SK.out _ hb1) (fun hHeld => ?_)
 clear hK K
 try simp only [tkP]
 refine rdy 3 fun K hK => ?_
 go_simp
 refine (CN.out _ _ _ _ _).mono ?_
 exact tl135) : P := h
theorem tl9 {P : Prop} (h : P := by
 have TG : Kp (∀ w, Calls Tryz.prog 208 #[hdV op ty (.slice a n c)] w fun e w' => e = .returned (.slice none 0 0) ∧ Below w.heap.size w w') := ⟨fun w => hdTgt op ty a n c w⟩
 have BB := bel_alloc w (scC (.slice a1 n1 c1) (.slice a2 n2 c2) name link (.slice a3 n3 c3) res (.slice a4 n4 c4) (.slice a5 n5 c5) bk)
 go_enter Tryz.func108, Tryz.ntmps108
 go_wp2_with fail
 refine (TG.out _).mono ?_
 rintro e w1 ⟨rfl, hb1⟩
 go_wp2_with fail
 go_loopw [10] (fun r wr => r = .int .i64 0 ∧ wr = w1) (fun r _ => 0)
 case atStart => exact ⟨rfl, rfl⟩
 case round =>
  obtain ⟨rfl, rfl⟩ := hrel
  go_wp2_with fail
  go_ret
  exact ⟨rfl, bel_trans BB hb1⟩) : P := h
theorem tl10 {P : Prop} (h : P := by
 rw [hW]
 have := new_at (w.alloc (scC (.slice a1 gs.length c1) (.slice a2 fs.length c2) name link (.slice a3 params.length c3) res (.slice a4 blocks.length c4) (.slice a5 ts.length c5) bk)) (Go.Obj.cells #[.int .i64 op, .int .i64 ty, .int .i64 fl, .int .i64 pr, .int .i64 ca, .int .i64 sz, .slice aa args.length ca', .slice al bl.length cl, .slice as' ws.length cs] 73)
 rwa [World.size_alloc] at this) : P := h
theorem tl11 {P : Prop} (h : P := by
 go_wp2_with fail
 go_ret
 exact ⟨rfl, bel_trans (bel_alloc _ _) (bel_alloc _ _)⟩) : P := h
theorem tl12 {P : Prop} (h : P := by
 have kj0 := cell_regrown j0
 have kj1 := cell_regrown j1
 have kj2 := cell_regrown j2
 have kj3 := cell_regrown j3
 have ks0 := cell_regrown s0
 have ks1 := cell_regrown s1
 have ks2 := cell_regrown s2
 have ks3 := cell_regrown s3
 have ks4 := cell_regrown s4
 have ks5 := cell_regrown s5
 have ks6 := cell_regrown s6
 have ks7 := cell_regrown s7
 have ks8 := cell_regrown s8
 have kfc := cell_regrown HC
 have IO2 : Kp (∀ d os, Calls Tryz.prog 219 _ (Go.Sort.grow (redrawn W0 d) os) _) := ⟨fun d os => Calls.regrown_of (IOq.out _)⟩
 go_enter Tryz.func220, Tryz.ntmps220
 go_upto_region 1 with fail
 rw [← hW.out]
 refine wp_region_quiet_below (by kernel_rfl) (by kernel_rfl) ?_
 repeat (go_big_quiet_step (fail))
 go_big_quiet_step (exact IO2.out _ _)
 repeat (go_big_quiet_step (fail))
 refine wpQuiet_nil ?_
 intro _ hw'
 obtain ⟨⟨dq, osq⟩, hw''⟩ := hw'
 subst hw''
 have hq := below_regrown W0 dq osq
 go_wp2_with fail
 go_ret
 exact ⟨rfl, bel_trans BB hq⟩) : P := h
theorem tl13 {P : Prop} (h : P := by
 go_wp2_with fail
 go_loopw [5] (fun s wr => ∃ i : Nat, i ≤ xs.length ∧ s = .int .i64 i ∧ Below w.heap.size w wr) (fun s _ => xs.length - (intOf s).toNat)
 case atStart => exact ⟨0, Nat.zero_le _, rfl, Below.refl _ _⟩
 case round =>
  obtain ⟨i, hi, rfl, hB⟩ := hrel
  by_cases hlt : i < xs.length
  ·obtain ⟨rfl, rfl⟩ := H2.out (by omega)
   have c1 := at_keep (HC.out i hlt).1 hB
   have c2 := at_keep (HC.out i hlt).2 hB
   generalize xs[i] = x at c1 c2
   go_upto_region 6 with fail
   have k1 := cell_regrown c1
   have k2 := cell_regrown c2
   refine wp_region_quiet_below (by kernel_rfl) (by kernel_rfl) ?_
   repeat (quiet_step (fail))
   refine wpQuiet_nil ?_
   intro _ hw'
   obtain ⟨⟨dq, osq⟩, hw''⟩ := hw'
   subst hw''
   have hB2 := bel_trans hB (below_regrown wr dq osq)
   clear k1 k2 c1 c2
   exact tl143
  ·go_wp2_with fail
   go_ret
   exact ⟨rfl, hB⟩) : P := h
theorem tl14 {P : Prop} (h : P := by
 all_goals
  go_ret
  exact ⟨ret_bool (by first | rfl | (rw [Bool.eq_iff_iff]; simp; omega) | simp_all), by first | exact below_drewN B0 _ | exact below_drewN (below_drewN B0 _) _⟩) : P := h
theorem tl15 {P : Prop} (h : P := by
 obtain ⟨i, hi, rfl, hB, hU, hR, hd⟩ := hrel
 have HD : Kp _ := ⟨hd⟩
 clear hd
 by_cases hlt : i < xs.length
 ·have ha := h2 (by omega)
  subst ha
  have cx := at_keep (hc i hlt) hB
  obtain ⟨z, cz, fz⟩ := hR.at (j := i) (by omega)
  clear hc
  go_wp2_with fail
  refine ⟨⟨i + 1, by omega, by go_num, hB.setCell (Nat.le_refl _) _, hU.set _ _ _, hR.set _ _, fun j hj hji => ?_⟩, by simp [intOf]; omega⟩
  by_cases e : j = i
  ·subst e
   exact set_same hR (by omega) _
  ·exact set_other (HD.out j hj (by omega)) (.inr e)
 ·exact tl152) : P := h
theorem tl16 {P : Prop} (h : P := by
 have hq := hab _ (show args.getD i default ∈ args by rw [inD_get hi]; exact List.getElem_mem _)
 exact isOpI a1 gs.length c1 a2 a3 a4 fs.length params.length blocks.length c2 c3 c4 name link res bk (.slice a5 ts.length c5) ts _ W (ht.keep hB) (hw.below hB) hng hq.w0 hq.w1) : P := h
theorem tl17 {P : Prop} (h : P := by
 rw [G.out]
 clear G
 have V2 : Kp (∀ w, Calls Tryz.prog 86 #[.int .i64 T] w fun e w' => e = .returned (.bool (vw T)) ∧ w' = w) := ⟨fun w => VW.out w T⟩
 generalize vw T = R at *
 cases R
 all_goals
  go_enter Tryz.func91, Tryz.ntmps91
  go_upto_region 1 with fail
  rw [← hW.out]
  go_wp2_with (go_at_call 86; refine (V2.out _).mono ?_; rintro e w1 ⟨rfl, rfl⟩)
  all_goals
   go_ret
   exact ⟨ret_bool (by first | rfl | (rw [Bool.eq_iff_iff]; simp; omega) | simp_all), B0⟩) : P := h
theorem tl18 {P : Prop} (h : P := by
 clear G
 go_enter Tryz.func91, Tryz.ntmps91
 go_upto_region 1 with fail
 rw [← hW.out]
 go_wp2_with fail
 all_goals
  go_ret
  exact ⟨ret_bool (by first | rfl | (rw [Bool.eq_iff_iff]; simp; omega) | simp_all), B0⟩) : P := h
theorem tl19 {P : Prop} (h : P := by
 repeat (go_big_quiet_step (fail))
 refine wpQuiet_nil ?_
 intro _ hw'
 obtain ⟨⟨dq, osq⟩, hw''⟩ := hw'
 subst hw''
 have hq := below_regrown W1 dq osq
 go_wp2_with fail
 go_ret
 exact ⟨ret_bool hf.out.symm, bel_trans BB1 hq⟩) : P := h
theorem tl20 {P : Prop} (h : P := by
 generalize xs[i] = D at *
 have HT2 : Kp _ := ⟨hT2⟩
 clear hT2
 go_wp2_with fail
 refine C1.out.mono ?_
 rintro e w1 ⟨rfl, hb1⟩
 go_wp2_with fail
 refine ⟨⟨i + 1, by omega, by go_num, ?_, ?_, bel_trans hB hb1⟩, by simp [intOf]; omega⟩
 ·rw [HT2.out]
 ·rw [HT2.out]; exact q3) : P := h
theorem tl21 {P : Prop} (h : P := by
 go_enter Tryz.func211, Tryz.ntmps211
 go_wp2_with fail
 refine (FW.out _ (h.out.keep hB0) (hw.out.below hB0)).mono ?_
 rintro e w1 ⟨rfl, hb1⟩
 have y0 : At w1 w.heap.size 0 _ := cells_at (kept_at hx.out hb1) rfl
 have y1 : At w1 w.heap.size 1 _ := cells_at (kept_at hx.out hb1) rfl
 go_wp2_with fail
 go_ret
 exact ⟨rfl, bel_trans hB0 hb1⟩) : P := h
theorem tl22 {P : Prop} (h : P := by
 go_wp2_with fail
 all_goals
  go_ret
  exact ⟨ret_bool (by first | rfl | (rw [Bool.eq_iff_iff]; simp; done) | simp_all), BB⟩) : P := h
theorem tl23 {P : Prop} (h : P := by
 go_enter Tryz.func91, Tryz.ntmps91
 go_upto_region 1 with fail
 rw [← hW.out]
 go_wp2_with (go_at_call 86; refine (V2.out _).mono ?_; rintro e w1 ⟨rfl, rfl⟩)
 go_ret
 exact ⟨ret_bool (by first | rfl | (simp; omega)), B0⟩) : P := h
theorem tl24 {P : Prop} (h : P := by
 generalize xs[i] = D at *
 have C1 : Kp _ := ⟨C.out wr hv (l - xs.length - T) (by omega) (by omega)⟩
 rw [e1] at C1
 clear e1 C
 go_wp2_with fail
 refine C1.out.mono ?_
 rintro e w1 ⟨rfl, hb1⟩
 go_wp2_with fail
 go_ret
 exact ⟨by rw [e.out]; rfl, bel_trans hB hb1⟩) : P := h
theorem tl25 {P : Prop} (h : P := by
 go_enter Tryz.func88, Tryz.ntmps88
 go_upto_region 1 with fail
 rw [← hW.out]
 go_wp2_with fail
 go_quiet ((go_at_call 132; exact Calls.quiet_of_same (FL.out _)))
 go_wp2_with fail
 go_quiet (fail)
 go_wp2_with fail
 go_ret
 exact ⟨rfl, below_drewN (below_drewN B0 _) _⟩) : P := h
theorem tl26 {P : Prop} (h : P := by
 go_enter Tryz.func142, Tryz.ntmps142
 go_wp2_with fail
 rw [← hW.out]
 go_wp2_with fail
 go_quiet ((go_at_call 31; exact Calls.quiet_of_same (IX.out _)))
 go_wp2_with fail
 go_ret
 exact ⟨rfl, below_drewN B0 _⟩) : P := h
theorem tl27 {P : Prop} (h : P := by
 rw [hbo] at CBk
 have hd' : Kp (∀ j, j < k + 1 → heaB gs fs j = true ∧ boF gs.length fs (calD fs j) j = none) := ⟨fun j hj => by
  by_cases e : j = k
  ·rw [e]; exact ⟨hg, hbo⟩
  ·exact hd.out j (by omega)⟩
 clear hg hd hbo
 go_wp2_with fail
 refine Ci.out.mono ?_
 rintro e w2 ⟨rfl, hb2⟩
 have hB2 := bel_trans hB1 hb2
 obtain ⟨n0, n1⟩ := MO.out _ hB2
 clear m0 m1
 go_wp2_with fail
 refine (CBk.out _ hB2).mono ?_
 rintro e w3 ⟨rfl, hb3⟩
 go_wp2_with fail
 exact ⟨⟨k + 1, by omega, by go_num, hd', bel_trans hBq (bel_trans hb2 (bel_trans hb3 (bel_alloc _ _)))⟩, by simp [intOf]; omega⟩) : P := h
theorem tl28 {P : Prop} (h : P := by
 clear hv hu nd
 go_upto_region 6 with fail
 replace c0 := cell_regrown c0
 replace c1 := cell_regrown c1
 replace c2 := cell_regrown c2
 replace c3 := cell_regrown c3
 replace c4 := cell_regrown c4
 replace d0 := cell_regrown d0
 replace d1 := cell_regrown d1
 replace d2 := cell_regrown d2
 replace d3 := cell_regrown d3
 replace d4 := cell_regrown d4
 refine wp_region_quiet_below (by kernel_rfl) (by kernel_rfl) ?_
 repeat (quiet_step (fail))
 quiet_step (exact C.out _ _)
 repeat (quiet_step (fail))
 refine wpQuiet_nil ?_
 intro _ hw'
 obtain ⟨⟨dq, osq⟩, hw''⟩ := hw'
 subst hw''
 have hB2 := bel_trans hB (below_regrown wr dq osq)
 clear c0 c1 c2 c3 c4 d0 d1 d2 d3 d4 C
 exact tl143) : P := h
theorem tl29 {P : Prop} (h : P := by
 rw [difB_iff]
 constructor
 ·intro h i j hi hj
  have hj' : j < xs.length := by omega
  rw [show xs.getD i 0 = xs[i] by simp [List.getD_eq_getElem?_getD, hi], show xs.getD j 0 = xs[j] by simp [List.getD_eq_getElem?_getD, hj']]
  exact h i j hi hj
 ·intro h i j hi hj
  have hj' : j < xs.length := by omega
  have q := h i j hi hj
  rwa [show xs.getD i 0 = xs[i] by simp [List.getD_eq_getElem?_getD, hi], show xs.getD j 0 = xs[j] by simp [List.getD_eq_getElem?_getD, hj']] at q) : P := h
theorem tl30 {P : Prop} (h : P := by
 obtain ⟨hRw, hBl, hCl, hFz, z0, z1, z2, z3, y0, y1, y2, y3⟩ := FO.out _ (hB3)
 have u0 := hFz 0
 have u1 := hFz 1
 have u2 := hFz 2
 have u3 := hFz 3
 have hS := Kp.mk (fun a b c d => belFour hBl hCl a b c d)
 obtain ⟨p0, p1, p2, p3⟩ := putFour hRw (Value.int .i64 AT) (Value.int .i64 k) (Value.int .i64 B) (Value.int .i64 i)
 replace hRw := Kp.mk hRw
 clear hBl hCl hFz
 go_wp2_with fail
 refine bodyPost_ret (v := .agg #[Value.int .i64 AT, Value.int .i64 k, Value.int .i64 B, Value.int .i64 i]) ?_ rfl ⟨by rw [hR.out]; rfl, hS.out _ _ _ _⟩
 simp [results, Tryz.results20, go_sem, p0, p1, p2, p3]) : P := h
theorem tl31 {P : Prop} (h : P := by
 go_enter Tryz.func90, Tryz.ntmps90
 go_wp2_with fail
 rw [← hW.out]
 go_wp2_with fail
 go_quiet (fail)
 go_wp2_with fail
 go_ret
 exact ⟨rfl, below_drewN B0 _⟩) : P := h
theorem tl32 {P : Prop} (h : P := by
 generalize xs[i] = q at *
 by_cases e : q.name = s
 ·have hRt : R = true := hdi.out e
  have hr : Kp (decide ((0 : Int) ≤ (i : Int)) = R) := ⟨by rw [hRt]; simp⟩
  rw [decide_eq_true e] at C
  clear hdn hdi hRt e
  go_wp2_with fail
  refine C.out.mono ?_
  rintro e w1 ⟨rfl, hb1⟩
  go_wp2_with fail
  go_ret
  exact ⟨_, rfl, hr.out, bel_trans hB hb1⟩
 ·have hd' := Kp.mk (hdn.out e)
  rw [decide_eq_false e] at C
  clear hdn hdi e
  go_wp2_with fail
  refine C.out.mono ?_
  rintro e w1 ⟨rfl, hb1⟩
  go_wp2_with fail
  exact ⟨⟨i + 1, by omega, by go_num, hd', bel_trans hB hb1⟩, by simp [intOf]; omega⟩) : P := h
theorem tl33 {P : Prop} (h : P := by
 generalize fty args = T at *
 generalize fwd args = T2 at *
 go_enter Tryz.func216, Tryz.ntmps216
 go_wp2_with fail
 refine (FW.out _ h1.out hw1.out).mono ?_
 rintro e w1 ⟨rfl, hb1⟩
 have B1 := bel_trans BB.out hb1
 have y3 : At w1 w.heap.size 3 _ := cells_at (kept_at hx.out hb1) rfl
 have y0 : At w1 w.heap.size 0 _ := cells_at (kept_at hx.out hb1) rfl
 have y1 : At w1 w.heap.size 1 _ := cells_at (kept_at hx.out hb1) rfl
 have y2 : At w1 w.heap.size 2 _ := cells_at (kept_at hx.out hb1) rfl
 go_wp2_with fail
 refine (FT.out _ (h1.out.keep hb1) (hw1.out.below hb1)).mono ?_
 rintro e w2 ⟨rfl, hb2⟩
 have B2 := bel_trans B1 hb2
 go_wp2_with fail
 go_ret
 exact ⟨_, rfl, ints2 (new_at w2 _), bel_trans B2 (bel_alloc _ _)⟩) : P := h
theorem tl34 {P : Prop} (h : P := by
 go_upto_region 7 with fail
 refine wp_region_quiet_below (by kernel_rfl) (by kernel_rfl) ?_
 repeat (go_big_quiet_step (fail))
 go_big_quiet_step (exact C.out _ _)
 repeat (go_big_quiet_step (fail))
 go_big_quiet_step (exact D.out _ _)
 repeat (go_big_quiet_step (fail))
 refine wpQuiet_nil ?_
 intro _ hw'
 obtain ⟨⟨dq, osq⟩, hw''⟩ := hw'
 subst hw''
 have hB2 := bel_trans hB (below_regrown wr dq osq)
 generalize Go.Sort.grow (redrawn wr dq) osq = V at *
 go_wp2_with fail
 exact ⟨⟨i + 1, by go_num, by omega, by rw [hst]; unfold srT; rw [hde]; simp only [ByteArray.append_assoc], hB2⟩, by simp [RowKit.intOf]; omega⟩) : P := h
theorem tl35 {P : Prop} (h : P := by
 have u0 := hFz 0
 have u1 := hFz 1
 have u2 := hFz 2
 have u3 := hFz 3
 have hS := Kp.mk (fun a b c d => belFour hBl hCl a b c d)
 obtain ⟨p0, p1, p2, p3⟩ := putFour hRw (Value.int .i64 4) (Value.int .i64 k) (Value.int .i64 B) (Value.int .i64 i)
 replace hRw := Kp.mk hRw
 clear hBl hCl hFz
 go_wp2_with fail
 refine bodyPost_ret (v := .agg #[Value.int .i64 4, Value.int .i64 k, Value.int .i64 B, Value.int .i64 i]) ?_ rfl ⟨by rw [hR.out]; rfl, hS.out _ _ _ _⟩
 simp [results, Tryz.results20, go_sem, p0, p1, p2, p3]) : P := h
theorem tl36 {P : Prop} (h : P := by
 clear hHE
 go_wp2_with fail
 refine (CN.out _).mono ?_
 rintro e w2 ⟨rfl, rfl⟩
 go_wp2_with fail
 go_ret
 exact ⟨ret_bool (by rw [hf.out]; rfl), B3⟩) : P := h
theorem tl37 {P : Prop} (h : P := by
 rcases hD with h | h
 ·exact absurd h (by decide)
 ·exact h) : P := h
theorem tl38 {P : Prop} (h : P := by
 rcases hE with h | h
 ·exact absurd h (by decide)
 ·exact h) : P := h
theorem tl39 {P : Prop} (h : P := by
 rcases hC with h | h
 ·exact absurd h (by decide)
 ·exact h) : P := h
theorem tl40 {P : Prop} (h : P := by
 rcases hG with h | h
 ·exact absurd h (by decide)
 ·omega) : P := h
theorem tl41 {P : Prop} (h : P := by
 repeat (go_big_quiet_step (fail))
 refine wpQuiet_nil ?_
 intro _ hw'
 obtain ⟨⟨dq, osq⟩, hw''⟩ := hw'
 subst hw''
 have hb4 := below_regrown w2 dq osq
 generalize Go.Sort.grow (redrawn w2 dq) osq = V at *
 go_wp2_with fail
 go_ret
 exact ⟨rfl, bel_trans B0 (bel_trans hB hb4)⟩) : P := h
theorem tl42 {P : Prop} (h : P := by
 obtain ⟨y0, y1⟩ := putTwo hR.out (.int .i64 0) (.int .i64 0)
 go_enter Tryz.func89, Tryz.ntmps89
 go_upto_region 1 with fail
 rw [← hW.out]
 go_wp2_with fail
 refine bodyPost_ret (v := .agg #[.int .i64 0, .int .i64 0]) ?_ rfl ⟨rfl, hS.out _ _⟩
 simp [results, Tryz.results89, go_sem, y0, y1]) : P := h
theorem tl43 {P : Prop} (h : P := by
 obtain ⟨y0, y1⟩ := putTwo hR.out (.int .i64 2) (.int .i64 0)
 go_enter Tryz.func89, Tryz.ntmps89
 go_upto_region 1 with fail
 rw [← hW.out]
 go_wp2_with fail
 refine bodyPost_ret (v := .agg #[.int .i64 2, .int .i64 0]) ?_ rfl ⟨rfl, hS.out _ _⟩
 simp [results, Tryz.results89, go_sem, y0, y1]) : P := h
theorem tl44 {P : Prop} (h : P := by
 obtain ⟨hRw, hBl, hCl, hFz, z0, z1, z2, z3, y0, y1, y2, y3⟩ := FO.out _ (hBB)
 have u0 := hFz 0
 have u1 := hFz 1
 have u2 := hFz 2
 have u3 := hFz 3
 have hS := Kp.mk (fun a b c d => belFour hBl hCl a b c d)
 obtain ⟨p0, p1, p2, p3⟩ := putFour hRw (Value.int .i64 1) (Value.int .i64 (-1)) (Value.int .i64 (-1)) (Value.int .i64 (-1))
 replace hRw := Kp.mk hRw
 clear hBl hCl hFz
 go_wp2_with fail
 refine bodyPost_ret (v := .agg #[Value.int .i64 1, Value.int .i64 (-1), Value.int .i64 (-1), Value.int .i64 (-1)]) ?_ rfl ⟨by rw [hR.out], hS.out _ _ _ _⟩
 simp [results, Tryz.results7, go_sem, p0, p1, p2, p3]) : P := h
theorem tl45 {P : Prop} (h : P := by
 obtain ⟨hRw, hBl, hCl, hFz, z0, z1, z2, z3, y0, y1, y2, y3⟩ := FO.out _ (hBB)
 have u0 := hFz 0
 have u1 := hFz 1
 have u2 := hFz 2
 have u3 := hFz 3
 have hS := Kp.mk (fun a b c d => belFour hBl hCl a b c d)
 obtain ⟨p0, p1, p2, p3⟩ := putFour hRw (Value.int .i64 1) (Value.int .i64 (-1)) (Value.int .i64 (-1)) (Value.int .i64 (-1))
 replace hRw := Kp.mk hRw
 clear hBl hCl hFz
 go_wp2_with fail
 refine bodyPost_ret (v := .agg #[Value.int .i64 1, Value.int .i64 (-1), Value.int .i64 (-1), Value.int .i64 (-1)]) ?_ rfl ⟨by rw [hR.out], hS.out _ _ _ _⟩
 simp [results, Tryz.results9, go_sem, p0, p1, p2, p3]) : P := h
theorem tl46 {P : Prop} (h : P := by
 go_upto_region 7 with fail
 refine wp_region_quiet_below (by kernel_rfl) (by kernel_rfl) ?_
 repeat (go_big_quiet_step (fail))
 go_big_quiet_step (exact C.out _ _)
 repeat (go_big_quiet_step (fail))
 refine wpQuiet_nil ?_
 intro _ hw'
 obtain ⟨⟨dq, osq⟩, hw''⟩ := hw'
 subst hw''
 have hB2 := bel_trans hB (below_regrown wr dq osq)
 generalize Go.Sort.grow (redrawn wr dq) osq = V at *
 go_wp2_with fail
 exact ⟨⟨i + 1, by go_num, by omega, by rw [hst], hB2⟩, by simp [RowKit.intOf]; omega⟩) : P := h
theorem tl47 {P : Prop} (h : P := by
 rintro e w1 ⟨rfl, hb1⟩
 go_wp2_with fail
 go_ret
 exact ⟨rfl, bel_trans (bel_alloc _ _) hb1⟩) : P := h
theorem tl48 {P : Prop} (h : P := by
 go_wp2_with fail
 go_ret
 exact ⟨rfl, bel_trans B0 (bel_trans hB hb3)⟩) : P := h
theorem tl49 {P : Prop} (h : P := by
 replace BB := Kp.mk BB
 go_enter Tryz.func209, Tryz.ntmps209
 go_wp2_with fail
 refine (CT.out _ h1.out hw1.out).mono ?_
 exact tl157) : P := h
theorem tl50 {P : Prop} (h : P := by
 rw [hg1.block w.heap.size (by simp; omega) (by simp), (MapKept.heap_alloc (w.alloc _) _).2 w.heap.size (by simp)]
 exact (MapKept.heap_alloc w _).1) : P := h
theorem tl51 {P : Prop} (h : P := by
 go_enter Tryz.func6, Tryz.ntmps6
 go_wp2_with fail
 refine (C1.out _ (H.out.keep (bel_alloc _ _))).mono ?_
 rintro e w1 ⟨rfl, hb1⟩
 have x1 : At w1 w.heap.size 1 (.slice a2 fs.length k2) := at_keep (al_at w #[.slice a1 gs.length k1, .slice a2 fs.length k2] 25 rfl) hb1
 have B1 := bel_trans (bel_alloc _ _) hb1
 go_wp2_with fail
 refine (C2.out _ (H.out.keep B1)).mono ?_
 rintro e w2 ⟨rfl, hb2⟩
 go_wp2_with fail
 go_ret
 exact ⟨rfl, bel_trans B1 hb2⟩) : P := h
theorem tl52 {P : Prop} (h : P := by
 have hBD3 := (Below.refl w9.heap.size w9).drew
 go_region_with (first
  | (go_at_call 8; refine (C2.out _ (M9.out _ hBD3)).mono ?_; rintro e w10 ⟨vg9, vf9, rfl, H10, hb10, -⟩; have hb99 := hBD3.trans hb10; have y0 : At w10 w5.heap.size 0 _ := cells_at (ZK.out _ hb99) rfl; have y1 : At w10 w5.heap.size 1 _ := cells_at (ZK.out _ hb99) rfl)
  | (go_at_call 11; refine (C5.out _ _ _ _ _ _ _ (H9.out _ hb99) H10).mono ?_; rintro e w11 ⟨rfl, hb11⟩))
 all_goals
  go_wp2_with fail
  go_ret
  exact ⟨rfl, bel_trans (bel_trans B9 hb99) hb11⟩) : P := h
theorem tl53 {P : Prop} (h : P := by
 go_enter Tryz.func74, Tryz.ntmps74
 go_wp2
 go_ret
 exact ⟨rfl, Below.refl _ _⟩) : P := h
theorem tl54 {P : Prop} (h : P := by
 have hd' : Kp (∀ j, j < i + 1 → gloB gs j = true) := ⟨fun j hj => by
  by_cases e : j = i
  ·rw [e]; exact hg
  ·exact hd.out j (by omega)⟩
 rw [hg] at Ci
 clear hg hd
 go_wp2_with fail
 refine Ci.out.mono ?_
 rintro e w2 ⟨rfl, hb2⟩
 go_wp2_with fail
 exact ⟨⟨i + 1, by omega, by go_num, hd', bel_trans hB hb2⟩, by simp [intOf]; omega⟩) : P := h
theorem tl55 {P : Prop} (h : P := by
 have c1 : (decide (op = 14) || decide (pr = 0)) = true := by rcases hC with h | h <;> simp [h]
 have c2 : (decide (op = 25) || decide (ca = 0)) = true := by rcases hD with h | h <;> simp [h]
 have c3 : (decide (op = 21) || decide (sz = 0)) = true := by rcases hE with h | h <;> simp [h]
 have c4 : (decide (op = 29) || decide (ws.length = 0)) = true := by rcases hG with h | h <;> simp [h]
 unfold hdB
 dsimp only
 rw [decide_eq_true hA, decide_eq_true hB, c1, c2, c3, c4]
 simp) : P := h
theorem tl56 {P : Prop} (h : P := by
 go_enter Tryz.func222, Tryz.ntmps222
 go_wp2_with fail
 all_goals
  go_ret
  exact ⟨ret_bool (by first | rfl | (rw [Bool.eq_iff_iff]; simp; done) | (rw [Bool.eq_iff_iff]; simp; omega) | simp_all), bel_trans (bel_alloc _ _) (bel_alloc _ _)⟩) : P := h
theorem tl57 {P : Prop} (h : P := by
 go_wp2_with fail
 exact ⟨⟨i + 1, T, by omega, by go_num, rfl, hT3, by omega, by omega, bel_trans hBq (bel_alloc _ _)⟩, by simp [intOf]; omega⟩) : P := h
theorem tl58 {P : Prop} (h : P := by
 go_enter Tryz.func165, Tryz.ntmps165
 go_wp2_with fail
 refine (C1.out _).mono ?_
 rintro e w' ⟨rfl, rfl⟩
 go_wp2_with fail
 refine (C2.out _).mono ?_
 rintro e w' ⟨rfl, rfl⟩
 go_wp2_with fail
 refine (C3.out _).mono ?_
 rintro e w' ⟨rfl, rfl⟩
 go_wp2_with fail
 go_ret
 exact ⟨rfl, bel_alloc _ _⟩) : P := h
theorem tl59 {P : Prop} (h : P := by
 obtain ⟨a3, c3, rfl⟩ := hrow.shape
 go_wp2_with fail
 go_ret
 exact ⟨_, rfl, hrow.low (b2 := w.heap.size) (by omega), bel_trans B0 hB⟩) : P := h
theorem tl60 {P : Prop} (h : P := by
 go_upto_region 1 with fail
 rw [← hW.out]
 go_wp2_with fail
 refine (CS.out _ (Below.refl _ _)).mono ?_
 rintro e w1 ⟨rfl, hb1⟩
 go_wp2_with fail
 go_ret
 exact ⟨rfl, bel_trans B0 hb1⟩) : P := h
theorem tl61 {P : Prop} (h : P := by
 go_enter Tryz.func144, Tryz.ntmps144
 go_wp2_with fail
 go_ret
 exact ⟨rfl, B1⟩) : P := h
theorem tl62 {P : Prop} (h : P := by
 obtain ⟨rfl, h0⟩ := h0
 obtain rfl : xs = [] := List.length_eq_zero_iff.1 h0
 exact ⟨base, 0, ⟨⟨none, 0, rfl, Nat.le_refl _, fun h => absurd h (by simp)⟩, by simp⟩, Nat.le_refl _, fun i hi => by simp at hi⟩) : P := h
theorem tl63 {P : Prop} (h : P := by
 obtain ⟨n1, n2, n3, n4, n5⟩ := vw_not hx
 have e1 : (x == 1) = false := beq_eq_false_iff_ne.2 n1
 have e2 : (x == 8) = false := beq_eq_false_iff_ne.2 n2
 have e3 : (x == 16) = false := beq_eq_false_iff_ne.2 n3
 have e4 : (x == 32) = false := beq_eq_false_iff_ne.2 n4
 have e5 : (x == 64) = false := beq_eq_false_iff_ne.2 n5
 clear hx n1 n2 n3 n4 n5
 go_enter Tryz.func86, Tryz.ntmps86
 go_wp2
 go_ret
 exact ⟨rfl, rfl⟩) : P := h
theorem tl64 {P : Prop} (h : P := by
 go_enter Tryz.func28, Tryz.ntmps28
 go_wp2_with fail
 go_ret
 exact ⟨rfl, bel_alloc _ _⟩) : P := h
theorem tl65 {P : Prop} (h : P := by
 have q0 : At W B 0 _ := cells_at h rfl
 have q1 : At W B 1 _ := cells_at h rfl
 have q2 : At W B 2 _ := cells_at h rfl
 have q3 : At W B 3 _ := cells_at h rfl
 have q4 : At W B 4 _ := cells_at h rfl
 have q5 : At W B 5 _ := cells_at h rfl
 have q6 : At W B 6 _ := cells_at h rfl
 have q7 : At W B 7 _ := cells_at h rfl
 have q8 : At W B 8 _ := cells_at h rfl
 exact ⟨q0, q1, q2, q3, q4, q5, q6, q7, q8⟩) : P := h
theorem tl66 {P : Prop} (h : P := by
 go_wp2_with fail
 rw [← hW.out]
 clear hW
 go_wp2_with fail
 refine C.out.mono ?_
 rintro e w1 ⟨rfl, hb1⟩
 go_wp2_with fail
 go_ret
 exact ⟨rfl, bel_trans B0 hb1⟩) : P := h
theorem tl67 {P : Prop} (h : P := by
 have hlt' : ¬ (i : Int) < (n : Int) := by omega
 have hr : Kp (decide ((0 : Int) ≤ -1) = R) := ⟨by
  cases hq : R with
  | false => rfl
  | true =>
   obtain ⟨j, hj, e⟩ := IFF.out.1 hq
   exact absurd e (hd.out j (by omega))⟩
 clear hd hc
 go_wp2_with fail
 go_ret
 exact ⟨_, rfl, hr.out, hB⟩) : P := h
theorem tl68 {P : Prop} (h : P := by
 go_enter Tryz.func145, Tryz.ntmps145
 go_wp2_with (first | (go_at_call 92; refine (isS_yes _ _ _ bd.1 bd.2 H.out).mono ?_; rintro e w' ⟨rfl, rfl⟩) | (go_at_call 157; refine (signed_spec _ _ _ bd.1 bd.2 H.out).mono ?_; rintro e w' ⟨rfl, rfl⟩) | (go_at_call 75; refine (dec_spec _ _ bd.1 bd.2).mono ?_; rintro e w1 ⟨rfl, hb1⟩))
 go_ret
 exact ⟨by rw [E.out]; rfl, hb1⟩) : P := h
theorem tl69 {P : Prop} (h : P := by
 go_enter Tryz.func60, Tryz.ntmps60
 go_upto_region 1 with fail
 rw [← hW.out]
 go_upto_region 2 with fail
 rw [← hW1.out]
 clear q0 q1 q2 q3 q4 q5 q6 q7 q8
 go_wp2_with fail
 refine (CE.out _).mono ?_
 rintro e w2 ⟨rfl, rfl⟩
 go_wp2_with fail
 go_ret
 exact ⟨ret_int hR4.out.symm, B01⟩) : P := h
theorem tl70 {P : Prop} (h : P := by
 have hT3 : Kp (T + sz = frS ((blocks.take B).flatten ++ ys.take (i + 1))) := ⟨by rw [hT2.out, hal.out]⟩
 clear hge hT2 hal
 go_wp2_with fail
 exact ⟨⟨i + 1, T + sz, by omega, by go_num, by go_num, hT3, by omega, by omega, bel_trans hBq (bel_alloc _ _)⟩, by simp [intOf]; omega⟩) : P := h
theorem tl71 {P : Prop} (h : P := by
 go_wp2_with fail
 go_ret
 exact ⟨ret_int hf.out.symm, bel_trans B01 hb6'⟩) : P := h
theorem tl72 {P : Prop} (h : P := by
 obtain ⟨b, o, ⟨⟨a, c, rfl, _⟩, _⟩, _⟩ := h.ex
 exact ⟨a, c, rfl⟩) : P := h
theorem tl73 {P : Prop} (h : P := by
 go_upto_region 1 with fail
 rw [← hW.out]
 go_wp2_with fail
 go_ret
 exact ⟨ret_bool hf.out.symm, BB⟩) : P := h
theorem tl74 {P : Prop} (h : P := by
 have B1 := B0
 rw [hW.out] at B1
 clear hc h2 HG m0 p0 p1 p2 p3 hW B0
 go_enter Tryz.func146, Tryz.ntmps146
 go_wp2_with fail
 go_ret
 exact ⟨rfl, B1⟩) : P := h
theorem tl75 {P : Prop} (h : P := by
 clear RI
 go_wp2_with fail
 refine (AA2.out _ hb5').mono ?_
 rintro e w6 ⟨rfl, hb6⟩
 go_wp2_with fail
 go_ret
 exact ⟨ret_int hf.out.symm, bel_trans B01 (bel_trans hb5' hb6)⟩) : P := h
theorem tl76 {P : Prop} (h : P := by
 obtain ⟨y0, y1⟩ := putTwo hR.out (.int .i64 1) (.int .i64 0)
 go_enter Tryz.func89, Tryz.ntmps89
 go_upto_region 1 with fail
 rw [← hW.out]
 go_wp2_with fail
 refine bodyPost_ret (v := .agg #[.int .i64 1, .int .i64 0]) ?_ rfl ⟨rfl, hS.out _ _⟩
 simp [results, Tryz.results89, go_sem, y0, y1]) : P := h
theorem tl77 {P : Prop} (h : P := by
 cases R
 all_goals
  go_enter Tryz.func142, Tryz.ntmps142
  go_wp2_with fail
  rw [← hW.out]
  go_wp2_with fail
  refine IW.out.mono ?_
  rintro e w1 ⟨rfl, rfl⟩
  go_wp2_with fail
  go_ret
  exact ⟨rfl, B0⟩) : P := h
theorem tl78 {P : Prop} (h : P := by
 obtain ⟨av, cv, rfl⟩ := ops_shape e2
 exact ⟨⟨av, cv, e1⟩, e3⟩) : P := h
theorem tl79 {P : Prop} (h : P := by
 go_enter Tryz.func130, Tryz.ntmps130
 go_wp2_with fail
 refine (C.out _ (by first | exact h | exact h.keep (bel_alloc _ _))).mono ?_
 rintro e w1 ⟨rfl, hb1⟩
 go_wp2_with fail
 go_ret
 exact ⟨rfl, by first | exact hb1 | exact bel_trans (bel_alloc _ _) hb1⟩) : P := h
theorem tl80 {P : Prop} (h : P := by
 have g0 := glsN_nn gs
 have f0 := (fnsN_of fs).1 c hc
 have f1 := blsN_nn fs[c].blocks
 unfold moN at hm
 unfold fnN at f0
 omega) : P := h
theorem tl81 {P : Prop} (h : P := by
 go_wp2_with fail
 go_ret
 exact ⟨by rw [e.out]; rfl, bel_alloc _ _⟩) : P := h
theorem tl82 {P : Prop} (h : P := by
 go_enter Tryz.func155, Tryz.ntmps155
 go_wp2_with (first | (go_at_call 137; refine (validWidth_yes _ _ hw hx.out).mono ?_; rintro e w' ⟨rfl, rfl⟩) | (go_at_call 167; refine (cut_impl _ _ _ hw hx.out h0 h1).mono ?_; rintro e w' ⟨rfl, rfl⟩))
 go_ret
 exact ⟨rfl, rfl⟩) : P := h
theorem tl83 {P : Prop} (h : P := by
 clear TT AA RI hT
 go_wp2_with fail
 refine (FF2.out _ hb3).mono ?_
 rintro e w4 ⟨rfl, hb4⟩
 go_wp2_with fail
 go_ret
 exact ⟨ret_int hf.out.symm, bel_trans B01 (bel_trans hb3' hb4)⟩) : P := h
theorem tl84 {P : Prop} (h : P := by
 go_enter Tryz.func92, Tryz.ntmps92
 go_wp2_with (first | (go_at_call 86; refine (validWidthS_yes _ _ hx.out).mono ?_; rintro e w' ⟨rfl, rfl⟩) | (go_at_call 133; refine (cut_spec _ _ _ hx.out h0 h1).mono ?_; rintro e w' ⟨rfl, rfl⟩))
 go_ret
 exact ⟨rfl, rfl⟩) : P := h
theorem tl85 {P : Prop} (h : P := by
 rw [hW]
 have := new_at (w.alloc (Go.Obj.cells #[.int .i64 op, .int .i64 ty, .slice a n c, .int .i64 ca] 185)) (scC (.slice a1 n1 c1) (.slice a2 fs.length c2) name link (.slice a3 n3 c3) res (.slice a4 n4 c4) (.slice a5 n5 c5) bk)
 rwa [World.size_alloc] at this) : P := h
theorem tl86 {P : Prop} (h : P := by
 have q := fnN_le (List.getElem_mem hk)
 have := glsN_nn gs
 unfold moN at hn
 omega) : P := h
theorem tl87 {P : Prop} (h : P := by
 rw [et]
 clear et h2 hc hle n0
 go_wp2_with fail
 go_ret
 exact ⟨by rw [e.out]; rfl, hB⟩) : P := h
theorem tl88 {P : Prop} (h : P := by
 have := List.all_eq_true.1 e c.toNat (by simp; omega)
 rw [h c.toNat hk]
 simp only [decide_eq_true_eq, List.getD_eq_getElem?_getD, List.getElem?_eq_getElem hk, Option.getD_some] at this
 rw [this, show ((c.toNat : Nat) : Int) = c by omega]) : P := h
theorem tl89 {P : Prop} (h : P := by
 rw [hW]
 have := new_at (w.alloc (Go.Obj.cells #[.slice ag gs.length kg, .slice (some ⟨b, o, none⟩) fs.length kf] 33)) (Go.Obj.cells #[.int .i64 0, .int .i64 0, .int .i64 0, .int .i64 0] 28)
 rwa [World.size_alloc] at this) : P := h
theorem tl90 {P : Prop} (h : P := by
 unfold srT
 simp only [ByteArray.size_append]
 have e1 : (⟨#[91]⟩ : ByteArray).size = 1 := rfl
 have e2 : (⟨#[44, 32]⟩ : ByteArray).size = 2 := rfl
 have e3 : (⟨#[93]⟩ : ByteArray).size = 1 := rfl
 omega) : P := h
theorem tl91 {P : Prop} (h : P := by
 go_wp2_with fail
 rw [← hW.out]
 clear hW
 go_wp2_with fail
 refine C.out.mono ?_
 rintro e w1 ⟨rfl, hb1⟩
 go_wp2_with fail
 go_ret
 exact ⟨by rw [ba_cons]; rfl, bel_trans B0 hb1⟩) : P := h
theorem tl92 {P : Prop} (h : P := by
 have := ih.2
 refine ⟨fun i h => ?_, by omega⟩
 cases i with
 | zero => simp only [List.getElem_cons_zero]; omega
 | succ i => simp only [List.getElem_cons_succ]; have := ih.1 i (by simpa using h); omega) : P := h
theorem tl93 {P : Prop} (h : P := by
 go_enter Tryz.func43, Tryz.ntmps43
 go_wp2_with fail
 refine (C1.out _).mono ?_
 rintro e w' ⟨rfl, rfl⟩
 go_wp2_with fail
 go_ret
 exact ⟨rfl, bel_alloc _ _⟩) : P := h
theorem tl94 {P : Prop} (h : P := by
 obtain rfl : j = ys.length := by omega
 gi_wp2
 refine ⟨⟨k + 1, by omega, by go_num, ?_, KQ⟩, by simp [intOf]; omega⟩
 rw [hoff.out]
 exact hJj) : P := h
theorem tl95 {P : Prop} (h : P := by
 rw [hW]
 have := new_at (w.alloc (Go.Obj.cells #[.slice ag gs.length kg, .slice af fs.length kf] 33)) (Go.Obj.cells #[.int .i64 0, .int .i64 0, .int .i64 0, .int .i64 0] 28)
 rwa [World.size_alloc] at this) : P := h
theorem tl96 {P : Prop} (h : P := by
 have := hw s.data.toList.length (.inl (by rw [e00]; simp [DataW.weights]))
 have h2 := reachBytes_lt
 simp at this
 have e : s.data.size = s.size := rfl
 omega) : P := h
theorem tl97 {P : Prop} (h : P := by
 rw [hS2] at hj
 rcases hj with hj | hj
 ·exact .inl hj
 ·exact .inr ⟨by omega, by omega⟩) : P := h
theorem tl98 {P : Prop} (h : P := by
 rw [List.getElem?_take] at this
 split at this
 ·simpa using this
 ·cases this) : P := h
theorem tl99 {P : Prop} (h : P := by
 have he : Kp (nmOf predsL c = ByteArray.empty) := ⟨nm_none (by simp; omega)⟩
 go_enter Tryz.func115, Tryz.ntmps115
 go_wp2
 go_ret
 exact ⟨by rw [he.out]; rfl, Below.refl _ _⟩) : P := h
theorem tl100 {P : Prop} (h : P := by
 simp only [List.mem_cons, List.not_mem_nil, or_false] at hs
 rcases hs with rfl | rfl | rfl <;> omega) : P := h
theorem tl101 {P : Prop} (h : P := by
 rw [List.all_eq_true]
 constructor
 ·intro h k hk
  have := h k (List.mem_range.2 hk)
  simpa using this
 ·intro h k hk
  have := h k (List.mem_range.1 hk)
  simpa using this) : P := h
theorem tl102 {P : Prop} (h : P := by
 clear q
 go_wp2_with fail
 go_quiet (fail)
 go_wp2_with fail
 go_ret
 exact ⟨ret_bool (by rw [hf.out]; rfl), below_drewN B2 _⟩) : P := h
theorem tl103 {P : Prop} (h : P := by
 go_wp2_with fail
 refine C.out.mono ?_
 rintro e w1 ⟨r, rfl, hr, hb1⟩
 replace hr := Kp.mk hr
 go_wp2_with fail
 go_ret
 exact ⟨ret_bool hr.out, hb1⟩) : P := h
theorem tl104 {P : Prop} (h : P := by
 go_enter Tryz.func106, Tryz.ntmps106
 go_wp2_with (go_at_call 139; refine (FA.out _).mono ?_; rintro e w1 ⟨rfl, rfl⟩)
 go_ret
 exact ⟨rfl, bel_trans (bel_alloc _ _) (bel_alloc _ _)⟩) : P := h
theorem tl105 {P : Prop} (h : P := by
 go_wp2_with fail
 go_quiet (fail)
 go_wp2_with fail
 exact ⟨⟨i + 1, by omega, by go_num, hd', below_drewN hB _⟩, by simp [intOf]; omega⟩) : P := h
theorem tl106 {P : Prop} (h : P := by
 obtain ⟨_, _, s, -, -⟩ := h.ex
 obtain ⟨a, k, e, -, -⟩ := s.ex
 exact ⟨a, k, e⟩) : P := h
theorem tl107 {P : Prop} (h : P := by
 go_enter Tryz.func238, Tryz.ntmps238
 go_wp2
 go_ret
 exact ⟨rfl, rfl⟩) : P := h
theorem tl108 {P : Prop} (h : P := by
 unfold jn
 rw [e]
 apply ByteArray.ext
 apply Array.ext'
 rw [ByteArray.data_append, ByteArray.data_append, Array.toList_append, Array.toList_append]) : P := h
theorem tl109 {P : Prop} (h : P := by
 have l := Nat.le_refl w.heap.size
 have PB := bel_trans hB hb1
 exact bel_set (bel_set (bel_set (bel_set (bel_set PB l _) l _) l _) l _) l _) : P := h
theorem tl110 {P : Prop} (h : P := by
 obtain ⟨q, hq, rfl⟩ := List.mem_map.1 ha
 exact txO_len gs fs q hm (G.b.a q hq)) : P := h
theorem tl111 {P : Prop} (h : P := by
 obtain ⟨-, o, ho, hc⟩ := hr B1 e.symm
 rw [p1] at ho
 cases ho
 cases hc) : P := h
theorem tl112 {P : Prop} (h : P := by
 go_enter Tryz.func230, Tryz.ntmps230
 go_upto_region 1 with fail
 rw [← hW.out]
 go_wp2_with fail
 go_ret
 exact ⟨rfl, BB⟩) : P := h
theorem tl113 {P : Prop} (h : P := by
 rcases vw_cases hx with rfl | rfl | rfl | rfl | rfl
 all_goals
  clear hx
  go_enter Tryz.func86, Tryz.ntmps86
  go_wp2
  go_ret
  exact ⟨rfl, rfl⟩) : P := h
theorem tl114 {P : Prop} (h : P := by
 have q := List.mem_flatten.2 ⟨blocks[B], List.getElem_mem hlt, List.getElem_mem (h := by rw [hys.out]; exact h)⟩
 simpa [hys.out] using q) : P := h
theorem tl115 {P : Prop} (h : P := by
 go_enter Tryz.func97, Tryz.ntmps97
 go_wp2
 go_ret
 exact ⟨rfl, rfl⟩) : P := h
theorem tl116 {P : Prop} (h : P := by
 rintro e w2 ⟨rfl, rfl⟩
 go_wp2_with fail
 go_ret
 exact ⟨ret_bool hf.out.symm, BB⟩) : P := h
theorem tl117 {P : Prop} (h : P := by
 by_cases ej : j = i
 ·rw [ej, hgd]; exact e
 ·exact hd.out j (by omega)) : P := h
theorem tl118 {P : Prop} (h : P := by
 exact bel_set (bel_set (bel_set (bel_set (bel_set (bel_set (bel_set (bel_set (bel_set PB l _) l _) l _) l _) l _) l _) l _) l _) l _) : P := h
theorem tl119 {P : Prop} (h : P := by
 rw [e1, hsz]
 exact Great.fill_flat _ _ (fun v hv => by obtain ⟨n, _, rfl⟩ := List.mem_map.1 hv; rfl) (by simp [hlen])) : P := h
theorem tl120 {P : Prop} (h : P := by
 go_wp2_with fail
 exact ⟨⟨i + 1, by omega, by go_num, hnx', hB3⟩, by simp [intOf]; omega⟩) : P := h
theorem tl121 {P : Prop} (h : P := by
 go_enter Tryz.func31, Tryz.ntmps31
 go_wp2_with fail
 go_ret
 exact ⟨by simp [h0, h1], rfl⟩) : P := h
theorem tl122 {P : Prop} (h : P := by
 clear h2
 go_enter Tryz.func178, Tryz.ntmps178
 go_wp2
 go_ret
 exact ⟨by rw [e.out]; rfl, rfl⟩) : P := h
theorem tl123 {P : Prop} (h : P := by
 clear h2
 go_enter Tryz.func177, Tryz.ntmps177
 go_wp2
 go_ret
 exact ⟨by rw [e.out]; rfl, rfl⟩) : P := h
theorem tl124 {P : Prop} (h : P := by
 clear h2
 go_enter Tryz.func83, Tryz.ntmps83
 go_wp2
 go_ret
 exact ⟨by rw [e.out]; rfl, rfl⟩) : P := h
theorem tl125 {P : Prop} (h : P := by
 clear h2
 go_enter Tryz.func82, Tryz.ntmps82
 go_wp2
 go_ret
 exact ⟨by rw [e.out]; rfl, rfl⟩) : P := h
theorem tl126 {P : Prop} (h : P := by
 go_wp2_with fail
 all_goals
  go_ret
  refine ⟨ret_bool ?_, B1⟩
  simp_all) : P := h
theorem tl127 {P : Prop} (h : P := by
 have g0 := glsN_nn gs
 have f0 := (fnsN_of fs).1 c hc
 unfold moN at hm
 omega) : P := h
theorem tl128 {P : Prop} (h : P := by
 obtain ⟨n, D, ⟨es, clock, h3, r⟩, hF⟩ := h.ex
 rw [e, hr] at h3
 cases h3) : P := h
theorem tl129 {P : Prop} (h : P := by
 obtain ⟨v', w', e1, e2, e3, -⟩ := apT h1 h2 (by omega) (by omega) h3
 exact ⟨v', w', e1, e2, e3⟩) : P := h
theorem tl130 {P : Prop} (h : P := by
 go_wp2
 all_goals
  go_ret
  refine ⟨ret_bool ?_, rfl⟩
  rw [Bool.eq_iff_iff]
  simp [endB] <;> omega) : P := h
theorem tl131 {P : Prop} (h : P := by
 obtain ⟨vi, q, r⟩ := hc i hi
 exact ⟨vi, at_keep q (bel_trans BB hB), r.keep (bel_trans BB hB)⟩) : P := h
theorem tl132 {P : Prop} (h : P := by
 intro j hj
 rw [List.getElem_map]
 exact at_keep (hc.out j (by simpa using hj)) (bel_alloc _ _)) : P := h
theorem tl133 {P : Prop} (h : P := by
 obtain ⟨_, _, ⟨⟨_, _, e, l, _⟩, _⟩, _⟩ := hints.ex
 injection e with _ _ e3
 omega) : P := h
theorem tl134 {P : Prop} (h : P := by
 simp only [List.mem_cons, List.not_mem_nil, or_false] at hs
 rcases hs with rfl | rfl | rfl | rfl <;> omega) : P := h
theorem tl135 {P : Prop} (h : P := by
 rintro e w2 ⟨rfl, hb⟩
 have hb2 := bel_trans hb1 hb
 clear hb
 refine hK.out _ _ (SK.out _ hb2) (fun hHeld => ?_)
 clear hK K
 try simp only [tkP]
 refine tks 3 [4, 5, 6] hHeld ?_
 try simp only [tkP]
 refine rdy 7 fun K hK => ?_
 go_simp
 refine (CW1.out _ hb2).mono ?_
 rintro e w3 ⟨rfl, hb⟩
 have hb3 := bel_trans hb2 hb
 clear hb
 refine hK.out _ _ (SK.out _ hb3) (fun hHeld => ?_)
 clear hK K
 try simp only [tkP]
 refine tks 4 [8, 9, 10, 11] hHeld ?_
 try simp only [tkP]
 refine rdy 12 fun K hK => ?_
 go_simp
 refine (CR.out _ hb3).mono ?_
 rintro e w4 ⟨rfl, hb⟩
 have hb4 := bel_trans hb3 hb
 clear hb
 refine hK.out _ _ (SK.out _ hb4) (fun hHeld => ?_)
 clear hK K
 try simp only [tkP]
 refine tks 4 [13, 14, 15, 16] hHeld ?_
 try simp only [tkP]
 refine tks 1 [19] hHeld ?_
 try simp only [tkP]
 refine rdy 17 fun K hK => ?_
 go_simp
 refine (WA'.out _ hb4).mono ?_
 rintro e w5 ⟨⟨aw, cw, rfl⟩, hb⟩
 have hb5 := bel_trans hb4 hb
 clear hb
 refine hK.out _ _ (SK.out _ hb5) (fun hHeld => ?_)
 clear hK K
 try simp only [tkP]
 refine tks 1 [18] hHeld ?_
 try simp only [tkP]
 refine rdy 20 fun K hK => ?_
 go_simp
 refine (CA.out _).mono ?_
 rintro e w6 ⟨rfl, hb⟩
 have hb6 := bel_trans hb5 hb
 clear hb
 refine hK.out _ _ (SK.out _ hb6) (fun hHeld => ?_)
 clear hK K
 try simp only [tkP]
 refine tks 4 [21, 22, 23, 24] hHeld ?_
 try simp only [tkP]
 refine wpAnyH_done (by kernel_rfl) ?_ _
 go_wp2_with fail
 go_ret
 exact ⟨rfl, bel_trans B0 hb6⟩) : P := h
theorem tl136 {P : Prop} (h : P := by
 have hng : gs.length ≤ 140737488355328 := by obtain ⟨_, _, q, _⟩ := hm.g.ex; exact q.le
 obtain ⟨ba, oa, ⟨⟨_, _, hve, k1, k2⟩, k3⟩, -, hac⟩ := ha.ex
 injection hve with e1 e2 e3
 subst e1 e3
 clear e2
 have g1 : (args.length : Int) ≤ 140737488355328 := by omega
 obtain ⟨W0, hW⟩ : ∃ W0, W0 = w.alloc (scC (.slice a1 gs.length c1) (.slice a2 fs.length c2) name link (.slice a3 params.length c3) res (.slice a4 blocks.length c4) (.slice a5 ts.length c5) bk) := ⟨_, rfl⟩
 have BB : Below w.heap.size w W0 := by rw [hW]; exact bel_alloc w _
 have sC0 : W0.heap[w.heap.size]? = some (scC (.slice a1 gs.length c1) (.slice a2 fs.length c2) name link (.slice a3 params.length c3) res (.slice a4 blocks.length c4) (.slice a5 ts.length c5) bk) := by rw [hW]; exact new_at w _
 have WA : Kp (∀ W, Below w.heap.size w W → Calls Tryz.prog 209 #[.agg #[.int .i64 op, .int .i64 ty, (.slice aa args.length ca')], scV (.slice a1 gs.length c1) (.slice a2 fs.length c2) name link (.slice a3 params.length c3) res (.slice a4 blocks.length c4) (.slice a5 ts.length c5) bk] W fun e w' => ∃ v, e = .returned v ∧ Ints 0 .i64 w' v (wanH op ty args res) ∧ Below W.heap.size W w') := ⟨fun W hB => hdWan op ty (.slice aa args.length ca') args a1 a2 a3 a4 a5 gs.length fs.length params.length blocks.length ts.length c1 c2 c3 c4 c5 name link res bk W (ha.keep hB) (hw.below hB)⟩
 have CA : Kp (∀ W, Calls Tryz.prog 203 #[hdV op ty (.slice aa args.length ca')] W fun e w' => e = .returned (.slice aa args.length ca') ∧ Below W.heap.size W w') := ⟨fun W => hdArgs op ty aa args.length ca' W⟩
 have CC : Kp (∀ W, Below w.heap.size w W → Calls Tryz.prog 204 #[.agg #[.int .i64 op, .int .i64 ty, (.slice aa args.length ca')]] W fun e w' => e = .returned (.bool (true)) ∧ Below W.heap.size W w') := ⟨fun W hB => hdCases op ty aa args.length ca' W⟩
 have CO : Kp (∀ W, Below w.heap.size w W → ∀ i, i < args.length → Calls Tryz.prog 142 #[scV (.slice a1 gs.length c1) (.slice a2 fs.length c2) name link (.slice a3 params.length c3) res (.slice a4 blocks.length c4) (.slice a5 ts.length c5) bk, opV4 (args.getD i default)] W fun e w' => e = .returned (.bool (opB gs.length ts (args.getD i default))) ∧ Below W.heap.size W w') := ⟨fun W hB i hi => by
  exact tl16⟩
 have AC : Kp (∀ W, Below w.heap.size w W → ∀ i, i < args.length → OpAt W ba (oa + i * 4) (args.getD i default)) := ⟨fun W hB i hi => by
  rw [inD_get hi]
  exact (hac i hi).keep hB⟩
 have XS : Kp (∀ W, Below W0.heap.size W0 W → W.heap[w.heap.size]? = some (scC (.slice a1 gs.length c1) (.slice a2 fs.length c2) name link (.slice a3 params.length c3) res (.slice a4 blocks.length c4) (.slice a5 ts.length c5) bk)) := ⟨fun W hB => kept_at sC0 hB⟩
 have IFF := Kp.mk (agB_iff gs.length ts args (wanH op ty args res))
 obtain ⟨wan, hwan⟩ : ∃ wan, wan = (wanH op ty args res) := ⟨_, rfl⟩
 exact tl163) : P := h
theorem tl137 {P : Prop} (h : P := by
 rintro e w2 ⟨rfl, hb⟩
 have hb2 := bel_trans hb1 hb
 clear hb
 refine hK.out _ _ (SK.out _ hb2) (fun hHeld => ?_)
 clear hK K
 try simp only [tkP]
 refine tks 3 [4, 5, 6] hHeld ?_
 try simp only [tkP]
 refine rdy 7 fun K hK => ?_
 go_simp
 refine (CW1.out _ hb2).mono ?_
 rintro e w3 ⟨rfl, hb⟩
 have hb3 := bel_trans hb2 hb
 clear hb
 refine hK.out _ _ (SK.out _ hb3) (fun hHeld => ?_)
 clear hK K
 try simp only [tkP]
 refine tks 4 [8, 9, 10, 11] hHeld ?_
 try simp only [tkP]
 refine rdy 12 fun K hK => ?_
 go_simp
 refine (CR.out _ hb3).mono ?_
 rintro e w4 ⟨rfl, hb⟩
 have hb4 := bel_trans hb3 hb
 clear hb
 refine hK.out _ _ (SK.out _ hb4) (fun hHeld => ?_)
 clear hK K
 try simp only [tkP]
 refine tks 4 [13, 14, 15, 16] hHeld ?_
 try simp only [tkP]
 refine tks 4 [17, 18, 19, 20] hHeld ?_
 try simp only [tkP]
 refine tks 4 [21, 22, 23, 24] hHeld ?_
 try simp only [tkP]
 refine wpAnyH_done (by kernel_rfl) ?_ _
 go_wp2_with fail
 go_ret
 exact ⟨rfl, bel_trans B0 hb4⟩) : P := h
theorem tl138 {P : Prop} (h : P := by
 rintro e w2 ⟨rfl, hb⟩
 have hb2 := bel_trans hb1 hb
 clear hb
 refine hK.out _ _ (SK.out _ hb2) (fun hHeld => ?_)
 clear hK K
 try simp only [tkP]
 refine tks 3 [4, 5, 6] hHeld ?_
 try simp only [tkP]
 refine rdy 7 fun K hK => ?_
 go_simp
 refine (CW1.out _ hb2).mono ?_
 rintro e w3 ⟨rfl, hb⟩
 have hb3 := bel_trans hb2 hb
 clear hb
 refine hK.out _ _ (SK.out _ hb3) (fun hHeld => ?_)
 clear hK K
 try simp only [tkP]
 refine tks 4 [8, 9, 10, 11] hHeld ?_
 try simp only [tkP]
 refine tks 4 [12, 13, 14, 15] hHeld ?_
 try simp only [tkP]
 refine tks 4 [16, 17, 18, 19] hHeld ?_
 try simp only [tkP]
 refine tks 4 [20, 21, 22, 23] hHeld ?_
 try simp only [tkP]
 refine tks 1 [24] hHeld ?_
 try simp only [tkP]
 refine wpAnyH_done (by kernel_rfl) ?_ _
 go_wp2_with fail
 go_ret
 exact ⟨rfl, bel_trans B0 hb3⟩) : P := h
theorem tl139 {P : Prop} (h : P := by
 rintro e w2 ⟨rfl, hb⟩
 have hb2 := bel_trans hb1 hb
 clear hb
 refine hK.out _ _ (SK.out _ hb2) (fun hHeld => ?_)
 clear hK K
 try simp only [tkP]
 refine tks 4 [4, 5, 6, 7] hHeld ?_
 try simp only [tkP]
 refine tks 4 [8, 9, 10, 11] hHeld ?_
 try simp only [tkP]
 refine tks 4 [12, 13, 14, 15] hHeld ?_
 try simp only [tkP]
 refine tks 4 [16, 17, 18, 19] hHeld ?_
 try simp only [tkP]
 refine tks 4 [20, 21, 22, 23] hHeld ?_
 try simp only [tkP]
 refine tks 1 [24] hHeld ?_
 exact tl165) : P := h
theorem tl140 {P : Prop} (h : P := by
 go_enter Tryz.func88, Tryz.ntmps88
 go_upto_region 1 with fail
 rw [← hW.out]
 go_wp2_with fail
 go_quiet ((go_at_call 132; exact Calls.quiet_of_same (FL.out _)))
 go_wp2_with fail
 exact tl14) : P := h
theorem tl141 {P : Prop} (h : P := by
 go_enter Tryz.func88, Tryz.ntmps88
 go_upto_region 1 with fail
 rw [← hW.out]
 go_wp2_with fail
 go_quiet ((go_at_call 132; exact Calls.quiet_of_same (FL.out _)))
 go_wp2_with (go_at_call 86; refine (VW.out _).mono ?_; rintro e w1 ⟨rfl, rfl⟩)
 exact tl14) : P := h
theorem tl142 {P : Prop} (h : P := by
 go_enter Tryz.func88, Tryz.ntmps88
 go_upto_region 1 with fail
 rw [← hW.out]
 go_wp2_with fail
 go_quiet ((go_at_call 132; exact Calls.quiet_of_same (FL.out _)))
 go_wp2_with (go_at_call 46; refine (VT.out _).mono ?_; rintro e w1 ⟨rfl, rfl⟩)
 exact tl14) : P := h
theorem tl143 {P : Prop} (h : P := by
 generalize grow (redrawn wr dq) osq = V at *
 go_wp2_with fail
 exact ⟨⟨i + 1, by omega, by go_num, hB2⟩, by simp [intOf]; omega⟩) : P := h
theorem tl144 {P : Prop} (h : P := by
 by_cases e : j = i
 ·rw [e]; exact q
 ·exact hd.out j (by omega)) : P := h
theorem tl145 {P : Prop} (h : P := by
 go_upto_region 1 with fail
 rw [← hW.out]
 go_upto_region 2 with fail
 rw [← hW1.out]
 refine wp_region_quiet_below (by kernel_rfl) (by kernel_rfl) ?_
 repeat (go_big_quiet_step (fail))
 go_big_quiet_step (exact V2.out _ _)
 repeat (go_big_quiet_step (fail))
 go_big_quiet_step (exact H2.out _ _)
 exact tl19) : P := h
theorem tl146 {P : Prop} (h : P := by
 clear VW
 generalize vtB ty = R at *
 go_enter Tryz.func207, Tryz.ntmps207
 go_wp2_with fail
 refine VT.out.mono ?_
 rintro e w1 ⟨rfl, rfl⟩
 exact tl22) : P := h
theorem tl147 {P : Prop} (h : P := by
 clear VT
 generalize vw ty = R at *
 go_enter Tryz.func207, Tryz.ntmps207
 go_wp2_with fail
 refine VW.out.mono ?_
 rintro e w1 ⟨rfl, rfl⟩
 exact tl22) : P := h
theorem tl148 {P : Prop} (h : P := by
 go_wp2_with fail
 exact ⟨⟨trivial, i + 1, by omega, by go_num, hd'⟩, by simp [intOf]; omega⟩) : P := h
theorem tl149 {P : Prop} (h : P := by
 cases SM
 all_goals
  go_wp2_with fail
  refine CSi.out.mono ?_
  rintro e w2 ⟨rfl, hb2⟩
  go_wp2_with fail
  go_ret
  exact ⟨ret_bool (by rw [G.out]; rfl), bel_trans B4 hb2⟩) : P := h
theorem tl150 {P : Prop} (h : P := by
 go_upto_region 1 with fail
 rw [← hW.out]
 go_upto_region 2 with fail
 rw [← hW1.out]
 refine wp_region_quiet_below (by kernel_rfl) (by kernel_rfl) ?_
 repeat (go_big_quiet_step (fail))
 go_big_quiet_step (exact V2.out _ _)
 exact tl19) : P := h
theorem tl151 {P : Prop} (h : P := by
 go_enter Tryz.func44, Tryz.ntmps44
 go_wp2_with fail
 refine (C1.out _).mono ?_
 rintro e w' ⟨rfl, rfl⟩
 go_wp2_with fail
 refine (C2.out _ (HB.out.keep (bel_alloc _ _))).mono ?_
 exact tl47) : P := h
theorem tl152 {P : Prop} (h : P := by
 clear h2 hc hmk
 go_wp2_with fail
 go_ret
 exact ⟨_, rfl, ⟨w.heap.size, 0, ⟨⟨_, _, rfl, Nat.le_refl _, fun _ => rfl⟩, h3⟩, Nat.le_refl _, fun j hj => by rw [Nat.zero_add]; exact HD.out j hj (by omega)⟩, hB, hU⟩) : P := h
theorem tl153 {P : Prop} (h : P := by
 have hT3 : Kp (T = frS ((blocks.take B).flatten ++ ys.take (i + 1))) := ⟨by rw [hT2.out]; simp [alS, q2]⟩
 clear hge hT2
 exact tl57) : P := h
theorem tl154 {P : Prop} (h : P := by
 obtain rfl : R = false := by rw [← hR]; simp; omega
 clear hc h2 hR
 exact tl64) : P := h
theorem tl155 {P : Prop} (h : P := by
 have hf : Kp (R = false) := ⟨by rw [hHE.out]; simp; omega⟩
 exact tl36) : P := h
theorem tl156 {P : Prop} (h : P := by
 have B1 := B0
 rw [hW.out] at B1
 clear hc h2 HG m0 p0 p1 p2 p3 hW B0
 exact tl61) : P := h
theorem tl157 {P : Prop} (h : P := by
 rintro e w1 ⟨rfl, hb1⟩
 have B1 := bel_trans BB.out hb1
 go_wp2_with fail
 go_ret
 exact ⟨_, rfl, ints1 (new_at w1 _), bel_trans B1 (bel_alloc _ _)⟩) : P := h
theorem tl158 {P : Prop} (h : P := by
 by_cases e : j = i
 ·rw [e]; exact hv
 ·exact hd.out j (by omega)) : P := h
theorem tl159 {P : Prop} (h : P := by
 rw [Bool.eq_false_iff]
 intro q
 rw [hAP.out.1 q i hlt] at hv
 cases hv) : P := h
theorem tl160 {P : Prop} (h : P := by
 rw [G.out]
 have ei' := nb ei
 clear ei
 go_enter Tryz.func90, Tryz.ntmps90
 exact tl11) : P := h
theorem tl161 {P : Prop} (h : P := by
 by_cases e : j = B
 ·rw [e]; exact hq
 ·exact hd.out j (by omega)) : P := h
theorem tl162 {P : Prop} (h : P := by
 go_wp2_with fail
 refine (CF.out _).mono ?_
 rintro e w3 ⟨rfl, hb3⟩
 exact tl48) : P := h
theorem tl163 {P : Prop} (h : P := by
 rw [← hwan] at WA IFF hlen ⊢
 obtain ⟨R, hR⟩ : ∃ R, R = agB gs.length ts args wan := ⟨_, rfl⟩
 rw [← hR] at IFF ⊢
 obtain ⟨S, hS⟩ : ∃ S, S = (true) := ⟨_, rfl⟩
 rw [← hS] at CC ⊢
 replace hW := Kp.mk hW
 replace k2 := Kp.mk k2
 replace hlen := Kp.mk hlen
 clear hac hwan hR hS ha ht hm hw sC0 hab
 exact tl2) : P := h
theorem tl164 {P : Prop} (h : P := by
 go_enter Tryz.func107, Tryz.ntmps107
 go_upto_region 1 with fail
 rw [← hW.out]
 refine R0.out (by kernel_rfl) (fun hHeld => ?_)
 refine tks 2 [0, 1] hHeld ?_
 try simp only [tkP]
 refine rdy 2 fun K hK => ?_
 go_simp
 refine (CF.out _ hb0).mono ?_
 rintro e w1 ⟨⟨av, cv, rfl⟩, hb⟩
 have hb1 := hb0.trans hb
 clear hb
 refine hK.out _ _ (SK.out _ hb1) (fun hHeld => ?_)
 clear hK K
 try simp only [tkP]
 refine rdy 3 fun K hK => ?_
 go_simp
 refine (CN.out _ _ _).mono ?_
 exact tl135) : P := h
theorem tl165 {P : Prop} (h : P := by
 try simp only [tkP]
 refine wpAnyH_done (by kernel_rfl) ?_ _
 go_wp2_with fail
 go_ret
 exact ⟨rfl, bel_trans B0 hb2⟩) : P := h
end Go.Proofs.YtgdcgjlmkmdklaaGreatDoor
