/- The packed texts Im11. -/
import Derived.Test.YtbnkbbcncloedaaGreatDoorRows
import Derived.WalkKit
import Derived.ProofKit
import Derived.OpenShut
import Derived.WalkLawsBesides
import Derived.Below
import Derived.BigQuiet
import Derived.Lib.QuietBelow
import Derived.Lib.AtoiErrMem
import Derived.Deep.OwnRows
import Derived.Deep.DeepCutAuto
import Derived.RangeFuncNested
import Derived.RangeFuncBound
import Derived.RangeFuncCalls
import Derived.RangeFuncLeaves
import Derived.OwnWalkIn
import Derived.TacticsInMore
import Derived.LoopNIn
import Derived.LoopIn
import Derived.Shelf.Abstract
import Derived.Maps.AppendAt
import Derived.OwnWalk
import Derived.Lib.LaidTab
import Derived.Laws.BitsAllLaws
import Derived.Laws.Closers25b
import Derived.Deep.RegionWith
import Derived.Laws.MathBits
import Derived.Shelf.Spec.BitsCarry
import Derived.Laws.CopyOwn
import Derived.Deep.RegionLaw
import Derived.Lib.SliceRun
import Derived.Laws.Tables
import Derived.Test.YtbnkbbcncloedaaGreatDoorPk1
import Derived.Test.YtbnkbbcncloedaaGreatDoorPk2
import Derived.Test.YtbnkbbcncloedaaGreatDoorPk3
import Derived.Test.YtbnkbbcncloedaaGreatDoorPk4
import Derived.Test.YtbnkbbcncloedaaGreatDoorPk5
import Derived.Test.YtbnkbbcncloedaaGreatDoorPk6
import Derived.Test.YtbnkbbcncloedaaGreatDoorPk7
import Derived.Test.YtbnkbbcncloedaaGreatDoorPk9
import Derived.Test.YtbnkbbcncloedaaGreatDoorPk10
import Derived.Test.YtbnkbbcncloedaaGreatDoorPk21
import Derived.Test.YtbnkbbcncloedaaGreatDoorPk22
import Derived.Test.YtbnkbbcncloedaaGreatDoorPk23
import Derived.Test.YtbnkbbcncloedaaGreatDoorPk24
import Derived.Test.YtbnkbbcncloedaaGreatDoorPk25
import Derived.Test.YtbnkbbcncloedaaGreatDoorPk27
namespace Go.Proofs.YtbnkbbcncloedaaGreatDoor
section
open Go.ChangeShapes Go.WideShapes Go.ChangeAt Go.RowKit

set_option linter.unusedVariables false

set_option linter.unusedSimpArgs false

def agB (ng : Nat) (ts : List Int) (args : List OpD) (wan : List Int) : Bool := (List.range args.length).all fun k => decide ((args.getD k default).t = wan.getD k 0) && opB ng ts (args.getD k default)

theorem agB_iff (ng : Nat) (ts : List Int) (args : List OpD) (wan : List Int) : agB ng ts args wan = true ↔ ∀ k, k < args.length → (args.getD k default).t = wan.getD k 0 ∧ opB ng ts (args.getD k default) = true := by
  unfold agB
  rw [List.all_eq_true]
  constructor
  · intro h k hk
    have := h k (List.mem_range.2 hk)
    simpa using this
  · intro h k hk
    have := h k (List.mem_range.1 hk)
    simpa using this

set_option maxRecDepth 100000 in
set_option maxHeartbeats 4000000 in
theorem argHd (gs : List GlD) (fs : List FnD) (ts : List Int) (a1 a2 a3 a4 a5 : Option Addr) (params : List Int) (blocks : List (List InD)) (c1 c2 c3 c4 c5 : Nat) (name : ByteArray) (link res bk : Int) (op ty : Int) (aa al as' : Option Addr) (args : List OpD) (bl ws : List Int) (ca' cl cs : Nat) (w : World) {lo l2 : Nat} (hm : MoAt lo w gs fs (.slice a1 gs.length c1) (.slice a2 fs.length c2)) (ht : Ints l2 .i64 w (.slice a5 ts.length c5) ts) (ha : Ops lo w (.slice aa args.length ca') args) (hw : Wid w) (hab : ∀ q ∈ args, OpB q) (hlen : (wanH op ty args res).length = args.length) :
    Calls Tryz.prog 150 #[scV (.slice a1 gs.length c1) (.slice a2 fs.length c2) name link (.slice a3 params.length c3) res (.slice a4 blocks.length c4) (.slice a5 ts.length c5) bk, kHd op ty (.slice aa args.length ca')] w fun e w' => e = .returned (.bool (agB gs.length ts args (wanH op ty args res) && true)) ∧ Below w.heap.size w w' := by
  have hng : gs.length ≤ 140737488355328 := by obtain ⟨_, _, q, _⟩ := hm.g.ex; exact q.le
  obtain ⟨ba, oa, ⟨⟨_, _, hve, k1, k2⟩, k3⟩, -, hac⟩ := ha.ex
  injection hve with e1 e2 e3
  subst e1 e3
  clear e2
  have g1 : (args.length : Int) ≤ 140737488355328 := by omega
  obtain ⟨W0, hW⟩ : ∃ W0, W0 = w.alloc (scC (.slice a1 gs.length c1) (.slice a2 fs.length c2) name link (.slice a3 params.length c3) res (.slice a4 blocks.length c4) (.slice a5 ts.length c5) bk) := ⟨_, rfl⟩
  have BB : Below w.heap.size w W0 := by rw [hW]; exact bel_alloc w _
  have sC0 : W0.heap[w.heap.size]? = some (scC (.slice a1 gs.length c1) (.slice a2 fs.length c2) name link (.slice a3 params.length c3) res (.slice a4 blocks.length c4) (.slice a5 ts.length c5) bk) := by rw [hW]; exact new_at w _
  have WA : Kp (∀ W, Below w.heap.size w W → Calls Tryz.prog 262 #[.agg #[.int .i64 op, .int .i64 ty, (.slice aa args.length ca')], scV (.slice a1 gs.length c1) (.slice a2 fs.length c2) name link (.slice a3 params.length c3) res (.slice a4 blocks.length c4) (.slice a5 ts.length c5) bk] W fun e w' => ∃ v, e = .returned v ∧ Ints 0 .i64 w' v (wanH op ty args res) ∧ Below W.heap.size W w') := ⟨fun W hB => hdWan op ty (.slice aa args.length ca') args a1 a2 a3 a4 a5 gs.length fs.length params.length blocks.length ts.length c1 c2 c3 c4 c5 name link res bk W (ha.keep hB) (hw.below hB)⟩
  have CA : Kp (∀ W, Calls Tryz.prog 256 #[hdV op ty (.slice aa args.length ca')] W fun e w' => e = .returned (.slice aa args.length ca') ∧ Below W.heap.size W w') := ⟨fun W => hdArgs op ty aa args.length ca' W⟩
  have CC : Kp (∀ W, Below w.heap.size w W → Calls Tryz.prog 257 #[.agg #[.int .i64 op, .int .i64 ty, (.slice aa args.length ca')]] W fun e w' => e = .returned (.bool (true)) ∧ Below W.heap.size W w') := ⟨fun W hB => hdCases op ty aa args.length ca' W⟩
  have CO : Kp (∀ W, Below w.heap.size w W → ∀ i, i < args.length → Calls Tryz.prog 191 #[scV (.slice a1 gs.length c1) (.slice a2 fs.length c2) name link (.slice a3 params.length c3) res (.slice a4 blocks.length c4) (.slice a5 ts.length c5) bk, opV4 (args.getD i default)] W fun e w' => e = .returned (.bool (opB gs.length ts (args.getD i default))) ∧ Below W.heap.size W w') := ⟨fun W hB i hi => by
    have hq := hab _ (show args.getD i default ∈ args by rw [inD_get hi]; exact List.getElem_mem _)
    exact isOpI a1 gs.length c1 a2 a3 a4 fs.length params.length blocks.length c2 c3 c4 name link res bk (.slice a5 ts.length c5) ts _ W (ht.keep hB) (hw.below hB) hng hq.w0 hq.w1⟩
  have AC : Kp (∀ W, Below w.heap.size w W → ∀ i, i < args.length → OpAt W ba (oa + i * 4) (args.getD i default)) := ⟨fun W hB i hi => by
    rw [inD_get hi]
    exact (hac i hi).keep hB⟩
  have XS : Kp (∀ W, Below W0.heap.size W0 W → W.heap[w.heap.size]? = some (scC (.slice a1 gs.length c1) (.slice a2 fs.length c2) name link (.slice a3 params.length c3) res (.slice a4 blocks.length c4) (.slice a5 ts.length c5) bk)) := ⟨fun W hB => kept_at sC0 hB⟩
  have IFF := Kp.mk (agB_iff gs.length ts args (wanH op ty args res))
  obtain ⟨wan, hwan⟩ : ∃ wan, wan = (wanH op ty args res) := ⟨_, rfl⟩
  rw [← hwan] at WA IFF hlen ⊢
  obtain ⟨R, hR⟩ : ∃ R, R = agB gs.length ts args wan := ⟨_, rfl⟩
  rw [← hR] at IFF ⊢
  obtain ⟨S, hS⟩ : ∃ S, S = (true) := ⟨_, rfl⟩
  rw [← hS] at CC ⊢
  replace hW := Kp.mk hW
  replace k2 := Kp.mk k2
  replace hlen := Kp.mk hlen
  clear hac hwan hR hS ha ht hm hw sC0 hab
  go_enter Tryz.func150, Tryz.ntmps150
  go_upto_region 1 with fail
  rw [← hW.out]
  have hx := XS.out W0 (Below.refl _ _)
  have s0 : At W0 w.heap.size 0 _ := cells_at hx rfl
  have s1 : At W0 w.heap.size 1 _ := cells_at hx rfl
  have s2 : At W0 w.heap.size 2 _ := cells_at hx rfl
  have s3 : At W0 w.heap.size 3 _ := cells_at hx rfl
  have s4 : At W0 w.heap.size 4 _ := cells_at hx rfl
  have s5 : At W0 w.heap.size 5 _ := cells_at hx rfl
  have s6 : At W0 w.heap.size 6 _ := cells_at hx rfl
  have s7 : At W0 w.heap.size 7 _ := cells_at hx rfl
  have s8 : At W0 w.heap.size 8 _ := cells_at hx rfl
  clear hx
  go_wp2_with fail
  refine (WA.out _ BB).mono ?_
  rintro e w1 ⟨wv, rfl, hwv, hb1⟩
  clear s0 s1 s2 s3 s4 s5 s6 s7 s8
  obtain ⟨bw, ow, ⟨⟨aw, cw, rfl, p1, p2⟩, p3⟩, -, pc⟩ := hwv.ex
  have g2 : (wan.length : Int) ≤ 140737488355328 := by omega
  have PC : Kp (∀ W, Below w1.heap.size w1 W → ∀ i, i < wan.length → At W bw (ow + i) (.int .i64 (wan.getD i 0))) := ⟨fun W hB i hi => by
    rw [show wan.getD i 0 = wan[i] by simp [List.getD_eq_getElem?_getD, hi]]
    exact at_keep (pc i hi) hB⟩
  replace p2 := Kp.mk p2
  clear pc hwv
  go_wp2_with fail
  refine (CA.out _).mono ?_
  rintro e w2 ⟨rfl, hb2⟩
  have hB02 := bel_trans hb1 hb2
  go_wp2_with fail
  go_loopw [14] (fun r wr => ∃ i : Nat, i ≤ args.length ∧ r = .int .i64 i ∧ Kp (∀ j, j < i → (args.getD j default).t = wan.getD j 0 ∧ opB gs.length ts (args.getD j default) = true) ∧ Below w2.heap.size w2 wr) (fun r _ => args.length - (intOf r).toNat)
  case atStart => exact ⟨0, Nat.zero_le _, rfl, ⟨fun j hj => absurd hj (by omega)⟩, Below.refl _ _⟩
  case round =>
    obtain ⟨i, hi, rfl, hd, hB⟩ := hrel
    have hB0 := bel_trans hB02 hB
    have hBw := bel_trans BB hB0
    by_cases hlt : i < args.length
    · obtain rfl := k2.out (by omega)
      have hll := hlen.out
      obtain rfl := p2.out (by omega)
      have hlt' : (i : Int) < (args.length : Int) := by omega
      have hltw : (i : Int) < (wan.length : Int) := by omega
      obtain ⟨oq, hoq⟩ : ∃ oq, oq = args.getD i default := ⟨_, rfl⟩
      obtain ⟨wi, hwi⟩ : ∃ wi, wi = wan.getD i 0 := ⟨_, rfl⟩
      have hac := AC.out _ hBw i hlt
      rw [← hoq] at hac
      obtain ⟨a0, a1', a2', a3'⟩ := hac
      obtain ⟨w3, hw3⟩ : ∃ w3, w3 = wr.alloc (Go.Obj.cells #[.int .i64 oq.k, .int .i64 oq.t, .int .i64 oq.i, .int .u64 oq.w] 85) := ⟨_, rfl⟩
      have hb3 : Below wr.heap.size wr w3 := by rw [hw3]; exact bel_alloc _ _
      have x3 := new_at wr (Go.Obj.cells #[.int .i64 oq.k, .int .i64 oq.t, .int .i64 oq.i, .int .u64 oq.w] 85)
      rw [← hw3] at x3
      have q0 : At w3 wr.heap.size 0 _ := cells_at x3 rfl
      have q1 : At w3 wr.heap.size 1 _ := cells_at x3 rfl
      have q2 : At w3 wr.heap.size 2 _ := cells_at x3 rfl
      have q3 : At w3 wr.heap.size 3 _ := cells_at x3 rfl
      have hB3 := bel_trans hB hb3
      have hx := XS.out w3 (bel_trans hB02 hB3)
      have s0 : At w3 w.heap.size 0 _ := cells_at hx rfl
      have s1 : At w3 w.heap.size 1 _ := cells_at hx rfl
      have s2 : At w3 w.heap.size 2 _ := cells_at hx rfl
      have s3 : At w3 w.heap.size 3 _ := cells_at hx rfl
      have s4 : At w3 w.heap.size 4 _ := cells_at hx rfl
      have s5 : At w3 w.heap.size 5 _ := cells_at hx rfl
      have s6 : At w3 w.heap.size 6 _ := cells_at hx rfl
      have s7 : At w3 w.heap.size 7 _ := cells_at hx rfl
      have s8 : At w3 w.heap.size 8 _ := cells_at hx rfl
      have pw := PC.out w3 (bel_trans hb2 hB3) i (by omega)
      rw [← hwi] at pw
      have COi := Kp.mk (fun W (hW : Below w3.heap.size w3 W) => CO.out W (bel_trans hBw (bel_trans hb3 hW)) i hlt)
      rw [← hoq] at COi
      have hB3w := bel_trans hBw hb3
      have hiff := Kp.mk (fun t => IFF.out.1 t i hlt)
      rw [← hoq, ← hwi] at hiff
      replace hoq := Kp.mk hoq
      replace hwi := Kp.mk hwi
      replace hw3 := Kp.mk hw3
      clear hx x3 hll
      by_cases ety : oq.t = wi
      · have mt : (oq.t != wi) = false := by simp [ety]
        have kq0 := cell_regrown q0
        have kq1 := cell_regrown q1
        have kq2 := cell_regrown q2
        have kq3 := cell_regrown q3
        have ks0 := cell_regrown s0
        have ks1 := cell_regrown s1
        have ks2 := cell_regrown s2
        have ks3 := cell_regrown s3
        have ks4 := cell_regrown s4
        have ks5 := cell_regrown s5
        have ks6 := cell_regrown s6
        have ks7 := cell_regrown s7
        have ks8 := cell_regrown s8
        have kpw := cell_regrown pw
        cases ho : opB gs.length ts oq with
        | true =>
          have hd' : Kp (∀ j, j < i + 1 → (args.getD j default).t = wan.getD j 0 ∧ opB gs.length ts (args.getD j default) = true) := ⟨fun j hj => by
            by_cases e : j = i
            · rw [e, ← hoq.out, ← hwi.out]; exact ⟨ety, ho⟩
            · exact hd.out j (by omega)⟩
          rw [ho] at COi
          replace ety := Kp.mk ety
          clear ho hd
          have IO2 : Kp (∀ d os, Calls Tryz.prog 191 _ (Go.Sort.grow (redrawn w3 d) os) _) := ⟨fun d os => Calls.regrown_of (COi.out _ (below_regrown w3 d os))⟩
          go_upto_region 5 with fail
          rw [← hw3.out]
          refine wp_region_quiet_below (by kernel_rfl) (by kernel_rfl) ?_
          repeat (go_big_quiet_step (fail))
          go_big_quiet_step (exact IO2.out _ _)
          repeat (go_big_quiet_step (fail))
          refine wpQuiet_nil ?_
          intro _ hw'
          obtain ⟨⟨dq, osq⟩, hw''⟩ := hw'
          subst hw''
          have hq := below_regrown w3 dq osq
          go_wp2_with fail
          exact ⟨⟨i + 1, by omega, by go_num, hd', bel_trans hB3 hq⟩, by simp [intOf]; omega⟩
        | false =>
          have hf : Kp (R = false) := ⟨by
            rw [Bool.eq_false_iff]
            intro t
            rw [(hiff.out t).2] at ho
            cases ho⟩
          rw [ho] at COi
          replace ety := Kp.mk ety
          clear ho hd
          have IO2 : Kp (∀ d os, Calls Tryz.prog 191 _ (Go.Sort.grow (redrawn w3 d) os) _) := ⟨fun d os => Calls.regrown_of (COi.out _ (below_regrown w3 d os))⟩
          go_upto_region 5 with fail
          rw [← hw3.out]
          refine wp_region_quiet_below (by kernel_rfl) (by kernel_rfl) ?_
          repeat (go_big_quiet_step (fail))
          go_big_quiet_step (exact IO2.out _ _)
          repeat (go_big_quiet_step (fail))
          refine wpQuiet_nil ?_
          intro _ hw'
          obtain ⟨⟨dq, osq⟩, hw''⟩ := hw'
          subst hw''
          have hq := below_regrown w3 dq osq
          go_wp2_with fail
          go_ret
          exact ⟨ret_bool (by rw [hf.out]; rfl), bel_trans hB3w hq⟩
      · have mt := nbT ety
        have hf : Kp (R = false) := ⟨by
          rw [Bool.eq_false_iff]
          intro t
          exact ety (hiff.out t).1⟩
        clear ety hd
        go_upto_region 5 with fail
        rw [← hw3.out]
        go_quiet (fail)
        go_wp2_with fail
        go_ret
        exact ⟨ret_bool (by rw [hf.out]; rfl), below_drewN hB3w _⟩
    · have hlt' : ¬ (i : Int) < (args.length : Int) := by omega
      have hT : Kp (R = true) := ⟨IFF.out.2 (fun j hj => hd.out j (by omega))⟩
      clear hd
      go_wp2_with fail
      refine (CC.out _ hBw).mono ?_
      rintro e w4 ⟨rfl, hb4⟩
      go_wp2_with fail
      go_ret
      exact ⟨ret_bool (by rw [hT.out]; rfl), bel_trans hBw hb4⟩

set_option maxRecDepth 100000 in
set_option maxHeartbeats 4000000 in
theorem argAr (gs : List GlD) (fs : List FnD) (ts : List Int) (a1 a2 a3 a4 a5 : Option Addr) (params : List Int) (blocks : List (List InD)) (c1 c2 c3 c4 c5 : Nat) (name : ByteArray) (link res bk : Int) (op ty fl : Int) (aa al as' : Option Addr) (args : List OpD) (bl ws : List Int) (ca' cl cs : Nat) (w : World) {lo l2 : Nat} (hm : MoAt lo w gs fs (.slice a1 gs.length c1) (.slice a2 fs.length c2)) (ht : Ints l2 .i64 w (.slice a5 ts.length c5) ts) (ha : Ops lo w (.slice aa args.length ca') args) (hw : Wid w) (hab : ∀ q ∈ args, OpB q) (hlen : ([ty, ty]).length = args.length) :
    Calls Tryz.prog 150 #[scV (.slice a1 gs.length c1) (.slice a2 fs.length c2) name link (.slice a3 params.length c3) res (.slice a4 blocks.length c4) (.slice a5 ts.length c5) bk, kAr op ty (.slice aa args.length ca') fl] w fun e w' => e = .returned (.bool (agB gs.length ts args ([ty, ty]) && true)) ∧ Below w.heap.size w w' := by
  have hng : gs.length ≤ 140737488355328 := by obtain ⟨_, _, q, _⟩ := hm.g.ex; exact q.le
  obtain ⟨ba, oa, ⟨⟨_, _, hve, k1, k2⟩, k3⟩, -, hac⟩ := ha.ex
  injection hve with e1 e2 e3
  subst e1 e3
  clear e2
  have g1 : (args.length : Int) ≤ 140737488355328 := by omega
  obtain ⟨W0, hW⟩ : ∃ W0, W0 = w.alloc (scC (.slice a1 gs.length c1) (.slice a2 fs.length c2) name link (.slice a3 params.length c3) res (.slice a4 blocks.length c4) (.slice a5 ts.length c5) bk) := ⟨_, rfl⟩
  have BB : Below w.heap.size w W0 := by rw [hW]; exact bel_alloc w _
  have sC0 : W0.heap[w.heap.size]? = some (scC (.slice a1 gs.length c1) (.slice a2 fs.length c2) name link (.slice a3 params.length c3) res (.slice a4 blocks.length c4) (.slice a5 ts.length c5) bk) := by rw [hW]; exact new_at w _
  have WA : Kp (∀ W, Below w.heap.size w W → Calls Tryz.prog 289 #[.agg #[.int .i64 op, .int .i64 ty, (.slice aa args.length ca'), .int .i64 fl], scV (.slice a1 gs.length c1) (.slice a2 fs.length c2) name link (.slice a3 params.length c3) res (.slice a4 blocks.length c4) (.slice a5 ts.length c5) bk] W fun e w' => ∃ v, e = .returned v ∧ Ints 0 .i64 w' v ([ty, ty]) ∧ Below W.heap.size W w') := ⟨fun W hB => arWan op ty fl aa args.length ca' a1 a2 a3 a4 a5 gs.length fs.length params.length blocks.length ts.length c1 c2 c3 c4 c5 name link res bk W⟩
  have CA : Kp (∀ W, Calls Tryz.prog 256 #[hdV op ty (.slice aa args.length ca')] W fun e w' => e = .returned (.slice aa args.length ca') ∧ Below W.heap.size W w') := ⟨fun W => hdArgs op ty aa args.length ca' W⟩
  have CC : Kp (∀ W, Below w.heap.size w W → Calls Tryz.prog 257 #[.agg #[.int .i64 op, .int .i64 ty, (.slice aa args.length ca')]] W fun e w' => e = .returned (.bool (true)) ∧ Below W.heap.size W w') := ⟨fun W hB => hdCases op ty aa args.length ca' W⟩
  have CO : Kp (∀ W, Below w.heap.size w W → ∀ i, i < args.length → Calls Tryz.prog 191 #[scV (.slice a1 gs.length c1) (.slice a2 fs.length c2) name link (.slice a3 params.length c3) res (.slice a4 blocks.length c4) (.slice a5 ts.length c5) bk, opV4 (args.getD i default)] W fun e w' => e = .returned (.bool (opB gs.length ts (args.getD i default))) ∧ Below W.heap.size W w') := ⟨fun W hB i hi => by
    have hq := hab _ (show args.getD i default ∈ args by rw [inD_get hi]; exact List.getElem_mem _)
    exact isOpI a1 gs.length c1 a2 a3 a4 fs.length params.length blocks.length c2 c3 c4 name link res bk (.slice a5 ts.length c5) ts _ W (ht.keep hB) (hw.below hB) hng hq.w0 hq.w1⟩
  have AC : Kp (∀ W, Below w.heap.size w W → ∀ i, i < args.length → OpAt W ba (oa + i * 4) (args.getD i default)) := ⟨fun W hB i hi => by
    rw [inD_get hi]
    exact (hac i hi).keep hB⟩
  have XS : Kp (∀ W, Below W0.heap.size W0 W → W.heap[w.heap.size]? = some (scC (.slice a1 gs.length c1) (.slice a2 fs.length c2) name link (.slice a3 params.length c3) res (.slice a4 blocks.length c4) (.slice a5 ts.length c5) bk)) := ⟨fun W hB => kept_at sC0 hB⟩
  have IFF := Kp.mk (agB_iff gs.length ts args ([ty, ty]))
  obtain ⟨wan, hwan⟩ : ∃ wan, wan = ([ty, ty]) := ⟨_, rfl⟩
  rw [← hwan] at WA IFF hlen ⊢
  obtain ⟨R, hR⟩ : ∃ R, R = agB gs.length ts args wan := ⟨_, rfl⟩
  rw [← hR] at IFF ⊢
  obtain ⟨S, hS⟩ : ∃ S, S = (true) := ⟨_, rfl⟩
  rw [← hS] at CC ⊢
  replace hW := Kp.mk hW
  replace k2 := Kp.mk k2
  replace hlen := Kp.mk hlen
  clear hac hwan hR hS ha ht hm hw sC0 hab
  go_enter Tryz.func150, Tryz.ntmps150
  go_upto_region 1 with fail
  rw [← hW.out]
  have hx := XS.out W0 (Below.refl _ _)
  have s0 : At W0 w.heap.size 0 _ := cells_at hx rfl
  have s1 : At W0 w.heap.size 1 _ := cells_at hx rfl
  have s2 : At W0 w.heap.size 2 _ := cells_at hx rfl
  have s3 : At W0 w.heap.size 3 _ := cells_at hx rfl
  have s4 : At W0 w.heap.size 4 _ := cells_at hx rfl
  have s5 : At W0 w.heap.size 5 _ := cells_at hx rfl
  have s6 : At W0 w.heap.size 6 _ := cells_at hx rfl
  have s7 : At W0 w.heap.size 7 _ := cells_at hx rfl
  have s8 : At W0 w.heap.size 8 _ := cells_at hx rfl
  clear hx
  go_wp2_with fail
  refine (WA.out _ BB).mono ?_
  rintro e w1 ⟨wv, rfl, hwv, hb1⟩
  clear s0 s1 s2 s3 s4 s5 s6 s7 s8
  obtain ⟨bw, ow, ⟨⟨aw, cw, rfl, p1, p2⟩, p3⟩, -, pc⟩ := hwv.ex
  have g2 : (wan.length : Int) ≤ 140737488355328 := by omega
  have PC : Kp (∀ W, Below w1.heap.size w1 W → ∀ i, i < wan.length → At W bw (ow + i) (.int .i64 (wan.getD i 0))) := ⟨fun W hB i hi => by
    rw [show wan.getD i 0 = wan[i] by simp [List.getD_eq_getElem?_getD, hi]]
    exact at_keep (pc i hi) hB⟩
  replace p2 := Kp.mk p2
  clear pc hwv
  go_wp2_with fail
  refine (CA.out _).mono ?_
  rintro e w2 ⟨rfl, hb2⟩
  have hB02 := bel_trans hb1 hb2
  go_wp2_with fail
  go_loopw [14] (fun r wr => ∃ i : Nat, i ≤ args.length ∧ r = .int .i64 i ∧ Kp (∀ j, j < i → (args.getD j default).t = wan.getD j 0 ∧ opB gs.length ts (args.getD j default) = true) ∧ Below w2.heap.size w2 wr) (fun r _ => args.length - (intOf r).toNat)
  case atStart => exact ⟨0, Nat.zero_le _, rfl, ⟨fun j hj => absurd hj (by omega)⟩, Below.refl _ _⟩
  case round =>
    obtain ⟨i, hi, rfl, hd, hB⟩ := hrel
    have hB0 := bel_trans hB02 hB
    have hBw := bel_trans BB hB0
    by_cases hlt : i < args.length
    · obtain rfl := k2.out (by omega)
      have hll := hlen.out
      obtain rfl := p2.out (by omega)
      have hlt' : (i : Int) < (args.length : Int) := by omega
      have hltw : (i : Int) < (wan.length : Int) := by omega
      obtain ⟨oq, hoq⟩ : ∃ oq, oq = args.getD i default := ⟨_, rfl⟩
      obtain ⟨wi, hwi⟩ : ∃ wi, wi = wan.getD i 0 := ⟨_, rfl⟩
      have hac := AC.out _ hBw i hlt
      rw [← hoq] at hac
      obtain ⟨a0, a1', a2', a3'⟩ := hac
      obtain ⟨w3, hw3⟩ : ∃ w3, w3 = wr.alloc (Go.Obj.cells #[.int .i64 oq.k, .int .i64 oq.t, .int .i64 oq.i, .int .u64 oq.w] 85) := ⟨_, rfl⟩
      have hb3 : Below wr.heap.size wr w3 := by rw [hw3]; exact bel_alloc _ _
      have x3 := new_at wr (Go.Obj.cells #[.int .i64 oq.k, .int .i64 oq.t, .int .i64 oq.i, .int .u64 oq.w] 85)
      rw [← hw3] at x3
      have q0 : At w3 wr.heap.size 0 _ := cells_at x3 rfl
      have q1 : At w3 wr.heap.size 1 _ := cells_at x3 rfl
      have q2 : At w3 wr.heap.size 2 _ := cells_at x3 rfl
      have q3 : At w3 wr.heap.size 3 _ := cells_at x3 rfl
      have hB3 := bel_trans hB hb3
      have hx := XS.out w3 (bel_trans hB02 hB3)
      have s0 : At w3 w.heap.size 0 _ := cells_at hx rfl
      have s1 : At w3 w.heap.size 1 _ := cells_at hx rfl
      have s2 : At w3 w.heap.size 2 _ := cells_at hx rfl
      have s3 : At w3 w.heap.size 3 _ := cells_at hx rfl
      have s4 : At w3 w.heap.size 4 _ := cells_at hx rfl
      have s5 : At w3 w.heap.size 5 _ := cells_at hx rfl
      have s6 : At w3 w.heap.size 6 _ := cells_at hx rfl
      have s7 : At w3 w.heap.size 7 _ := cells_at hx rfl
      have s8 : At w3 w.heap.size 8 _ := cells_at hx rfl
      have pw := PC.out w3 (bel_trans hb2 hB3) i (by omega)
      rw [← hwi] at pw
      have COi := Kp.mk (fun W (hW : Below w3.heap.size w3 W) => CO.out W (bel_trans hBw (bel_trans hb3 hW)) i hlt)
      rw [← hoq] at COi
      have hB3w := bel_trans hBw hb3
      have hiff := Kp.mk (fun t => IFF.out.1 t i hlt)
      rw [← hoq, ← hwi] at hiff
      replace hoq := Kp.mk hoq
      replace hwi := Kp.mk hwi
      replace hw3 := Kp.mk hw3
      clear hx x3 hll
      by_cases ety : oq.t = wi
      · have mt : (oq.t != wi) = false := by simp [ety]
        have kq0 := cell_regrown q0
        have kq1 := cell_regrown q1
        have kq2 := cell_regrown q2
        have kq3 := cell_regrown q3
        have ks0 := cell_regrown s0
        have ks1 := cell_regrown s1
        have ks2 := cell_regrown s2
        have ks3 := cell_regrown s3
        have ks4 := cell_regrown s4
        have ks5 := cell_regrown s5
        have ks6 := cell_regrown s6
        have ks7 := cell_regrown s7
        have ks8 := cell_regrown s8
        have kpw := cell_regrown pw
        cases ho : opB gs.length ts oq with
        | true =>
          have hd' : Kp (∀ j, j < i + 1 → (args.getD j default).t = wan.getD j 0 ∧ opB gs.length ts (args.getD j default) = true) := ⟨fun j hj => by
            by_cases e : j = i
            · rw [e, ← hoq.out, ← hwi.out]; exact ⟨ety, ho⟩
            · exact hd.out j (by omega)⟩
          rw [ho] at COi
          replace ety := Kp.mk ety
          clear ho hd
          have IO2 : Kp (∀ d os, Calls Tryz.prog 191 _ (Go.Sort.grow (redrawn w3 d) os) _) := ⟨fun d os => Calls.regrown_of (COi.out _ (below_regrown w3 d os))⟩
          go_upto_region 5 with fail
          rw [← hw3.out]
          refine wp_region_quiet_below (by kernel_rfl) (by kernel_rfl) ?_
          repeat (go_big_quiet_step (fail))
          go_big_quiet_step (exact IO2.out _ _)
          repeat (go_big_quiet_step (fail))
          refine wpQuiet_nil ?_
          intro _ hw'
          obtain ⟨⟨dq, osq⟩, hw''⟩ := hw'
          subst hw''
          have hq := below_regrown w3 dq osq
          go_wp2_with fail
          exact ⟨⟨i + 1, by omega, by go_num, hd', bel_trans hB3 hq⟩, by simp [intOf]; omega⟩
        | false =>
          have hf : Kp (R = false) := ⟨by
            rw [Bool.eq_false_iff]
            intro t
            rw [(hiff.out t).2] at ho
            cases ho⟩
          rw [ho] at COi
          replace ety := Kp.mk ety
          clear ho hd
          have IO2 : Kp (∀ d os, Calls Tryz.prog 191 _ (Go.Sort.grow (redrawn w3 d) os) _) := ⟨fun d os => Calls.regrown_of (COi.out _ (below_regrown w3 d os))⟩
          go_upto_region 5 with fail
          rw [← hw3.out]
          refine wp_region_quiet_below (by kernel_rfl) (by kernel_rfl) ?_
          repeat (go_big_quiet_step (fail))
          go_big_quiet_step (exact IO2.out _ _)
          repeat (go_big_quiet_step (fail))
          refine wpQuiet_nil ?_
          intro _ hw'
          obtain ⟨⟨dq, osq⟩, hw''⟩ := hw'
          subst hw''
          have hq := below_regrown w3 dq osq
          go_wp2_with fail
          go_ret
          exact ⟨ret_bool (by rw [hf.out]; rfl), bel_trans hB3w hq⟩
      · have mt := nbT ety
        have hf : Kp (R = false) := ⟨by
          rw [Bool.eq_false_iff]
          intro t
          exact ety (hiff.out t).1⟩
        clear ety hd
        go_upto_region 5 with fail
        rw [← hw3.out]
        go_quiet (fail)
        go_wp2_with fail
        go_ret
        exact ⟨ret_bool (by rw [hf.out]; rfl), below_drewN hB3w _⟩
    · have hlt' : ¬ (i : Int) < (args.length : Int) := by omega
      have hT : Kp (R = true) := ⟨IFF.out.2 (fun j hj => hd.out j (by omega))⟩
      clear hd
      go_wp2_with fail
      refine (CC.out _ hBw).mono ?_
      rintro e w4 ⟨rfl, hb4⟩
      go_wp2_with fail
      go_ret
      exact ⟨ret_bool (by rw [hT.out]; rfl), bel_trans hBw hb4⟩

set_option maxRecDepth 100000 in
set_option maxHeartbeats 4000000 in
theorem argCm (gs : List GlD) (fs : List FnD) (ts : List Int) (a1 a2 a3 a4 a5 : Option Addr) (params : List Int) (blocks : List (List InD)) (c1 c2 c3 c4 c5 : Nat) (name : ByteArray) (link res bk : Int) (op ty pr : Int) (aa al as' : Option Addr) (args : List OpD) (bl ws : List Int) (ca' cl cs : Nat) (w : World) {lo l2 : Nat} (hm : MoAt lo w gs fs (.slice a1 gs.length c1) (.slice a2 fs.length c2)) (ht : Ints l2 .i64 w (.slice a5 ts.length c5) ts) (ha : Ops lo w (.slice aa args.length ca') args) (hw : Wid w) (hab : ∀ q ∈ args, OpB q) (hlen : ([cmF pr args, cmF pr args]).length = args.length) :
    Calls Tryz.prog 150 #[scV (.slice a1 gs.length c1) (.slice a2 fs.length c2) name link (.slice a3 params.length c3) res (.slice a4 blocks.length c4) (.slice a5 ts.length c5) bk, kCm op ty (.slice aa args.length ca') pr] w fun e w' => e = .returned (.bool (agB gs.length ts args ([cmF pr args, cmF pr args]) && true)) ∧ Below w.heap.size w w' := by
  have hng : gs.length ≤ 140737488355328 := by obtain ⟨_, _, q, _⟩ := hm.g.ex; exact q.le
  obtain ⟨ba, oa, ⟨⟨_, _, hve, k1, k2⟩, k3⟩, -, hac⟩ := ha.ex
  injection hve with e1 e2 e3
  subst e1 e3
  clear e2
  have g1 : (args.length : Int) ≤ 140737488355328 := by omega
  obtain ⟨W0, hW⟩ : ∃ W0, W0 = w.alloc (scC (.slice a1 gs.length c1) (.slice a2 fs.length c2) name link (.slice a3 params.length c3) res (.slice a4 blocks.length c4) (.slice a5 ts.length c5) bk) := ⟨_, rfl⟩
  have BB : Below w.heap.size w W0 := by rw [hW]; exact bel_alloc w _
  have sC0 : W0.heap[w.heap.size]? = some (scC (.slice a1 gs.length c1) (.slice a2 fs.length c2) name link (.slice a3 params.length c3) res (.slice a4 blocks.length c4) (.slice a5 ts.length c5) bk) := by rw [hW]; exact new_at w _
  have WA : Kp (∀ W, Below w.heap.size w W → Calls Tryz.prog 269 #[.agg #[.int .i64 op, .int .i64 ty, (.slice aa args.length ca'), .int .i64 pr], scV (.slice a1 gs.length c1) (.slice a2 fs.length c2) name link (.slice a3 params.length c3) res (.slice a4 blocks.length c4) (.slice a5 ts.length c5) bk] W fun e w' => ∃ v, e = .returned v ∧ Ints 0 .i64 w' v ([cmF pr args, cmF pr args]) ∧ Below W.heap.size W w') := ⟨fun W hB => cmWan op ty pr (.slice aa args.length ca') args a1 a2 a3 a4 a5 gs.length fs.length params.length blocks.length ts.length c1 c2 c3 c4 c5 name link res bk W (ha.keep hB) (hw.below hB)⟩
  have CA : Kp (∀ W, Calls Tryz.prog 256 #[hdV op ty (.slice aa args.length ca')] W fun e w' => e = .returned (.slice aa args.length ca') ∧ Below W.heap.size W w') := ⟨fun W => hdArgs op ty aa args.length ca' W⟩
  have CC : Kp (∀ W, Below w.heap.size w W → Calls Tryz.prog 257 #[.agg #[.int .i64 op, .int .i64 ty, (.slice aa args.length ca')]] W fun e w' => e = .returned (.bool (true)) ∧ Below W.heap.size W w') := ⟨fun W hB => hdCases op ty aa args.length ca' W⟩
  have CO : Kp (∀ W, Below w.heap.size w W → ∀ i, i < args.length → Calls Tryz.prog 191 #[scV (.slice a1 gs.length c1) (.slice a2 fs.length c2) name link (.slice a3 params.length c3) res (.slice a4 blocks.length c4) (.slice a5 ts.length c5) bk, opV4 (args.getD i default)] W fun e w' => e = .returned (.bool (opB gs.length ts (args.getD i default))) ∧ Below W.heap.size W w') := ⟨fun W hB i hi => by
    have hq := hab _ (show args.getD i default ∈ args by rw [inD_get hi]; exact List.getElem_mem _)
    exact isOpI a1 gs.length c1 a2 a3 a4 fs.length params.length blocks.length c2 c3 c4 name link res bk (.slice a5 ts.length c5) ts _ W (ht.keep hB) (hw.below hB) hng hq.w0 hq.w1⟩
  have AC : Kp (∀ W, Below w.heap.size w W → ∀ i, i < args.length → OpAt W ba (oa + i * 4) (args.getD i default)) := ⟨fun W hB i hi => by
    rw [inD_get hi]
    exact (hac i hi).keep hB⟩
  have XS : Kp (∀ W, Below W0.heap.size W0 W → W.heap[w.heap.size]? = some (scC (.slice a1 gs.length c1) (.slice a2 fs.length c2) name link (.slice a3 params.length c3) res (.slice a4 blocks.length c4) (.slice a5 ts.length c5) bk)) := ⟨fun W hB => kept_at sC0 hB⟩
  have IFF := Kp.mk (agB_iff gs.length ts args ([cmF pr args, cmF pr args]))
  obtain ⟨wan, hwan⟩ : ∃ wan, wan = ([cmF pr args, cmF pr args]) := ⟨_, rfl⟩
  rw [← hwan] at WA IFF hlen ⊢
  obtain ⟨R, hR⟩ : ∃ R, R = agB gs.length ts args wan := ⟨_, rfl⟩
  rw [← hR] at IFF ⊢
  obtain ⟨S, hS⟩ : ∃ S, S = (true) := ⟨_, rfl⟩
  rw [← hS] at CC ⊢
  replace hW := Kp.mk hW
  replace k2 := Kp.mk k2
  replace hlen := Kp.mk hlen
  clear hac hwan hR hS ha ht hm hw sC0 hab
  go_enter Tryz.func150, Tryz.ntmps150
  go_upto_region 1 with fail
  rw [← hW.out]
  have hx := XS.out W0 (Below.refl _ _)
  have s0 : At W0 w.heap.size 0 _ := cells_at hx rfl
  have s1 : At W0 w.heap.size 1 _ := cells_at hx rfl
  have s2 : At W0 w.heap.size 2 _ := cells_at hx rfl
  have s3 : At W0 w.heap.size 3 _ := cells_at hx rfl
  have s4 : At W0 w.heap.size 4 _ := cells_at hx rfl
  have s5 : At W0 w.heap.size 5 _ := cells_at hx rfl
  have s6 : At W0 w.heap.size 6 _ := cells_at hx rfl
  have s7 : At W0 w.heap.size 7 _ := cells_at hx rfl
  have s8 : At W0 w.heap.size 8 _ := cells_at hx rfl
  clear hx
  go_wp2_with fail
  refine (WA.out _ BB).mono ?_
  rintro e w1 ⟨wv, rfl, hwv, hb1⟩
  clear s0 s1 s2 s3 s4 s5 s6 s7 s8
  obtain ⟨bw, ow, ⟨⟨aw, cw, rfl, p1, p2⟩, p3⟩, -, pc⟩ := hwv.ex
  have g2 : (wan.length : Int) ≤ 140737488355328 := by omega
  have PC : Kp (∀ W, Below w1.heap.size w1 W → ∀ i, i < wan.length → At W bw (ow + i) (.int .i64 (wan.getD i 0))) := ⟨fun W hB i hi => by
    rw [show wan.getD i 0 = wan[i] by simp [List.getD_eq_getElem?_getD, hi]]
    exact at_keep (pc i hi) hB⟩
  replace p2 := Kp.mk p2
  clear pc hwv
  go_wp2_with fail
  refine (CA.out _).mono ?_
  rintro e w2 ⟨rfl, hb2⟩
  have hB02 := bel_trans hb1 hb2
  go_wp2_with fail
  go_loopw [14] (fun r wr => ∃ i : Nat, i ≤ args.length ∧ r = .int .i64 i ∧ Kp (∀ j, j < i → (args.getD j default).t = wan.getD j 0 ∧ opB gs.length ts (args.getD j default) = true) ∧ Below w2.heap.size w2 wr) (fun r _ => args.length - (intOf r).toNat)
  case atStart => exact ⟨0, Nat.zero_le _, rfl, ⟨fun j hj => absurd hj (by omega)⟩, Below.refl _ _⟩
  case round =>
    obtain ⟨i, hi, rfl, hd, hB⟩ := hrel
    have hB0 := bel_trans hB02 hB
    have hBw := bel_trans BB hB0
    by_cases hlt : i < args.length
    · obtain rfl := k2.out (by omega)
      have hll := hlen.out
      obtain rfl := p2.out (by omega)
      have hlt' : (i : Int) < (args.length : Int) := by omega
      have hltw : (i : Int) < (wan.length : Int) := by omega
      obtain ⟨oq, hoq⟩ : ∃ oq, oq = args.getD i default := ⟨_, rfl⟩
      obtain ⟨wi, hwi⟩ : ∃ wi, wi = wan.getD i 0 := ⟨_, rfl⟩
      have hac := AC.out _ hBw i hlt
      rw [← hoq] at hac
      obtain ⟨a0, a1', a2', a3'⟩ := hac
      obtain ⟨w3, hw3⟩ : ∃ w3, w3 = wr.alloc (Go.Obj.cells #[.int .i64 oq.k, .int .i64 oq.t, .int .i64 oq.i, .int .u64 oq.w] 85) := ⟨_, rfl⟩
      have hb3 : Below wr.heap.size wr w3 := by rw [hw3]; exact bel_alloc _ _
      have x3 := new_at wr (Go.Obj.cells #[.int .i64 oq.k, .int .i64 oq.t, .int .i64 oq.i, .int .u64 oq.w] 85)
      rw [← hw3] at x3
      have q0 : At w3 wr.heap.size 0 _ := cells_at x3 rfl
      have q1 : At w3 wr.heap.size 1 _ := cells_at x3 rfl
      have q2 : At w3 wr.heap.size 2 _ := cells_at x3 rfl
      have q3 : At w3 wr.heap.size 3 _ := cells_at x3 rfl
      have hB3 := bel_trans hB hb3
      have hx := XS.out w3 (bel_trans hB02 hB3)
      have s0 : At w3 w.heap.size 0 _ := cells_at hx rfl
      have s1 : At w3 w.heap.size 1 _ := cells_at hx rfl
      have s2 : At w3 w.heap.size 2 _ := cells_at hx rfl
      have s3 : At w3 w.heap.size 3 _ := cells_at hx rfl
      have s4 : At w3 w.heap.size 4 _ := cells_at hx rfl
      have s5 : At w3 w.heap.size 5 _ := cells_at hx rfl
      have s6 : At w3 w.heap.size 6 _ := cells_at hx rfl
      have s7 : At w3 w.heap.size 7 _ := cells_at hx rfl
      have s8 : At w3 w.heap.size 8 _ := cells_at hx rfl
      have pw := PC.out w3 (bel_trans hb2 hB3) i (by omega)
      rw [← hwi] at pw
      have COi := Kp.mk (fun W (hW : Below w3.heap.size w3 W) => CO.out W (bel_trans hBw (bel_trans hb3 hW)) i hlt)
      rw [← hoq] at COi
      have hB3w := bel_trans hBw hb3
      have hiff := Kp.mk (fun t => IFF.out.1 t i hlt)
      rw [← hoq, ← hwi] at hiff
      replace hoq := Kp.mk hoq
      replace hwi := Kp.mk hwi
      replace hw3 := Kp.mk hw3
      clear hx x3 hll
      by_cases ety : oq.t = wi
      · have mt : (oq.t != wi) = false := by simp [ety]
        have kq0 := cell_regrown q0
        have kq1 := cell_regrown q1
        have kq2 := cell_regrown q2
        have kq3 := cell_regrown q3
        have ks0 := cell_regrown s0
        have ks1 := cell_regrown s1
        have ks2 := cell_regrown s2
        have ks3 := cell_regrown s3
        have ks4 := cell_regrown s4
        have ks5 := cell_regrown s5
        have ks6 := cell_regrown s6
        have ks7 := cell_regrown s7
        have ks8 := cell_regrown s8
        have kpw := cell_regrown pw
        cases ho : opB gs.length ts oq with
        | true =>
          have hd' : Kp (∀ j, j < i + 1 → (args.getD j default).t = wan.getD j 0 ∧ opB gs.length ts (args.getD j default) = true) := ⟨fun j hj => by
            by_cases e : j = i
            · rw [e, ← hoq.out, ← hwi.out]; exact ⟨ety, ho⟩
            · exact hd.out j (by omega)⟩
          rw [ho] at COi
          replace ety := Kp.mk ety
          clear ho hd
          have IO2 : Kp (∀ d os, Calls Tryz.prog 191 _ (Go.Sort.grow (redrawn w3 d) os) _) := ⟨fun d os => Calls.regrown_of (COi.out _ (below_regrown w3 d os))⟩
          go_upto_region 5 with fail
          rw [← hw3.out]
          refine wp_region_quiet_below (by kernel_rfl) (by kernel_rfl) ?_
          repeat (go_big_quiet_step (fail))
          go_big_quiet_step (exact IO2.out _ _)
          repeat (go_big_quiet_step (fail))
          refine wpQuiet_nil ?_
          intro _ hw'
          obtain ⟨⟨dq, osq⟩, hw''⟩ := hw'
          subst hw''
          have hq := below_regrown w3 dq osq
          go_wp2_with fail
          exact ⟨⟨i + 1, by omega, by go_num, hd', bel_trans hB3 hq⟩, by simp [intOf]; omega⟩
        | false =>
          have hf : Kp (R = false) := ⟨by
            rw [Bool.eq_false_iff]
            intro t
            rw [(hiff.out t).2] at ho
            cases ho⟩
          rw [ho] at COi
          replace ety := Kp.mk ety
          clear ho hd
          have IO2 : Kp (∀ d os, Calls Tryz.prog 191 _ (Go.Sort.grow (redrawn w3 d) os) _) := ⟨fun d os => Calls.regrown_of (COi.out _ (below_regrown w3 d os))⟩
          go_upto_region 5 with fail
          rw [← hw3.out]
          refine wp_region_quiet_below (by kernel_rfl) (by kernel_rfl) ?_
          repeat (go_big_quiet_step (fail))
          go_big_quiet_step (exact IO2.out _ _)
          repeat (go_big_quiet_step (fail))
          refine wpQuiet_nil ?_
          intro _ hw'
          obtain ⟨⟨dq, osq⟩, hw''⟩ := hw'
          subst hw''
          have hq := below_regrown w3 dq osq
          go_wp2_with fail
          go_ret
          exact ⟨ret_bool (by rw [hf.out]; rfl), bel_trans hB3w hq⟩
      · have mt := nbT ety
        have hf : Kp (R = false) := ⟨by
          rw [Bool.eq_false_iff]
          intro t
          exact ety (hiff.out t).1⟩
        clear ety hd
        go_upto_region 5 with fail
        rw [← hw3.out]
        go_quiet (fail)
        go_wp2_with fail
        go_ret
        exact ⟨ret_bool (by rw [hf.out]; rfl), below_drewN hB3w _⟩
    · have hlt' : ¬ (i : Int) < (args.length : Int) := by omega
      have hT : Kp (R = true) := ⟨IFF.out.2 (fun j hj => hd.out j (by omega))⟩
      clear hd
      go_wp2_with fail
      refine (CC.out _ hBw).mono ?_
      rintro e w4 ⟨rfl, hb4⟩
      go_wp2_with fail
      go_ret
      exact ⟨ret_bool (by rw [hT.out]; rfl), bel_trans hBw hb4⟩

set_option maxRecDepth 100000 in
set_option maxHeartbeats 4000000 in
theorem argAl (gs : List GlD) (fs : List FnD) (ts : List Int) (a1 a2 a3 a4 a5 : Option Addr) (params : List Int) (blocks : List (List InD)) (c1 c2 c3 c4 c5 : Nat) (name : ByteArray) (link res bk : Int) (op ty sz : Int) (aa al as' : Option Addr) (args : List OpD) (bl ws : List Int) (ca' cl cs : Nat) (w : World) {lo l2 : Nat} (hm : MoAt lo w gs fs (.slice a1 gs.length c1) (.slice a2 fs.length c2)) (ht : Ints l2 .i64 w (.slice a5 ts.length c5) ts) (ha : Ops lo w (.slice aa args.length ca') args) (hw : Wid w) (hab : ∀ q ∈ args, OpB q) (hlen : (wanH op ty args res).length = args.length) :
    Calls Tryz.prog 150 #[scV (.slice a1 gs.length c1) (.slice a2 fs.length c2) name link (.slice a3 params.length c3) res (.slice a4 blocks.length c4) (.slice a5 ts.length c5) bk, kAl op ty (.slice aa args.length ca') sz] w fun e w' => e = .returned (.bool (agB gs.length ts args (wanH op ty args res) && true)) ∧ Below w.heap.size w w' := by
  have hng : gs.length ≤ 140737488355328 := by obtain ⟨_, _, q, _⟩ := hm.g.ex; exact q.le
  obtain ⟨ba, oa, ⟨⟨_, _, hve, k1, k2⟩, k3⟩, -, hac⟩ := ha.ex
  injection hve with e1 e2 e3
  subst e1 e3
  clear e2
  have g1 : (args.length : Int) ≤ 140737488355328 := by omega
  obtain ⟨W0, hW⟩ : ∃ W0, W0 = w.alloc (scC (.slice a1 gs.length c1) (.slice a2 fs.length c2) name link (.slice a3 params.length c3) res (.slice a4 blocks.length c4) (.slice a5 ts.length c5) bk) := ⟨_, rfl⟩
  have BB : Below w.heap.size w W0 := by rw [hW]; exact bel_alloc w _
  have sC0 : W0.heap[w.heap.size]? = some (scC (.slice a1 gs.length c1) (.slice a2 fs.length c2) name link (.slice a3 params.length c3) res (.slice a4 blocks.length c4) (.slice a5 ts.length c5) bk) := by rw [hW]; exact new_at w _
  have WA : Kp (∀ W, Below w.heap.size w W → Calls Tryz.prog 262 #[.agg #[.int .i64 op, .int .i64 ty, (.slice aa args.length ca')], scV (.slice a1 gs.length c1) (.slice a2 fs.length c2) name link (.slice a3 params.length c3) res (.slice a4 blocks.length c4) (.slice a5 ts.length c5) bk] W fun e w' => ∃ v, e = .returned v ∧ Ints 0 .i64 w' v (wanH op ty args res) ∧ Below W.heap.size W w') := ⟨fun W hB => hdWan op ty (.slice aa args.length ca') args a1 a2 a3 a4 a5 gs.length fs.length params.length blocks.length ts.length c1 c2 c3 c4 c5 name link res bk W (ha.keep hB) (hw.below hB)⟩
  have CA : Kp (∀ W, Calls Tryz.prog 256 #[hdV op ty (.slice aa args.length ca')] W fun e w' => e = .returned (.slice aa args.length ca') ∧ Below W.heap.size W w') := ⟨fun W => hdArgs op ty aa args.length ca' W⟩
  have CC : Kp (∀ W, Below w.heap.size w W → Calls Tryz.prog 257 #[.agg #[.int .i64 op, .int .i64 ty, (.slice aa args.length ca')]] W fun e w' => e = .returned (.bool (true)) ∧ Below W.heap.size W w') := ⟨fun W hB => hdCases op ty aa args.length ca' W⟩
  have CO : Kp (∀ W, Below w.heap.size w W → ∀ i, i < args.length → Calls Tryz.prog 191 #[scV (.slice a1 gs.length c1) (.slice a2 fs.length c2) name link (.slice a3 params.length c3) res (.slice a4 blocks.length c4) (.slice a5 ts.length c5) bk, opV4 (args.getD i default)] W fun e w' => e = .returned (.bool (opB gs.length ts (args.getD i default))) ∧ Below W.heap.size W w') := ⟨fun W hB i hi => by
    have hq := hab _ (show args.getD i default ∈ args by rw [inD_get hi]; exact List.getElem_mem _)
    exact isOpI a1 gs.length c1 a2 a3 a4 fs.length params.length blocks.length c2 c3 c4 name link res bk (.slice a5 ts.length c5) ts _ W (ht.keep hB) (hw.below hB) hng hq.w0 hq.w1⟩
  have AC : Kp (∀ W, Below w.heap.size w W → ∀ i, i < args.length → OpAt W ba (oa + i * 4) (args.getD i default)) := ⟨fun W hB i hi => by
    rw [inD_get hi]
    exact (hac i hi).keep hB⟩
  have XS : Kp (∀ W, Below W0.heap.size W0 W → W.heap[w.heap.size]? = some (scC (.slice a1 gs.length c1) (.slice a2 fs.length c2) name link (.slice a3 params.length c3) res (.slice a4 blocks.length c4) (.slice a5 ts.length c5) bk)) := ⟨fun W hB => kept_at sC0 hB⟩
  have IFF := Kp.mk (agB_iff gs.length ts args (wanH op ty args res))
  obtain ⟨wan, hwan⟩ : ∃ wan, wan = (wanH op ty args res) := ⟨_, rfl⟩
  rw [← hwan] at WA IFF hlen ⊢
  obtain ⟨R, hR⟩ : ∃ R, R = agB gs.length ts args wan := ⟨_, rfl⟩
  rw [← hR] at IFF ⊢
  obtain ⟨S, hS⟩ : ∃ S, S = (true) := ⟨_, rfl⟩
  rw [← hS] at CC ⊢
  replace hW := Kp.mk hW
  replace k2 := Kp.mk k2
  replace hlen := Kp.mk hlen
  clear hac hwan hR hS ha ht hm hw sC0 hab
  go_enter Tryz.func150, Tryz.ntmps150
  go_upto_region 1 with fail
  rw [← hW.out]
  have hx := XS.out W0 (Below.refl _ _)
  have s0 : At W0 w.heap.size 0 _ := cells_at hx rfl
  have s1 : At W0 w.heap.size 1 _ := cells_at hx rfl
  have s2 : At W0 w.heap.size 2 _ := cells_at hx rfl
  have s3 : At W0 w.heap.size 3 _ := cells_at hx rfl
  have s4 : At W0 w.heap.size 4 _ := cells_at hx rfl
  have s5 : At W0 w.heap.size 5 _ := cells_at hx rfl
  have s6 : At W0 w.heap.size 6 _ := cells_at hx rfl
  have s7 : At W0 w.heap.size 7 _ := cells_at hx rfl
  have s8 : At W0 w.heap.size 8 _ := cells_at hx rfl
  clear hx
  go_wp2_with fail
  refine (WA.out _ BB).mono ?_
  rintro e w1 ⟨wv, rfl, hwv, hb1⟩
  clear s0 s1 s2 s3 s4 s5 s6 s7 s8
  obtain ⟨bw, ow, ⟨⟨aw, cw, rfl, p1, p2⟩, p3⟩, -, pc⟩ := hwv.ex
  have g2 : (wan.length : Int) ≤ 140737488355328 := by omega
  have PC : Kp (∀ W, Below w1.heap.size w1 W → ∀ i, i < wan.length → At W bw (ow + i) (.int .i64 (wan.getD i 0))) := ⟨fun W hB i hi => by
    rw [show wan.getD i 0 = wan[i] by simp [List.getD_eq_getElem?_getD, hi]]
    exact at_keep (pc i hi) hB⟩
  replace p2 := Kp.mk p2
  clear pc hwv
  go_wp2_with fail
  refine (CA.out _).mono ?_
  rintro e w2 ⟨rfl, hb2⟩
  have hB02 := bel_trans hb1 hb2
  go_wp2_with fail
  go_loopw [14] (fun r wr => ∃ i : Nat, i ≤ args.length ∧ r = .int .i64 i ∧ Kp (∀ j, j < i → (args.getD j default).t = wan.getD j 0 ∧ opB gs.length ts (args.getD j default) = true) ∧ Below w2.heap.size w2 wr) (fun r _ => args.length - (intOf r).toNat)
  case atStart => exact ⟨0, Nat.zero_le _, rfl, ⟨fun j hj => absurd hj (by omega)⟩, Below.refl _ _⟩
  case round =>
    obtain ⟨i, hi, rfl, hd, hB⟩ := hrel
    have hB0 := bel_trans hB02 hB
    have hBw := bel_trans BB hB0
    by_cases hlt : i < args.length
    · obtain rfl := k2.out (by omega)
      have hll := hlen.out
      obtain rfl := p2.out (by omega)
      have hlt' : (i : Int) < (args.length : Int) := by omega
      have hltw : (i : Int) < (wan.length : Int) := by omega
      obtain ⟨oq, hoq⟩ : ∃ oq, oq = args.getD i default := ⟨_, rfl⟩
      obtain ⟨wi, hwi⟩ : ∃ wi, wi = wan.getD i 0 := ⟨_, rfl⟩
      have hac := AC.out _ hBw i hlt
      rw [← hoq] at hac
      obtain ⟨a0, a1', a2', a3'⟩ := hac
      obtain ⟨w3, hw3⟩ : ∃ w3, w3 = wr.alloc (Go.Obj.cells #[.int .i64 oq.k, .int .i64 oq.t, .int .i64 oq.i, .int .u64 oq.w] 85) := ⟨_, rfl⟩
      have hb3 : Below wr.heap.size wr w3 := by rw [hw3]; exact bel_alloc _ _
      have x3 := new_at wr (Go.Obj.cells #[.int .i64 oq.k, .int .i64 oq.t, .int .i64 oq.i, .int .u64 oq.w] 85)
      rw [← hw3] at x3
      have q0 : At w3 wr.heap.size 0 _ := cells_at x3 rfl
      have q1 : At w3 wr.heap.size 1 _ := cells_at x3 rfl
      have q2 : At w3 wr.heap.size 2 _ := cells_at x3 rfl
      have q3 : At w3 wr.heap.size 3 _ := cells_at x3 rfl
      have hB3 := bel_trans hB hb3
      have hx := XS.out w3 (bel_trans hB02 hB3)
      have s0 : At w3 w.heap.size 0 _ := cells_at hx rfl
      have s1 : At w3 w.heap.size 1 _ := cells_at hx rfl
      have s2 : At w3 w.heap.size 2 _ := cells_at hx rfl
      have s3 : At w3 w.heap.size 3 _ := cells_at hx rfl
      have s4 : At w3 w.heap.size 4 _ := cells_at hx rfl
      have s5 : At w3 w.heap.size 5 _ := cells_at hx rfl
      have s6 : At w3 w.heap.size 6 _ := cells_at hx rfl
      have s7 : At w3 w.heap.size 7 _ := cells_at hx rfl
      have s8 : At w3 w.heap.size 8 _ := cells_at hx rfl
      have pw := PC.out w3 (bel_trans hb2 hB3) i (by omega)
      rw [← hwi] at pw
      have COi := Kp.mk (fun W (hW : Below w3.heap.size w3 W) => CO.out W (bel_trans hBw (bel_trans hb3 hW)) i hlt)
      rw [← hoq] at COi
      have hB3w := bel_trans hBw hb3
      have hiff := Kp.mk (fun t => IFF.out.1 t i hlt)
      rw [← hoq, ← hwi] at hiff
      replace hoq := Kp.mk hoq
      replace hwi := Kp.mk hwi
      replace hw3 := Kp.mk hw3
      clear hx x3 hll
      by_cases ety : oq.t = wi
      · have mt : (oq.t != wi) = false := by simp [ety]
        have kq0 := cell_regrown q0
        have kq1 := cell_regrown q1
        have kq2 := cell_regrown q2
        have kq3 := cell_regrown q3
        have ks0 := cell_regrown s0
        have ks1 := cell_regrown s1
        have ks2 := cell_regrown s2
        have ks3 := cell_regrown s3
        have ks4 := cell_regrown s4
        have ks5 := cell_regrown s5
        have ks6 := cell_regrown s6
        have ks7 := cell_regrown s7
        have ks8 := cell_regrown s8
        have kpw := cell_regrown pw
        cases ho : opB gs.length ts oq with
        | true =>
          have hd' : Kp (∀ j, j < i + 1 → (args.getD j default).t = wan.getD j 0 ∧ opB gs.length ts (args.getD j default) = true) := ⟨fun j hj => by
            by_cases e : j = i
            · rw [e, ← hoq.out, ← hwi.out]; exact ⟨ety, ho⟩
            · exact hd.out j (by omega)⟩
          rw [ho] at COi
          replace ety := Kp.mk ety
          clear ho hd
          have IO2 : Kp (∀ d os, Calls Tryz.prog 191 _ (Go.Sort.grow (redrawn w3 d) os) _) := ⟨fun d os => Calls.regrown_of (COi.out _ (below_regrown w3 d os))⟩
          go_upto_region 5 with fail
          rw [← hw3.out]
          refine wp_region_quiet_below (by kernel_rfl) (by kernel_rfl) ?_
          repeat (go_big_quiet_step (fail))
          go_big_quiet_step (exact IO2.out _ _)
          repeat (go_big_quiet_step (fail))
          refine wpQuiet_nil ?_
          intro _ hw'
          obtain ⟨⟨dq, osq⟩, hw''⟩ := hw'
          subst hw''
          have hq := below_regrown w3 dq osq
          go_wp2_with fail
          exact ⟨⟨i + 1, by omega, by go_num, hd', bel_trans hB3 hq⟩, by simp [intOf]; omega⟩
        | false =>
          have hf : Kp (R = false) := ⟨by
            rw [Bool.eq_false_iff]
            intro t
            rw [(hiff.out t).2] at ho
            cases ho⟩
          rw [ho] at COi
          replace ety := Kp.mk ety
          clear ho hd
          have IO2 : Kp (∀ d os, Calls Tryz.prog 191 _ (Go.Sort.grow (redrawn w3 d) os) _) := ⟨fun d os => Calls.regrown_of (COi.out _ (below_regrown w3 d os))⟩
          go_upto_region 5 with fail
          rw [← hw3.out]
          refine wp_region_quiet_below (by kernel_rfl) (by kernel_rfl) ?_
          repeat (go_big_quiet_step (fail))
          go_big_quiet_step (exact IO2.out _ _)
          repeat (go_big_quiet_step (fail))
          refine wpQuiet_nil ?_
          intro _ hw'
          obtain ⟨⟨dq, osq⟩, hw''⟩ := hw'
          subst hw''
          have hq := below_regrown w3 dq osq
          go_wp2_with fail
          go_ret
          exact ⟨ret_bool (by rw [hf.out]; rfl), bel_trans hB3w hq⟩
      · have mt := nbT ety
        have hf : Kp (R = false) := ⟨by
          rw [Bool.eq_false_iff]
          intro t
          exact ety (hiff.out t).1⟩
        clear ety hd
        go_upto_region 5 with fail
        rw [← hw3.out]
        go_quiet (fail)
        go_wp2_with fail
        go_ret
        exact ⟨ret_bool (by rw [hf.out]; rfl), below_drewN hB3w _⟩
    · have hlt' : ¬ (i : Int) < (args.length : Int) := by omega
      have hT : Kp (R = true) := ⟨IFF.out.2 (fun j hj => hd.out j (by omega))⟩
      clear hd
      go_wp2_with fail
      refine (CC.out _ hBw).mono ?_
      rintro e w4 ⟨rfl, hb4⟩
      go_wp2_with fail
      go_ret
      exact ⟨ret_bool (by rw [hT.out]; rfl), bel_trans hBw hb4⟩

set_option maxRecDepth 100000 in
set_option maxHeartbeats 4000000 in
theorem argIn (gs : List GlD) (fs : List FnD) (ts : List Int) (a1 a2 a3 a4 a5 : Option Addr) (params : List Int) (blocks : List (List InD)) (c1 c2 c3 c4 c5 : Nat) (name : ByteArray) (link res bk : Int) (op ty ca : Int) (aa al as' : Option Addr) (args : List OpD) (bl ws : List Int) (ca' cl cs : Nat) (w : World) {lo l2 : Nat} (hm : MoAt lo w gs fs (.slice a1 gs.length c1) (.slice a2 fs.length c2)) (ht : Ints l2 .i64 w (.slice a5 ts.length c5) ts) (ha : Ops lo w (.slice aa args.length ca') args) (hw : Wid w) (hab : ∀ q ∈ args, OpB q) (hlen : ((if isIx ca fs.length = true then (calD fs ca).params else [])).length = args.length) :
    Calls Tryz.prog 150 #[scV (.slice a1 gs.length c1) (.slice a2 fs.length c2) name link (.slice a3 params.length c3) res (.slice a4 blocks.length c4) (.slice a5 ts.length c5) bk, kIn op ty (.slice aa args.length ca') ca] w fun e w' => e = .returned (.bool (agB gs.length ts args ((if isIx ca fs.length = true then (calD fs ca).params else [])) && true)) ∧ Below w.heap.size w w' := by
  have hng : gs.length ≤ 140737488355328 := by obtain ⟨_, _, q, _⟩ := hm.g.ex; exact q.le
  obtain ⟨ba, oa, ⟨⟨_, _, hve, k1, k2⟩, k3⟩, -, hac⟩ := ha.ex
  injection hve with e1 e2 e3
  subst e1 e3
  clear e2
  have g1 : (args.length : Int) ≤ 140737488355328 := by omega
  obtain ⟨W0, hW⟩ : ∃ W0, W0 = w.alloc (scC (.slice a1 gs.length c1) (.slice a2 fs.length c2) name link (.slice a3 params.length c3) res (.slice a4 blocks.length c4) (.slice a5 ts.length c5) bk) := ⟨_, rfl⟩
  have BB : Below w.heap.size w W0 := by rw [hW]; exact bel_alloc w _
  have sC0 : W0.heap[w.heap.size]? = some (scC (.slice a1 gs.length c1) (.slice a2 fs.length c2) name link (.slice a3 params.length c3) res (.slice a4 blocks.length c4) (.slice a5 ts.length c5) bk) := by rw [hW]; exact new_at w _
  have WA : Kp (∀ W, Below w.heap.size w W → Calls Tryz.prog 274 #[.agg #[.int .i64 op, .int .i64 ty, (.slice aa args.length ca'), .int .i64 ca], scV (.slice a1 gs.length c1) (.slice a2 fs.length c2) name link (.slice a3 params.length c3) res (.slice a4 blocks.length c4) (.slice a5 ts.length c5) bk] W fun e w' => ∃ v, e = .returned v ∧ Ints 0 .i64 w' v ((if isIx ca fs.length = true then (calD fs ca).params else [])) ∧ Below W.heap.size W w') := ⟨fun W hB => inWan op ty ca aa args.length ca' a1 a2 a3 a4 a5 gs.length params.length blocks.length ts.length c1 c2 c3 c4 c5 fs name link res bk W (hm.f.keep hB)⟩
  have CA : Kp (∀ W, Calls Tryz.prog 256 #[hdV op ty (.slice aa args.length ca')] W fun e w' => e = .returned (.slice aa args.length ca') ∧ Below W.heap.size W w') := ⟨fun W => hdArgs op ty aa args.length ca' W⟩
  have CC : Kp (∀ W, Below w.heap.size w W → Calls Tryz.prog 257 #[.agg #[.int .i64 op, .int .i64 ty, (.slice aa args.length ca')]] W fun e w' => e = .returned (.bool (true)) ∧ Below W.heap.size W w') := ⟨fun W hB => hdCases op ty aa args.length ca' W⟩
  have CO : Kp (∀ W, Below w.heap.size w W → ∀ i, i < args.length → Calls Tryz.prog 191 #[scV (.slice a1 gs.length c1) (.slice a2 fs.length c2) name link (.slice a3 params.length c3) res (.slice a4 blocks.length c4) (.slice a5 ts.length c5) bk, opV4 (args.getD i default)] W fun e w' => e = .returned (.bool (opB gs.length ts (args.getD i default))) ∧ Below W.heap.size W w') := ⟨fun W hB i hi => by
    have hq := hab _ (show args.getD i default ∈ args by rw [inD_get hi]; exact List.getElem_mem _)
    exact isOpI a1 gs.length c1 a2 a3 a4 fs.length params.length blocks.length c2 c3 c4 name link res bk (.slice a5 ts.length c5) ts _ W (ht.keep hB) (hw.below hB) hng hq.w0 hq.w1⟩
  have AC : Kp (∀ W, Below w.heap.size w W → ∀ i, i < args.length → OpAt W ba (oa + i * 4) (args.getD i default)) := ⟨fun W hB i hi => by
    rw [inD_get hi]
    exact (hac i hi).keep hB⟩
  have XS : Kp (∀ W, Below W0.heap.size W0 W → W.heap[w.heap.size]? = some (scC (.slice a1 gs.length c1) (.slice a2 fs.length c2) name link (.slice a3 params.length c3) res (.slice a4 blocks.length c4) (.slice a5 ts.length c5) bk)) := ⟨fun W hB => kept_at sC0 hB⟩
  have IFF := Kp.mk (agB_iff gs.length ts args ((if isIx ca fs.length = true then (calD fs ca).params else [])))
  obtain ⟨wan, hwan⟩ : ∃ wan, wan = ((if isIx ca fs.length = true then (calD fs ca).params else [])) := ⟨_, rfl⟩
  rw [← hwan] at WA IFF hlen ⊢
  obtain ⟨R, hR⟩ : ∃ R, R = agB gs.length ts args wan := ⟨_, rfl⟩
  rw [← hR] at IFF ⊢
  obtain ⟨S, hS⟩ : ∃ S, S = (true) := ⟨_, rfl⟩
  rw [← hS] at CC ⊢
  replace hW := Kp.mk hW
  replace k2 := Kp.mk k2
  replace hlen := Kp.mk hlen
  clear hac hwan hR hS ha ht hm hw sC0 hab
  go_enter Tryz.func150, Tryz.ntmps150
  go_upto_region 1 with fail
  rw [← hW.out]
  have hx := XS.out W0 (Below.refl _ _)
  have s0 : At W0 w.heap.size 0 _ := cells_at hx rfl
  have s1 : At W0 w.heap.size 1 _ := cells_at hx rfl
  have s2 : At W0 w.heap.size 2 _ := cells_at hx rfl
  have s3 : At W0 w.heap.size 3 _ := cells_at hx rfl
  have s4 : At W0 w.heap.size 4 _ := cells_at hx rfl
  have s5 : At W0 w.heap.size 5 _ := cells_at hx rfl
  have s6 : At W0 w.heap.size 6 _ := cells_at hx rfl
  have s7 : At W0 w.heap.size 7 _ := cells_at hx rfl
  have s8 : At W0 w.heap.size 8 _ := cells_at hx rfl
  clear hx
  go_wp2_with fail
  refine (WA.out _ BB).mono ?_
  rintro e w1 ⟨wv, rfl, hwv, hb1⟩
  clear s0 s1 s2 s3 s4 s5 s6 s7 s8
  obtain ⟨bw, ow, ⟨⟨aw, cw, rfl, p1, p2⟩, p3⟩, -, pc⟩ := hwv.ex
  have g2 : (wan.length : Int) ≤ 140737488355328 := by omega
  have PC : Kp (∀ W, Below w1.heap.size w1 W → ∀ i, i < wan.length → At W bw (ow + i) (.int .i64 (wan.getD i 0))) := ⟨fun W hB i hi => by
    rw [show wan.getD i 0 = wan[i] by simp [List.getD_eq_getElem?_getD, hi]]
    exact at_keep (pc i hi) hB⟩
  replace p2 := Kp.mk p2
  clear pc hwv
  go_wp2_with fail
  refine (CA.out _).mono ?_
  rintro e w2 ⟨rfl, hb2⟩
  have hB02 := bel_trans hb1 hb2
  go_wp2_with fail
  go_loopw [14] (fun r wr => ∃ i : Nat, i ≤ args.length ∧ r = .int .i64 i ∧ Kp (∀ j, j < i → (args.getD j default).t = wan.getD j 0 ∧ opB gs.length ts (args.getD j default) = true) ∧ Below w2.heap.size w2 wr) (fun r _ => args.length - (intOf r).toNat)
  case atStart => exact ⟨0, Nat.zero_le _, rfl, ⟨fun j hj => absurd hj (by omega)⟩, Below.refl _ _⟩
  case round =>
    obtain ⟨i, hi, rfl, hd, hB⟩ := hrel
    have hB0 := bel_trans hB02 hB
    have hBw := bel_trans BB hB0
    by_cases hlt : i < args.length
    · obtain rfl := k2.out (by omega)
      have hll := hlen.out
      obtain rfl := p2.out (by omega)
      have hlt' : (i : Int) < (args.length : Int) := by omega
      have hltw : (i : Int) < (wan.length : Int) := by omega
      obtain ⟨oq, hoq⟩ : ∃ oq, oq = args.getD i default := ⟨_, rfl⟩
      obtain ⟨wi, hwi⟩ : ∃ wi, wi = wan.getD i 0 := ⟨_, rfl⟩
      have hac := AC.out _ hBw i hlt
      rw [← hoq] at hac
      obtain ⟨a0, a1', a2', a3'⟩ := hac
      obtain ⟨w3, hw3⟩ : ∃ w3, w3 = wr.alloc (Go.Obj.cells #[.int .i64 oq.k, .int .i64 oq.t, .int .i64 oq.i, .int .u64 oq.w] 85) := ⟨_, rfl⟩
      have hb3 : Below wr.heap.size wr w3 := by rw [hw3]; exact bel_alloc _ _
      have x3 := new_at wr (Go.Obj.cells #[.int .i64 oq.k, .int .i64 oq.t, .int .i64 oq.i, .int .u64 oq.w] 85)
      rw [← hw3] at x3
      have q0 : At w3 wr.heap.size 0 _ := cells_at x3 rfl
      have q1 : At w3 wr.heap.size 1 _ := cells_at x3 rfl
      have q2 : At w3 wr.heap.size 2 _ := cells_at x3 rfl
      have q3 : At w3 wr.heap.size 3 _ := cells_at x3 rfl
      have hB3 := bel_trans hB hb3
      have hx := XS.out w3 (bel_trans hB02 hB3)
      have s0 : At w3 w.heap.size 0 _ := cells_at hx rfl
      have s1 : At w3 w.heap.size 1 _ := cells_at hx rfl
      have s2 : At w3 w.heap.size 2 _ := cells_at hx rfl
      have s3 : At w3 w.heap.size 3 _ := cells_at hx rfl
      have s4 : At w3 w.heap.size 4 _ := cells_at hx rfl
      have s5 : At w3 w.heap.size 5 _ := cells_at hx rfl
      have s6 : At w3 w.heap.size 6 _ := cells_at hx rfl
      have s7 : At w3 w.heap.size 7 _ := cells_at hx rfl
      have s8 : At w3 w.heap.size 8 _ := cells_at hx rfl
      have pw := PC.out w3 (bel_trans hb2 hB3) i (by omega)
      rw [← hwi] at pw
      have COi := Kp.mk (fun W (hW : Below w3.heap.size w3 W) => CO.out W (bel_trans hBw (bel_trans hb3 hW)) i hlt)
      rw [← hoq] at COi
      have hB3w := bel_trans hBw hb3
      have hiff := Kp.mk (fun t => IFF.out.1 t i hlt)
      rw [← hoq, ← hwi] at hiff
      replace hoq := Kp.mk hoq
      replace hwi := Kp.mk hwi
      replace hw3 := Kp.mk hw3
      clear hx x3 hll
      by_cases ety : oq.t = wi
      · have mt : (oq.t != wi) = false := by simp [ety]
        have kq0 := cell_regrown q0
        have kq1 := cell_regrown q1
        have kq2 := cell_regrown q2
        have kq3 := cell_regrown q3
        have ks0 := cell_regrown s0
        have ks1 := cell_regrown s1
        have ks2 := cell_regrown s2
        have ks3 := cell_regrown s3
        have ks4 := cell_regrown s4
        have ks5 := cell_regrown s5
        have ks6 := cell_regrown s6
        have ks7 := cell_regrown s7
        have ks8 := cell_regrown s8
        have kpw := cell_regrown pw
        cases ho : opB gs.length ts oq with
        | true =>
          have hd' : Kp (∀ j, j < i + 1 → (args.getD j default).t = wan.getD j 0 ∧ opB gs.length ts (args.getD j default) = true) := ⟨fun j hj => by
            by_cases e : j = i
            · rw [e, ← hoq.out, ← hwi.out]; exact ⟨ety, ho⟩
            · exact hd.out j (by omega)⟩
          rw [ho] at COi
          replace ety := Kp.mk ety
          clear ho hd
          have IO2 : Kp (∀ d os, Calls Tryz.prog 191 _ (Go.Sort.grow (redrawn w3 d) os) _) := ⟨fun d os => Calls.regrown_of (COi.out _ (below_regrown w3 d os))⟩
          go_upto_region 5 with fail
          rw [← hw3.out]
          refine wp_region_quiet_below (by kernel_rfl) (by kernel_rfl) ?_
          repeat (go_big_quiet_step (fail))
          go_big_quiet_step (exact IO2.out _ _)
          repeat (go_big_quiet_step (fail))
          refine wpQuiet_nil ?_
          intro _ hw'
          obtain ⟨⟨dq, osq⟩, hw''⟩ := hw'
          subst hw''
          have hq := below_regrown w3 dq osq
          go_wp2_with fail
          exact ⟨⟨i + 1, by omega, by go_num, hd', bel_trans hB3 hq⟩, by simp [intOf]; omega⟩
        | false =>
          have hf : Kp (R = false) := ⟨by
            rw [Bool.eq_false_iff]
            intro t
            rw [(hiff.out t).2] at ho
            cases ho⟩
          rw [ho] at COi
          replace ety := Kp.mk ety
          clear ho hd
          have IO2 : Kp (∀ d os, Calls Tryz.prog 191 _ (Go.Sort.grow (redrawn w3 d) os) _) := ⟨fun d os => Calls.regrown_of (COi.out _ (below_regrown w3 d os))⟩
          go_upto_region 5 with fail
          rw [← hw3.out]
          refine wp_region_quiet_below (by kernel_rfl) (by kernel_rfl) ?_
          repeat (go_big_quiet_step (fail))
          go_big_quiet_step (exact IO2.out _ _)
          repeat (go_big_quiet_step (fail))
          refine wpQuiet_nil ?_
          intro _ hw'
          obtain ⟨⟨dq, osq⟩, hw''⟩ := hw'
          subst hw''
          have hq := below_regrown w3 dq osq
          go_wp2_with fail
          go_ret
          exact ⟨ret_bool (by rw [hf.out]; rfl), bel_trans hB3w hq⟩
      · have mt := nbT ety
        have hf : Kp (R = false) := ⟨by
          rw [Bool.eq_false_iff]
          intro t
          exact ety (hiff.out t).1⟩
        clear ety hd
        go_upto_region 5 with fail
        rw [← hw3.out]
        go_quiet (fail)
        go_wp2_with fail
        go_ret
        exact ⟨ret_bool (by rw [hf.out]; rfl), below_drewN hB3w _⟩
    · have hlt' : ¬ (i : Int) < (args.length : Int) := by omega
      have hT : Kp (R = true) := ⟨IFF.out.2 (fun j hj => hd.out j (by omega))⟩
      clear hd
      go_wp2_with fail
      refine (CC.out _ hBw).mono ?_
      rintro e w4 ⟨rfl, hb4⟩
      go_wp2_with fail
      go_ret
      exact ⟨ret_bool (by rw [hT.out]; rfl), bel_trans hBw hb4⟩

set_option maxRecDepth 100000 in
set_option maxHeartbeats 4000000 in
theorem argJn (gs : List GlD) (fs : List FnD) (ts : List Int) (a1 a2 a3 a4 a5 : Option Addr) (params : List Int) (blocks : List (List InD)) (c1 c2 c3 c4 c5 : Nat) (name : ByteArray) (link res bk : Int) (op ty : Int) (aa al as' : Option Addr) (args : List OpD) (bl ws : List Int) (ca' cl cs : Nat) (w : World) {lo l2 : Nat} (hm : MoAt lo w gs fs (.slice a1 gs.length c1) (.slice a2 fs.length c2)) (ht : Ints l2 .i64 w (.slice a5 ts.length c5) ts) (ha : Ops lo w (.slice aa args.length ca') args) (hj : op = 20 → 1 ≤ args.length) (hn : args.length ≤ 1048576) (hw : Wid w) (hab : ∀ q ∈ args, OpB q) (hlen : (wanJ op ty args.length).length = args.length) :
    Calls Tryz.prog 150 #[scV (.slice a1 gs.length c1) (.slice a2 fs.length c2) name link (.slice a3 params.length c3) res (.slice a4 blocks.length c4) (.slice a5 ts.length c5) bk, kJn op ty (.slice aa args.length ca') (.slice al bl.length cl)] w fun e w' => e = .returned (.bool (agB gs.length ts args (wanJ op ty args.length) && true)) ∧ Below w.heap.size w w' := by
  have hng : gs.length ≤ 140737488355328 := by obtain ⟨_, _, q, _⟩ := hm.g.ex; exact q.le
  obtain ⟨ba, oa, ⟨⟨_, _, hve, k1, k2⟩, k3⟩, -, hac⟩ := ha.ex
  injection hve with e1 e2 e3
  subst e1 e3
  clear e2
  have g1 : (args.length : Int) ≤ 140737488355328 := by omega
  obtain ⟨W0, hW⟩ : ∃ W0, W0 = w.alloc (scC (.slice a1 gs.length c1) (.slice a2 fs.length c2) name link (.slice a3 params.length c3) res (.slice a4 blocks.length c4) (.slice a5 ts.length c5) bk) := ⟨_, rfl⟩
  have BB : Below w.heap.size w W0 := by rw [hW]; exact bel_alloc w _
  have sC0 : W0.heap[w.heap.size]? = some (scC (.slice a1 gs.length c1) (.slice a2 fs.length c2) name link (.slice a3 params.length c3) res (.slice a4 blocks.length c4) (.slice a5 ts.length c5) bk) := by rw [hW]; exact new_at w _
  have WA : Kp (∀ W, Below w.heap.size w W → Calls Tryz.prog 277 #[.agg #[.int .i64 op, .int .i64 ty, (.slice aa args.length ca'), (.slice al bl.length cl)], scV (.slice a1 gs.length c1) (.slice a2 fs.length c2) name link (.slice a3 params.length c3) res (.slice a4 blocks.length c4) (.slice a5 ts.length c5) bk] W fun e w' => ∃ v, e = .returned v ∧ Ints 0 .i64 w' v (wanJ op ty args.length) ∧ Below W.heap.size W w') := ⟨fun W hB => jnWan op ty aa al args.length ca' bl.length cl a1 a2 a3 a4 a5 gs.length fs.length params.length blocks.length ts.length c1 c2 c3 c4 c5 name link res bk W hj hn⟩
  have CA : Kp (∀ W, Calls Tryz.prog 256 #[hdV op ty (.slice aa args.length ca')] W fun e w' => e = .returned (.slice aa args.length ca') ∧ Below W.heap.size W w') := ⟨fun W => hdArgs op ty aa args.length ca' W⟩
  have CC : Kp (∀ W, Below w.heap.size w W → Calls Tryz.prog 257 #[.agg #[.int .i64 op, .int .i64 ty, (.slice aa args.length ca')]] W fun e w' => e = .returned (.bool (true)) ∧ Below W.heap.size W w') := ⟨fun W hB => hdCases op ty aa args.length ca' W⟩
  have CO : Kp (∀ W, Below w.heap.size w W → ∀ i, i < args.length → Calls Tryz.prog 191 #[scV (.slice a1 gs.length c1) (.slice a2 fs.length c2) name link (.slice a3 params.length c3) res (.slice a4 blocks.length c4) (.slice a5 ts.length c5) bk, opV4 (args.getD i default)] W fun e w' => e = .returned (.bool (opB gs.length ts (args.getD i default))) ∧ Below W.heap.size W w') := ⟨fun W hB i hi => by
    have hq := hab _ (show args.getD i default ∈ args by rw [inD_get hi]; exact List.getElem_mem _)
    exact isOpI a1 gs.length c1 a2 a3 a4 fs.length params.length blocks.length c2 c3 c4 name link res bk (.slice a5 ts.length c5) ts _ W (ht.keep hB) (hw.below hB) hng hq.w0 hq.w1⟩
  have AC : Kp (∀ W, Below w.heap.size w W → ∀ i, i < args.length → OpAt W ba (oa + i * 4) (args.getD i default)) := ⟨fun W hB i hi => by
    rw [inD_get hi]
    exact (hac i hi).keep hB⟩
  have XS : Kp (∀ W, Below W0.heap.size W0 W → W.heap[w.heap.size]? = some (scC (.slice a1 gs.length c1) (.slice a2 fs.length c2) name link (.slice a3 params.length c3) res (.slice a4 blocks.length c4) (.slice a5 ts.length c5) bk)) := ⟨fun W hB => kept_at sC0 hB⟩
  have IFF := Kp.mk (agB_iff gs.length ts args (wanJ op ty args.length))
  obtain ⟨wan, hwan⟩ : ∃ wan, wan = (wanJ op ty args.length) := ⟨_, rfl⟩
  rw [← hwan] at WA IFF hlen ⊢
  obtain ⟨R, hR⟩ : ∃ R, R = agB gs.length ts args wan := ⟨_, rfl⟩
  rw [← hR] at IFF ⊢
  obtain ⟨S, hS⟩ : ∃ S, S = (true) := ⟨_, rfl⟩
  rw [← hS] at CC ⊢
  replace hW := Kp.mk hW
  replace k2 := Kp.mk k2
  replace hlen := Kp.mk hlen
  clear hac hwan hR hS ha ht hm hw sC0 hab
  go_enter Tryz.func150, Tryz.ntmps150
  go_upto_region 1 with fail
  rw [← hW.out]
  have hx := XS.out W0 (Below.refl _ _)
  have s0 : At W0 w.heap.size 0 _ := cells_at hx rfl
  have s1 : At W0 w.heap.size 1 _ := cells_at hx rfl
  have s2 : At W0 w.heap.size 2 _ := cells_at hx rfl
  have s3 : At W0 w.heap.size 3 _ := cells_at hx rfl
  have s4 : At W0 w.heap.size 4 _ := cells_at hx rfl
  have s5 : At W0 w.heap.size 5 _ := cells_at hx rfl
  have s6 : At W0 w.heap.size 6 _ := cells_at hx rfl
  have s7 : At W0 w.heap.size 7 _ := cells_at hx rfl
  have s8 : At W0 w.heap.size 8 _ := cells_at hx rfl
  clear hx
  go_wp2_with fail
  refine (WA.out _ BB).mono ?_
  rintro e w1 ⟨wv, rfl, hwv, hb1⟩
  clear s0 s1 s2 s3 s4 s5 s6 s7 s8
  obtain ⟨bw, ow, ⟨⟨aw, cw, rfl, p1, p2⟩, p3⟩, -, pc⟩ := hwv.ex
  have g2 : (wan.length : Int) ≤ 140737488355328 := by omega
  have PC : Kp (∀ W, Below w1.heap.size w1 W → ∀ i, i < wan.length → At W bw (ow + i) (.int .i64 (wan.getD i 0))) := ⟨fun W hB i hi => by
    rw [show wan.getD i 0 = wan[i] by simp [List.getD_eq_getElem?_getD, hi]]
    exact at_keep (pc i hi) hB⟩
  replace p2 := Kp.mk p2
  clear pc hwv
  go_wp2_with fail
  refine (CA.out _).mono ?_
  rintro e w2 ⟨rfl, hb2⟩
  have hB02 := bel_trans hb1 hb2
  go_wp2_with fail
  go_loopw [14] (fun r wr => ∃ i : Nat, i ≤ args.length ∧ r = .int .i64 i ∧ Kp (∀ j, j < i → (args.getD j default).t = wan.getD j 0 ∧ opB gs.length ts (args.getD j default) = true) ∧ Below w2.heap.size w2 wr) (fun r _ => args.length - (intOf r).toNat)
  case atStart => exact ⟨0, Nat.zero_le _, rfl, ⟨fun j hj => absurd hj (by omega)⟩, Below.refl _ _⟩
  case round =>
    obtain ⟨i, hi, rfl, hd, hB⟩ := hrel
    have hB0 := bel_trans hB02 hB
    have hBw := bel_trans BB hB0
    by_cases hlt : i < args.length
    · obtain rfl := k2.out (by omega)
      have hll := hlen.out
      obtain rfl := p2.out (by omega)
      have hlt' : (i : Int) < (args.length : Int) := by omega
      have hltw : (i : Int) < (wan.length : Int) := by omega
      obtain ⟨oq, hoq⟩ : ∃ oq, oq = args.getD i default := ⟨_, rfl⟩
      obtain ⟨wi, hwi⟩ : ∃ wi, wi = wan.getD i 0 := ⟨_, rfl⟩
      have hac := AC.out _ hBw i hlt
      rw [← hoq] at hac
      obtain ⟨a0, a1', a2', a3'⟩ := hac
      obtain ⟨w3, hw3⟩ : ∃ w3, w3 = wr.alloc (Go.Obj.cells #[.int .i64 oq.k, .int .i64 oq.t, .int .i64 oq.i, .int .u64 oq.w] 85) := ⟨_, rfl⟩
      have hb3 : Below wr.heap.size wr w3 := by rw [hw3]; exact bel_alloc _ _
      have x3 := new_at wr (Go.Obj.cells #[.int .i64 oq.k, .int .i64 oq.t, .int .i64 oq.i, .int .u64 oq.w] 85)
      rw [← hw3] at x3
      have q0 : At w3 wr.heap.size 0 _ := cells_at x3 rfl
      have q1 : At w3 wr.heap.size 1 _ := cells_at x3 rfl
      have q2 : At w3 wr.heap.size 2 _ := cells_at x3 rfl
      have q3 : At w3 wr.heap.size 3 _ := cells_at x3 rfl
      have hB3 := bel_trans hB hb3
      have hx := XS.out w3 (bel_trans hB02 hB3)
      have s0 : At w3 w.heap.size 0 _ := cells_at hx rfl
      have s1 : At w3 w.heap.size 1 _ := cells_at hx rfl
      have s2 : At w3 w.heap.size 2 _ := cells_at hx rfl
      have s3 : At w3 w.heap.size 3 _ := cells_at hx rfl
      have s4 : At w3 w.heap.size 4 _ := cells_at hx rfl
      have s5 : At w3 w.heap.size 5 _ := cells_at hx rfl
      have s6 : At w3 w.heap.size 6 _ := cells_at hx rfl
      have s7 : At w3 w.heap.size 7 _ := cells_at hx rfl
      have s8 : At w3 w.heap.size 8 _ := cells_at hx rfl
      have pw := PC.out w3 (bel_trans hb2 hB3) i (by omega)
      rw [← hwi] at pw
      have COi := Kp.mk (fun W (hW : Below w3.heap.size w3 W) => CO.out W (bel_trans hBw (bel_trans hb3 hW)) i hlt)
      rw [← hoq] at COi
      have hB3w := bel_trans hBw hb3
      have hiff := Kp.mk (fun t => IFF.out.1 t i hlt)
      rw [← hoq, ← hwi] at hiff
      replace hoq := Kp.mk hoq
      replace hwi := Kp.mk hwi
      replace hw3 := Kp.mk hw3
      clear hx x3 hll
      by_cases ety : oq.t = wi
      · have mt : (oq.t != wi) = false := by simp [ety]
        have kq0 := cell_regrown q0
        have kq1 := cell_regrown q1
        have kq2 := cell_regrown q2
        have kq3 := cell_regrown q3
        have ks0 := cell_regrown s0
        have ks1 := cell_regrown s1
        have ks2 := cell_regrown s2
        have ks3 := cell_regrown s3
        have ks4 := cell_regrown s4
        have ks5 := cell_regrown s5
        have ks6 := cell_regrown s6
        have ks7 := cell_regrown s7
        have ks8 := cell_regrown s8
        have kpw := cell_regrown pw
        cases ho : opB gs.length ts oq with
        | true =>
          have hd' : Kp (∀ j, j < i + 1 → (args.getD j default).t = wan.getD j 0 ∧ opB gs.length ts (args.getD j default) = true) := ⟨fun j hj => by
            by_cases e : j = i
            · rw [e, ← hoq.out, ← hwi.out]; exact ⟨ety, ho⟩
            · exact hd.out j (by omega)⟩
          rw [ho] at COi
          replace ety := Kp.mk ety
          clear ho hd
          have IO2 : Kp (∀ d os, Calls Tryz.prog 191 _ (Go.Sort.grow (redrawn w3 d) os) _) := ⟨fun d os => Calls.regrown_of (COi.out _ (below_regrown w3 d os))⟩
          go_upto_region 5 with fail
          rw [← hw3.out]
          refine wp_region_quiet_below (by kernel_rfl) (by kernel_rfl) ?_
          repeat (go_big_quiet_step (fail))
          go_big_quiet_step (exact IO2.out _ _)
          repeat (go_big_quiet_step (fail))
          refine wpQuiet_nil ?_
          intro _ hw'
          obtain ⟨⟨dq, osq⟩, hw''⟩ := hw'
          subst hw''
          have hq := below_regrown w3 dq osq
          go_wp2_with fail
          exact ⟨⟨i + 1, by omega, by go_num, hd', bel_trans hB3 hq⟩, by simp [intOf]; omega⟩
        | false =>
          have hf : Kp (R = false) := ⟨by
            rw [Bool.eq_false_iff]
            intro t
            rw [(hiff.out t).2] at ho
            cases ho⟩
          rw [ho] at COi
          replace ety := Kp.mk ety
          clear ho hd
          have IO2 : Kp (∀ d os, Calls Tryz.prog 191 _ (Go.Sort.grow (redrawn w3 d) os) _) := ⟨fun d os => Calls.regrown_of (COi.out _ (below_regrown w3 d os))⟩
          go_upto_region 5 with fail
          rw [← hw3.out]
          refine wp_region_quiet_below (by kernel_rfl) (by kernel_rfl) ?_
          repeat (go_big_quiet_step (fail))
          go_big_quiet_step (exact IO2.out _ _)
          repeat (go_big_quiet_step (fail))
          refine wpQuiet_nil ?_
          intro _ hw'
          obtain ⟨⟨dq, osq⟩, hw''⟩ := hw'
          subst hw''
          have hq := below_regrown w3 dq osq
          go_wp2_with fail
          go_ret
          exact ⟨ret_bool (by rw [hf.out]; rfl), bel_trans hB3w hq⟩
      · have mt := nbT ety
        have hf : Kp (R = false) := ⟨by
          rw [Bool.eq_false_iff]
          intro t
          exact ety (hiff.out t).1⟩
        clear ety hd
        go_upto_region 5 with fail
        rw [← hw3.out]
        go_quiet (fail)
        go_wp2_with fail
        go_ret
        exact ⟨ret_bool (by rw [hf.out]; rfl), below_drewN hB3w _⟩
    · have hlt' : ¬ (i : Int) < (args.length : Int) := by omega
      have hT : Kp (R = true) := ⟨IFF.out.2 (fun j hj => hd.out j (by omega))⟩
      clear hd
      go_wp2_with fail
      refine (CC.out _ hBw).mono ?_
      rintro e w4 ⟨rfl, hb4⟩
      go_wp2_with fail
      go_ret
      exact ⟨ret_bool (by rw [hT.out]; rfl), bel_trans hBw hb4⟩

set_option maxRecDepth 100000 in
set_option maxHeartbeats 4000000 in
theorem argDi (gs : List GlD) (fs : List FnD) (ts : List Int) (a1 a2 a3 a4 a5 : Option Addr) (params : List Int) (blocks : List (List InD)) (c1 c2 c3 c4 c5 : Nat) (name : ByteArray) (link res bk : Int) (op ty : Int) (aa al as' : Option Addr) (args : List OpD) (bl ws : List Int) (ca' cl cs : Nat) (w : World) {lo l2 : Nat} (hm : MoAt lo w gs fs (.slice a1 gs.length c1) (.slice a2 fs.length c2)) (ht : Ints l2 .i64 w (.slice a5 ts.length c5) ts) (ha : Ops lo w (.slice aa args.length ca') args) (hs : Ints lo .u64 w (.slice as' ws.length cs) ws) (hsb : ∀ z ∈ ws, 0 ≤ z ∧ z ≤ 18446744073709551615) (hw : Wid w) (hab : ∀ q ∈ args, OpB q) (hlen : ([fwd args]).length = args.length) :
    Calls Tryz.prog 150 #[scV (.slice a1 gs.length c1) (.slice a2 fs.length c2) name link (.slice a3 params.length c3) res (.slice a4 blocks.length c4) (.slice a5 ts.length c5) bk, kDi op ty (.slice aa args.length ca') (.slice al bl.length cl) (.slice as' ws.length cs)] w fun e w' => e = .returned (.bool (agB gs.length ts args ([fwd args]) && (ws.all fun v => isW (fty args) v))) ∧ Below w.heap.size w w' := by
  have hng : gs.length ≤ 140737488355328 := by obtain ⟨_, _, q, _⟩ := hm.g.ex; exact q.le
  obtain ⟨ba, oa, ⟨⟨_, _, hve, k1, k2⟩, k3⟩, -, hac⟩ := ha.ex
  injection hve with e1 e2 e3
  subst e1 e3
  clear e2
  have g1 : (args.length : Int) ≤ 140737488355328 := by omega
  obtain ⟨W0, hW⟩ : ∃ W0, W0 = w.alloc (scC (.slice a1 gs.length c1) (.slice a2 fs.length c2) name link (.slice a3 params.length c3) res (.slice a4 blocks.length c4) (.slice a5 ts.length c5) bk) := ⟨_, rfl⟩
  have BB : Below w.heap.size w W0 := by rw [hW]; exact bel_alloc w _
  have sC0 : W0.heap[w.heap.size]? = some (scC (.slice a1 gs.length c1) (.slice a2 fs.length c2) name link (.slice a3 params.length c3) res (.slice a4 blocks.length c4) (.slice a5 ts.length c5) bk) := by rw [hW]; exact new_at w _
  have WA : Kp (∀ W, Below w.heap.size w W → Calls Tryz.prog 284 #[.agg #[.int .i64 op, .int .i64 ty, (.slice aa args.length ca'), (.slice al bl.length cl), (.slice as' ws.length cs)], scV (.slice a1 gs.length c1) (.slice a2 fs.length c2) name link (.slice a3 params.length c3) res (.slice a4 blocks.length c4) (.slice a5 ts.length c5) bk] W fun e w' => ∃ v, e = .returned v ∧ Ints 0 .i64 w' v ([fwd args]) ∧ Below W.heap.size W w') := ⟨fun W hB => diWan op ty (.slice aa args.length ca') args al as' bl.length cl ws.length cs a1 a2 a3 a4 a5 gs.length fs.length params.length blocks.length ts.length c1 c2 c3 c4 c5 name link res bk W (ha.keep hB) (hw.below hB)⟩
  have CA : Kp (∀ W, Calls Tryz.prog 256 #[hdV op ty (.slice aa args.length ca')] W fun e w' => e = .returned (.slice aa args.length ca') ∧ Below W.heap.size W w') := ⟨fun W => hdArgs op ty aa args.length ca' W⟩
  have CC : Kp (∀ W, Below w.heap.size w W → Calls Tryz.prog 282 #[.agg #[.int .i64 op, .int .i64 ty, (.slice aa args.length ca'), (.slice al bl.length cl), (.slice as' ws.length cs)]] W fun e w' => e = .returned (.bool ((ws.all fun v => isW (fty args) v))) ∧ Below W.heap.size W w') := ⟨fun W hB => diCas op ty (.slice aa args.length ca') args al bl.length cl (.slice as' ws.length cs) ws W (ha.keep hB) (hs.keep hB) hsb (hw.below hB)⟩
  have CO : Kp (∀ W, Below w.heap.size w W → ∀ i, i < args.length → Calls Tryz.prog 191 #[scV (.slice a1 gs.length c1) (.slice a2 fs.length c2) name link (.slice a3 params.length c3) res (.slice a4 blocks.length c4) (.slice a5 ts.length c5) bk, opV4 (args.getD i default)] W fun e w' => e = .returned (.bool (opB gs.length ts (args.getD i default))) ∧ Below W.heap.size W w') := ⟨fun W hB i hi => by
    have hq := hab _ (show args.getD i default ∈ args by rw [inD_get hi]; exact List.getElem_mem _)
    exact isOpI a1 gs.length c1 a2 a3 a4 fs.length params.length blocks.length c2 c3 c4 name link res bk (.slice a5 ts.length c5) ts _ W (ht.keep hB) (hw.below hB) hng hq.w0 hq.w1⟩
  have AC : Kp (∀ W, Below w.heap.size w W → ∀ i, i < args.length → OpAt W ba (oa + i * 4) (args.getD i default)) := ⟨fun W hB i hi => by
    rw [inD_get hi]
    exact (hac i hi).keep hB⟩
  have XS : Kp (∀ W, Below W0.heap.size W0 W → W.heap[w.heap.size]? = some (scC (.slice a1 gs.length c1) (.slice a2 fs.length c2) name link (.slice a3 params.length c3) res (.slice a4 blocks.length c4) (.slice a5 ts.length c5) bk)) := ⟨fun W hB => kept_at sC0 hB⟩
  have IFF := Kp.mk (agB_iff gs.length ts args ([fwd args]))
  obtain ⟨wan, hwan⟩ : ∃ wan, wan = ([fwd args]) := ⟨_, rfl⟩
  rw [← hwan] at WA IFF hlen ⊢
  obtain ⟨R, hR⟩ : ∃ R, R = agB gs.length ts args wan := ⟨_, rfl⟩
  rw [← hR] at IFF ⊢
  obtain ⟨S, hS⟩ : ∃ S, S = ((ws.all fun v => isW (fty args) v)) := ⟨_, rfl⟩
  rw [← hS] at CC ⊢
  replace hW := Kp.mk hW
  replace k2 := Kp.mk k2
  replace hlen := Kp.mk hlen
  clear hac hwan hR hS ha ht hm hw sC0 hab hs hsb
  go_enter Tryz.func150, Tryz.ntmps150
  go_upto_region 1 with fail
  rw [← hW.out]
  have hx := XS.out W0 (Below.refl _ _)
  have s0 : At W0 w.heap.size 0 _ := cells_at hx rfl
  have s1 : At W0 w.heap.size 1 _ := cells_at hx rfl
  have s2 : At W0 w.heap.size 2 _ := cells_at hx rfl
  have s3 : At W0 w.heap.size 3 _ := cells_at hx rfl
  have s4 : At W0 w.heap.size 4 _ := cells_at hx rfl
  have s5 : At W0 w.heap.size 5 _ := cells_at hx rfl
  have s6 : At W0 w.heap.size 6 _ := cells_at hx rfl
  have s7 : At W0 w.heap.size 7 _ := cells_at hx rfl
  have s8 : At W0 w.heap.size 8 _ := cells_at hx rfl
  clear hx
  go_wp2_with fail
  refine (WA.out _ BB).mono ?_
  rintro e w1 ⟨wv, rfl, hwv, hb1⟩
  clear s0 s1 s2 s3 s4 s5 s6 s7 s8
  obtain ⟨bw, ow, ⟨⟨aw, cw, rfl, p1, p2⟩, p3⟩, -, pc⟩ := hwv.ex
  have g2 : (wan.length : Int) ≤ 140737488355328 := by omega
  have PC : Kp (∀ W, Below w1.heap.size w1 W → ∀ i, i < wan.length → At W bw (ow + i) (.int .i64 (wan.getD i 0))) := ⟨fun W hB i hi => by
    rw [show wan.getD i 0 = wan[i] by simp [List.getD_eq_getElem?_getD, hi]]
    exact at_keep (pc i hi) hB⟩
  replace p2 := Kp.mk p2
  clear pc hwv
  go_wp2_with fail
  refine (CA.out _).mono ?_
  rintro e w2 ⟨rfl, hb2⟩
  have hB02 := bel_trans hb1 hb2
  go_wp2_with fail
  go_loopw [14] (fun r wr => ∃ i : Nat, i ≤ args.length ∧ r = .int .i64 i ∧ Kp (∀ j, j < i → (args.getD j default).t = wan.getD j 0 ∧ opB gs.length ts (args.getD j default) = true) ∧ Below w2.heap.size w2 wr) (fun r _ => args.length - (intOf r).toNat)
  case atStart => exact ⟨0, Nat.zero_le _, rfl, ⟨fun j hj => absurd hj (by omega)⟩, Below.refl _ _⟩
  case round =>
    obtain ⟨i, hi, rfl, hd, hB⟩ := hrel
    have hB0 := bel_trans hB02 hB
    have hBw := bel_trans BB hB0
    by_cases hlt : i < args.length
    · obtain rfl := k2.out (by omega)
      have hll := hlen.out
      obtain rfl := p2.out (by omega)
      have hlt' : (i : Int) < (args.length : Int) := by omega
      have hltw : (i : Int) < (wan.length : Int) := by omega
      obtain ⟨oq, hoq⟩ : ∃ oq, oq = args.getD i default := ⟨_, rfl⟩
      obtain ⟨wi, hwi⟩ : ∃ wi, wi = wan.getD i 0 := ⟨_, rfl⟩
      have hac := AC.out _ hBw i hlt
      rw [← hoq] at hac
      obtain ⟨a0, a1', a2', a3'⟩ := hac
      obtain ⟨w3, hw3⟩ : ∃ w3, w3 = wr.alloc (Go.Obj.cells #[.int .i64 oq.k, .int .i64 oq.t, .int .i64 oq.i, .int .u64 oq.w] 85) := ⟨_, rfl⟩
      have hb3 : Below wr.heap.size wr w3 := by rw [hw3]; exact bel_alloc _ _
      have x3 := new_at wr (Go.Obj.cells #[.int .i64 oq.k, .int .i64 oq.t, .int .i64 oq.i, .int .u64 oq.w] 85)
      rw [← hw3] at x3
      have q0 : At w3 wr.heap.size 0 _ := cells_at x3 rfl
      have q1 : At w3 wr.heap.size 1 _ := cells_at x3 rfl
      have q2 : At w3 wr.heap.size 2 _ := cells_at x3 rfl
      have q3 : At w3 wr.heap.size 3 _ := cells_at x3 rfl
      have hB3 := bel_trans hB hb3
      have hx := XS.out w3 (bel_trans hB02 hB3)
      have s0 : At w3 w.heap.size 0 _ := cells_at hx rfl
      have s1 : At w3 w.heap.size 1 _ := cells_at hx rfl
      have s2 : At w3 w.heap.size 2 _ := cells_at hx rfl
      have s3 : At w3 w.heap.size 3 _ := cells_at hx rfl
      have s4 : At w3 w.heap.size 4 _ := cells_at hx rfl
      have s5 : At w3 w.heap.size 5 _ := cells_at hx rfl
      have s6 : At w3 w.heap.size 6 _ := cells_at hx rfl
      have s7 : At w3 w.heap.size 7 _ := cells_at hx rfl
      have s8 : At w3 w.heap.size 8 _ := cells_at hx rfl
      have pw := PC.out w3 (bel_trans hb2 hB3) i (by omega)
      rw [← hwi] at pw
      have COi := Kp.mk (fun W (hW : Below w3.heap.size w3 W) => CO.out W (bel_trans hBw (bel_trans hb3 hW)) i hlt)
      rw [← hoq] at COi
      have hB3w := bel_trans hBw hb3
      have hiff := Kp.mk (fun t => IFF.out.1 t i hlt)
      rw [← hoq, ← hwi] at hiff
      replace hoq := Kp.mk hoq
      replace hwi := Kp.mk hwi
      replace hw3 := Kp.mk hw3
      clear hx x3 hll
      by_cases ety : oq.t = wi
      · have mt : (oq.t != wi) = false := by simp [ety]
        have kq0 := cell_regrown q0
        have kq1 := cell_regrown q1
        have kq2 := cell_regrown q2
        have kq3 := cell_regrown q3
        have ks0 := cell_regrown s0
        have ks1 := cell_regrown s1
        have ks2 := cell_regrown s2
        have ks3 := cell_regrown s3
        have ks4 := cell_regrown s4
        have ks5 := cell_regrown s5
        have ks6 := cell_regrown s6
        have ks7 := cell_regrown s7
        have ks8 := cell_regrown s8
        have kpw := cell_regrown pw
        cases ho : opB gs.length ts oq with
        | true =>
          have hd' : Kp (∀ j, j < i + 1 → (args.getD j default).t = wan.getD j 0 ∧ opB gs.length ts (args.getD j default) = true) := ⟨fun j hj => by
            by_cases e : j = i
            · rw [e, ← hoq.out, ← hwi.out]; exact ⟨ety, ho⟩
            · exact hd.out j (by omega)⟩
          rw [ho] at COi
          replace ety := Kp.mk ety
          clear ho hd
          have IO2 : Kp (∀ d os, Calls Tryz.prog 191 _ (Go.Sort.grow (redrawn w3 d) os) _) := ⟨fun d os => Calls.regrown_of (COi.out _ (below_regrown w3 d os))⟩
          go_upto_region 5 with fail
          rw [← hw3.out]
          refine wp_region_quiet_below (by kernel_rfl) (by kernel_rfl) ?_
          repeat (go_big_quiet_step (fail))
          go_big_quiet_step (exact IO2.out _ _)
          repeat (go_big_quiet_step (fail))
          refine wpQuiet_nil ?_
          intro _ hw'
          obtain ⟨⟨dq, osq⟩, hw''⟩ := hw'
          subst hw''
          have hq := below_regrown w3 dq osq
          go_wp2_with fail
          exact ⟨⟨i + 1, by omega, by go_num, hd', bel_trans hB3 hq⟩, by simp [intOf]; omega⟩
        | false =>
          have hf : Kp (R = false) := ⟨by
            rw [Bool.eq_false_iff]
            intro t
            rw [(hiff.out t).2] at ho
            cases ho⟩
          rw [ho] at COi
          replace ety := Kp.mk ety
          clear ho hd
          have IO2 : Kp (∀ d os, Calls Tryz.prog 191 _ (Go.Sort.grow (redrawn w3 d) os) _) := ⟨fun d os => Calls.regrown_of (COi.out _ (below_regrown w3 d os))⟩
          go_upto_region 5 with fail
          rw [← hw3.out]
          refine wp_region_quiet_below (by kernel_rfl) (by kernel_rfl) ?_
          repeat (go_big_quiet_step (fail))
          go_big_quiet_step (exact IO2.out _ _)
          repeat (go_big_quiet_step (fail))
          refine wpQuiet_nil ?_
          intro _ hw'
          obtain ⟨⟨dq, osq⟩, hw''⟩ := hw'
          subst hw''
          have hq := below_regrown w3 dq osq
          go_wp2_with fail
          go_ret
          exact ⟨ret_bool (by rw [hf.out]; rfl), bel_trans hB3w hq⟩
      · have mt := nbT ety
        have hf : Kp (R = false) := ⟨by
          rw [Bool.eq_false_iff]
          intro t
          exact ety (hiff.out t).1⟩
        clear ety hd
        go_upto_region 5 with fail
        rw [← hw3.out]
        go_quiet (fail)
        go_wp2_with fail
        go_ret
        exact ⟨ret_bool (by rw [hf.out]; rfl), below_drewN hB3w _⟩
    · have hlt' : ¬ (i : Int) < (args.length : Int) := by omega
      have hT : Kp (R = true) := ⟨IFF.out.2 (fun j hj => hd.out j (by omega))⟩
      clear hd
      go_wp2_with fail
      refine (CC.out _ hBw).mono ?_
      rintro e w4 ⟨rfl, hb4⟩
      go_wp2_with fail
      go_ret
      exact ⟨ret_bool (by rw [hT.out]; rfl), bel_trans hBw hb4⟩
end
end Go.Proofs.YtbnkbbcncloedaaGreatDoor
