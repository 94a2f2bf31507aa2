/- The packed texts Im10. -/
import Derived.Test.YtbnkbbcncloedaaGreatDoorRows
import Derived.WalkKit
import Derived.ProofKit
import Derived.OpenShut
import Derived.WalkLawsBesides
import Derived.Below
import Derived.BigQuiet
import Derived.Lib.QuietBelow
import Derived.Lib.AtoiErrMem
import Derived.Deep.OwnRows
import Derived.Deep.DeepCutAuto
import Derived.RangeFuncNested
import Derived.RangeFuncBound
import Derived.RangeFuncCalls
import Derived.RangeFuncLeaves
import Derived.OwnWalkIn
import Derived.TacticsInMore
import Derived.LoopNIn
import Derived.LoopIn
import Derived.Shelf.Abstract
import Derived.Maps.AppendAt
import Derived.OwnWalk
import Derived.Lib.LaidTab
import Derived.Laws.BitsAllLaws
import Derived.Laws.Closers25b
import Derived.Deep.RegionWith
import Derived.Laws.MathBits
import Derived.Shelf.Spec.BitsCarry
import Derived.Laws.CopyOwn
import Derived.Deep.RegionLaw
import Derived.Lib.SliceRun
import Derived.Laws.Tables
import Derived.Test.YtbnkbbcncloedaaGreatDoorPk1
import Derived.Test.YtbnkbbcncloedaaGreatDoorPk3
import Derived.Test.YtbnkbbcncloedaaGreatDoorPk4
import Derived.Test.YtbnkbbcncloedaaGreatDoorPk5
import Derived.Test.YtbnkbbcncloedaaGreatDoorPk6
import Derived.Test.YtbnkbbcncloedaaGreatDoorPk9
import Derived.Test.YtbnkbbcncloedaaGreatDoorPk10
import Derived.Test.YtbnkbbcncloedaaGreatDoorPk21
import Derived.Test.YtbnkbbcncloedaaGreatDoorPk22
import Derived.Test.YtbnkbbcncloedaaGreatDoorPk23
import Derived.Test.YtbnkbbcncloedaaGreatDoorPk24
import Derived.Test.YtbnkbbcncloedaaGreatDoorPk25
import Derived.Test.YtbnkbbcncloedaaGreatDoorPk27
namespace Go.Proofs.YtbnkbbcncloedaaGreatDoor
section
open Go.ChangeShapes Go.WideShapes Go.ChangeAt Go.RowKit

set_option linter.unusedVariables false

set_option linter.unusedSimpArgs false

set_option maxRecDepth 100000 in
set_option maxHeartbeats 4000000 in
theorem tgtHd (a1 a2 a3 a4 a5 : Option Addr) (n1 n2 n3 n4 n5 c1 c2 c3 c4 c5 : Nat) (name : ByteArray) (link res bk : Int) (op ty : Int) (a : Option Addr) (n c : Nat) (w : World) :
    Calls Tryz.prog 149 #[scV (.slice a1 n1 c1) (.slice a2 n2 c2) name link (.slice a3 n3 c3) res (.slice a4 n4 c4) (.slice a5 n5 c5) bk, kHd op ty (.slice a n c)] w fun e w' => e = .returned (.bool true) ∧ Below w.heap.size w w' := by
  have TG : Kp (∀ w, Calls Tryz.prog 261 #[hdV op ty (.slice a n c)] w fun e w' => e = .returned (.slice none 0 0) ∧ Below w.heap.size w w') := ⟨fun w => hdTgt op ty a n c w⟩
  have BB := bel_alloc w (scC (.slice a1 n1 c1) (.slice a2 n2 c2) name link (.slice a3 n3 c3) res (.slice a4 n4 c4) (.slice a5 n5 c5) bk)
  go_enter Tryz.func149, Tryz.ntmps149
  go_wp2_with fail
  refine (TG.out _).mono ?_
  rintro e w1 ⟨rfl, hb1⟩
  go_wp2_with fail
  go_loopw [10] (fun r wr => r = .int .i64 0 ∧ wr = w1) (fun r _ => 0)
  case atStart => exact ⟨rfl, rfl⟩
  case round =>
    obtain ⟨rfl, rfl⟩ := hrel
    go_wp2_with fail
    go_ret
    exact ⟨rfl, bel_trans BB hb1⟩

set_option maxRecDepth 100000 in
set_option maxHeartbeats 4000000 in
theorem tgtAr (a1 a2 a3 a4 a5 : Option Addr) (n1 n2 n3 n4 n5 c1 c2 c3 c4 c5 : Nat) (name : ByteArray) (link res bk : Int) (op ty fl : Int) (a : Option Addr) (n c : Nat) (w : World) :
    Calls Tryz.prog 149 #[scV (.slice a1 n1 c1) (.slice a2 n2 c2) name link (.slice a3 n3 c3) res (.slice a4 n4 c4) (.slice a5 n5 c5) bk, kAr op ty (.slice a n c) fl] w fun e w' => e = .returned (.bool true) ∧ Below w.heap.size w w' := by
  have TG : Kp (∀ w, Calls Tryz.prog 261 #[hdV op ty (.slice a n c)] w fun e w' => e = .returned (.slice none 0 0) ∧ Below w.heap.size w w') := ⟨fun w => hdTgt op ty a n c w⟩
  have BB := bel_alloc w (scC (.slice a1 n1 c1) (.slice a2 n2 c2) name link (.slice a3 n3 c3) res (.slice a4 n4 c4) (.slice a5 n5 c5) bk)
  go_enter Tryz.func149, Tryz.ntmps149
  go_wp2_with fail
  refine (TG.out _).mono ?_
  rintro e w1 ⟨rfl, hb1⟩
  go_wp2_with fail
  go_loopw [10] (fun r wr => r = .int .i64 0 ∧ wr = w1) (fun r _ => 0)
  case atStart => exact ⟨rfl, rfl⟩
  case round =>
    obtain ⟨rfl, rfl⟩ := hrel
    go_wp2_with fail
    go_ret
    exact ⟨rfl, bel_trans BB hb1⟩

set_option maxRecDepth 100000 in
set_option maxHeartbeats 4000000 in
theorem tgtCm (a1 a2 a3 a4 a5 : Option Addr) (n1 n2 n3 n4 n5 c1 c2 c3 c4 c5 : Nat) (name : ByteArray) (link res bk : Int) (op ty pr : Int) (a : Option Addr) (n c : Nat) (w : World) :
    Calls Tryz.prog 149 #[scV (.slice a1 n1 c1) (.slice a2 n2 c2) name link (.slice a3 n3 c3) res (.slice a4 n4 c4) (.slice a5 n5 c5) bk, kCm op ty (.slice a n c) pr] w fun e w' => e = .returned (.bool true) ∧ Below w.heap.size w w' := by
  have TG : Kp (∀ w, Calls Tryz.prog 261 #[hdV op ty (.slice a n c)] w fun e w' => e = .returned (.slice none 0 0) ∧ Below w.heap.size w w') := ⟨fun w => hdTgt op ty a n c w⟩
  have BB := bel_alloc w (scC (.slice a1 n1 c1) (.slice a2 n2 c2) name link (.slice a3 n3 c3) res (.slice a4 n4 c4) (.slice a5 n5 c5) bk)
  go_enter Tryz.func149, Tryz.ntmps149
  go_wp2_with fail
  refine (TG.out _).mono ?_
  rintro e w1 ⟨rfl, hb1⟩
  go_wp2_with fail
  go_loopw [10] (fun r wr => r = .int .i64 0 ∧ wr = w1) (fun r _ => 0)
  case atStart => exact ⟨rfl, rfl⟩
  case round =>
    obtain ⟨rfl, rfl⟩ := hrel
    go_wp2_with fail
    go_ret
    exact ⟨rfl, bel_trans BB hb1⟩

set_option maxRecDepth 100000 in
set_option maxHeartbeats 4000000 in
theorem tgtAl (a1 a2 a3 a4 a5 : Option Addr) (n1 n2 n3 n4 n5 c1 c2 c3 c4 c5 : Nat) (name : ByteArray) (link res bk : Int) (op ty sz : Int) (a : Option Addr) (n c : Nat) (w : World) :
    Calls Tryz.prog 149 #[scV (.slice a1 n1 c1) (.slice a2 n2 c2) name link (.slice a3 n3 c3) res (.slice a4 n4 c4) (.slice a5 n5 c5) bk, kAl op ty (.slice a n c) sz] w fun e w' => e = .returned (.bool true) ∧ Below w.heap.size w w' := by
  have TG : Kp (∀ w, Calls Tryz.prog 261 #[hdV op ty (.slice a n c)] w fun e w' => e = .returned (.slice none 0 0) ∧ Below w.heap.size w w') := ⟨fun w => hdTgt op ty a n c w⟩
  have BB := bel_alloc w (scC (.slice a1 n1 c1) (.slice a2 n2 c2) name link (.slice a3 n3 c3) res (.slice a4 n4 c4) (.slice a5 n5 c5) bk)
  go_enter Tryz.func149, Tryz.ntmps149
  go_wp2_with fail
  refine (TG.out _).mono ?_
  rintro e w1 ⟨rfl, hb1⟩
  go_wp2_with fail
  go_loopw [10] (fun r wr => r = .int .i64 0 ∧ wr = w1) (fun r _ => 0)
  case atStart => exact ⟨rfl, rfl⟩
  case round =>
    obtain ⟨rfl, rfl⟩ := hrel
    go_wp2_with fail
    go_ret
    exact ⟨rfl, bel_trans BB hb1⟩

set_option maxRecDepth 100000 in
set_option maxHeartbeats 4000000 in
theorem tgtIn (a1 a2 a3 a4 a5 : Option Addr) (n1 n2 n3 n4 n5 c1 c2 c3 c4 c5 : Nat) (name : ByteArray) (link res bk : Int) (op ty ca : Int) (a : Option Addr) (n c : Nat) (w : World) :
    Calls Tryz.prog 149 #[scV (.slice a1 n1 c1) (.slice a2 n2 c2) name link (.slice a3 n3 c3) res (.slice a4 n4 c4) (.slice a5 n5 c5) bk, kIn op ty (.slice a n c) ca] w fun e w' => e = .returned (.bool true) ∧ Below w.heap.size w w' := by
  have TG : Kp (∀ w, Calls Tryz.prog 261 #[hdV op ty (.slice a n c)] w fun e w' => e = .returned (.slice none 0 0) ∧ Below w.heap.size w w') := ⟨fun w => hdTgt op ty a n c w⟩
  have BB := bel_alloc w (scC (.slice a1 n1 c1) (.slice a2 n2 c2) name link (.slice a3 n3 c3) res (.slice a4 n4 c4) (.slice a5 n5 c5) bk)
  go_enter Tryz.func149, Tryz.ntmps149
  go_wp2_with fail
  refine (TG.out _).mono ?_
  rintro e w1 ⟨rfl, hb1⟩
  go_wp2_with fail
  go_loopw [10] (fun r wr => r = .int .i64 0 ∧ wr = w1) (fun r _ => 0)
  case atStart => exact ⟨rfl, rfl⟩
  case round =>
    obtain ⟨rfl, rfl⟩ := hrel
    go_wp2_with fail
    go_ret
    exact ⟨rfl, bel_trans BB hb1⟩

set_option maxRecDepth 100000 in
set_option maxHeartbeats 4000000 in
theorem tgtJn (a1 a2 a3 a4 a5 : Option Addr) (n1 n2 n3 n4 n5 c1 c2 c3 c4 c5 : Nat) (name : ByteArray) (link res bk : Int) (op ty : Int) (a : Option Addr) (n c : Nat) (vl : Value) (bl : List Int) (w : World) {lo : Nat} (h : Ints lo .i64 w vl bl) (hn : n4 ≤ 140737488355328) :
    Calls Tryz.prog 149 #[scV (.slice a1 n1 c1) (.slice a2 n2 c2) name link (.slice a3 n3 c3) res (.slice a4 n4 c4) (.slice a5 n5 c5) bk, kJn op ty (.slice a n c) vl] w fun e w' => e = .returned (.bool (bl.all fun b => decide (0 ≤ b) && decide (b < n4))) ∧ Below w.heap.size w w' := by
  obtain ⟨b, o, ⟨⟨ab, cb, rfl, s1, s2⟩, s3⟩, -, hc⟩ := h.ex
  have g1 : (bl.length : Int) ≤ 140737488355328 := by omega
  have g5 : (n4 : Int) ≤ 140737488355328 := by omega
  have TG : Kp (∀ w, Calls Tryz.prog 276 #[.agg #[.int .i64 op, .int .i64 ty, .slice a n c, .slice ab bl.length cb]] w fun e w' => e = .returned (.slice ab bl.length cb) ∧ Below w.heap.size w w') := ⟨fun w => jnTgt op ty a ab n c bl.length cb w⟩
  obtain ⟨W0, hW⟩ : ∃ W0, W0 = w.alloc (scC (.slice a1 n1 c1) (.slice a2 n2 c2) name link (.slice a3 n3 c3) res (.slice a4 n4 c4) (.slice a5 n5 c5) bk) := ⟨_, rfl⟩
  have BB : Below w.heap.size w W0 := by rw [hW]; exact bel_alloc w _
  have XS : Kp (∀ W, Below W0.heap.size W0 W → At W w.heap.size 6 (.slice a4 n4 c4)) := ⟨fun W hB => by
    have q := new_at w (scC (.slice a1 n1 c1) (.slice a2 n2 c2) name link (.slice a3 n3 c3) res (.slice a4 n4 c4) (.slice a5 n5 c5) bk)
    rw [← hW] at q
    exact cells_at (kept_at q hB) rfl⟩
  have LC : Kp (∀ W, Below W0.heap.size W0 W → ∀ j (h : j < bl.length), At W b (o + j) (.int .i64 (bl.getD j 0))) := ⟨fun W hB j h => by
    rw [show bl.getD j 0 = bl[j] by simp [List.getD_eq_getElem?_getD, h]]
    exact at_keep (hc j h) (bel_trans BB hB)⟩
  have IX : Kp (∀ z w, Calls Tryz.prog 55 #[.int .i64 z, .int .i64 n4] w fun e w' => e = .returned (.bool (isIx z n4)) ∧ w' = w) := ⟨fun z w => isIx_e z n4 w hn⟩
  have ATG := Kp.mk (all_iff_getD bl (0 : Int) (fun b => decide (0 ≤ b) && decide (b < n4)))
  generalize (bl.all fun b => decide (0 ≤ b) && decide (b < n4)) = R at *
  replace hW := Kp.mk hW
  replace s2 := Kp.mk s2
  clear hc h
  go_enter Tryz.func149, Tryz.ntmps149
  go_upto_region 1 with fail
  rw [← hW.out]
  go_wp2_with fail
  refine (TG.out _).mono ?_
  rintro e w1 ⟨rfl, hb1⟩
  go_wp2_with fail
  go_loopw [10] (fun r wr => wr = w1 ∧ ∃ i : Nat, i ≤ bl.length ∧ r = .int .i64 i ∧ Kp (∀ j, j < i → isIx (bl.getD j 0) n4 = true)) (fun r _ => bl.length - (intOf r).toNat)
  case atStart => exact ⟨rfl, 0, Nat.zero_le _, rfl, ⟨fun j hj => absurd hj (by omega)⟩⟩
  case round =>
    obtain ⟨rfl, i, hi, rfl, hd⟩ := hrel
    have x6 := XS.out _ hb1
    by_cases hlt : i < bl.length
    · obtain rfl := s2.out (by omega)
      have hlt' : (i : Int) < (bl.length : Int) := by omega
      have c0 := LC.out _ hb1 i hlt
      have IXi := Kp.mk (fun w => IX.out (bl.getD i 0) w)
      cases hq : isIx (bl.getD i 0) n4 with
      | false =>
        have hf : Kp (R = false) := ⟨by
          rw [Bool.eq_false_iff]
          intro t
          have := ATG.out.1 t i hlt
          rw [show isIx (bl.getD i 0) n4 = (decide (0 ≤ bl.getD i 0) && decide (bl.getD i 0 < n4)) from rfl, this] at hq
          cases hq⟩
        rw [hq] at IXi
        clear hq hd
        generalize bl.getD i 0 = u at *
        go_wp2_with fail
        refine (IXi.out _).mono ?_
        rintro e w2 ⟨rfl, rfl⟩
        go_wp2_with fail
        go_ret
        exact ⟨ret_bool hf.out.symm, bel_trans BB hb1⟩
      | true =>
        have hd' : Kp (∀ j, j < i + 1 → isIx (bl.getD j 0) n4 = true) := ⟨fun j hj => by
          by_cases e : j = i
          · rw [e]; exact hq
          · exact hd.out j (by omega)⟩
        rw [hq] at IXi
        clear hq hd
        obtain ⟨u, hu⟩ : ∃ u, u = bl.getD i 0 := ⟨_, rfl⟩
        rw [← hu] at c0 IXi
        replace hu := Kp.mk hu
        go_wp2_with fail
        refine (IXi.out _).mono ?_
        rintro e w2 ⟨rfl, hw2⟩
        subst w2
        go_wp2_with fail
        exact ⟨⟨trivial, i + 1, by omega, by go_num, hd'⟩, by simp [intOf]; omega⟩
    · have hlt' : ¬ (i : Int) < (bl.length : Int) := by omega
      have ht : Kp (R = true) := ⟨ATG.out.2 (fun j hj => hd.out j (by omega))⟩
      clear hd
      go_wp2_with fail
      go_ret
      exact ⟨ret_bool ht.out.symm, bel_trans BB hb1⟩

set_option maxRecDepth 100000 in
set_option maxHeartbeats 4000000 in
theorem tgtDi (a1 a2 a3 a4 a5 : Option Addr) (n1 n2 n3 n4 n5 c1 c2 c3 c4 c5 : Nat) (name : ByteArray) (link res bk : Int) (op ty : Int) (a : Option Addr) (n c : Nat) (vl : Value) (bl : List Int) (vs : Value) (w : World) {lo : Nat} (h : Ints lo .i64 w vl bl) (hn : n4 ≤ 140737488355328) :
    Calls Tryz.prog 149 #[scV (.slice a1 n1 c1) (.slice a2 n2 c2) name link (.slice a3 n3 c3) res (.slice a4 n4 c4) (.slice a5 n5 c5) bk, kDi op ty (.slice a n c) vl vs] w fun e w' => e = .returned (.bool (bl.all fun b => decide (0 ≤ b) && decide (b < n4))) ∧ Below w.heap.size w w' := by
  obtain ⟨b, o, ⟨⟨ab, cb, rfl, s1, s2⟩, s3⟩, -, hc⟩ := h.ex
  have g1 : (bl.length : Int) ≤ 140737488355328 := by omega
  have g5 : (n4 : Int) ≤ 140737488355328 := by omega
  have TG : Kp (∀ w, Calls Tryz.prog 276 #[.agg #[.int .i64 op, .int .i64 ty, .slice a n c, .slice ab bl.length cb]] w fun e w' => e = .returned (.slice ab bl.length cb) ∧ Below w.heap.size w w') := ⟨fun w => jnTgt op ty a ab n c bl.length cb w⟩
  obtain ⟨W0, hW⟩ : ∃ W0, W0 = w.alloc (scC (.slice a1 n1 c1) (.slice a2 n2 c2) name link (.slice a3 n3 c3) res (.slice a4 n4 c4) (.slice a5 n5 c5) bk) := ⟨_, rfl⟩
  have BB : Below w.heap.size w W0 := by rw [hW]; exact bel_alloc w _
  have XS : Kp (∀ W, Below W0.heap.size W0 W → At W w.heap.size 6 (.slice a4 n4 c4)) := ⟨fun W hB => by
    have q := new_at w (scC (.slice a1 n1 c1) (.slice a2 n2 c2) name link (.slice a3 n3 c3) res (.slice a4 n4 c4) (.slice a5 n5 c5) bk)
    rw [← hW] at q
    exact cells_at (kept_at q hB) rfl⟩
  have LC : Kp (∀ W, Below W0.heap.size W0 W → ∀ j (h : j < bl.length), At W b (o + j) (.int .i64 (bl.getD j 0))) := ⟨fun W hB j h => by
    rw [show bl.getD j 0 = bl[j] by simp [List.getD_eq_getElem?_getD, h]]
    exact at_keep (hc j h) (bel_trans BB hB)⟩
  have IX : Kp (∀ z w, Calls Tryz.prog 55 #[.int .i64 z, .int .i64 n4] w fun e w' => e = .returned (.bool (isIx z n4)) ∧ w' = w) := ⟨fun z w => isIx_e z n4 w hn⟩
  have ATG := Kp.mk (all_iff_getD bl (0 : Int) (fun b => decide (0 ≤ b) && decide (b < n4)))
  generalize (bl.all fun b => decide (0 ≤ b) && decide (b < n4)) = R at *
  replace hW := Kp.mk hW
  replace s2 := Kp.mk s2
  clear hc h
  go_enter Tryz.func149, Tryz.ntmps149
  go_upto_region 1 with fail
  rw [← hW.out]
  go_wp2_with fail
  refine (TG.out _).mono ?_
  rintro e w1 ⟨rfl, hb1⟩
  go_wp2_with fail
  go_loopw [10] (fun r wr => wr = w1 ∧ ∃ i : Nat, i ≤ bl.length ∧ r = .int .i64 i ∧ Kp (∀ j, j < i → isIx (bl.getD j 0) n4 = true)) (fun r _ => bl.length - (intOf r).toNat)
  case atStart => exact ⟨rfl, 0, Nat.zero_le _, rfl, ⟨fun j hj => absurd hj (by omega)⟩⟩
  case round =>
    obtain ⟨rfl, i, hi, rfl, hd⟩ := hrel
    have x6 := XS.out _ hb1
    by_cases hlt : i < bl.length
    · obtain rfl := s2.out (by omega)
      have hlt' : (i : Int) < (bl.length : Int) := by omega
      have c0 := LC.out _ hb1 i hlt
      have IXi := Kp.mk (fun w => IX.out (bl.getD i 0) w)
      cases hq : isIx (bl.getD i 0) n4 with
      | false =>
        have hf : Kp (R = false) := ⟨by
          rw [Bool.eq_false_iff]
          intro t
          have := ATG.out.1 t i hlt
          rw [show isIx (bl.getD i 0) n4 = (decide (0 ≤ bl.getD i 0) && decide (bl.getD i 0 < n4)) from rfl, this] at hq
          cases hq⟩
        rw [hq] at IXi
        clear hq hd
        generalize bl.getD i 0 = u at *
        go_wp2_with fail
        refine (IXi.out _).mono ?_
        rintro e w2 ⟨rfl, rfl⟩
        go_wp2_with fail
        go_ret
        exact ⟨ret_bool hf.out.symm, bel_trans BB hb1⟩
      | true =>
        have hd' : Kp (∀ j, j < i + 1 → isIx (bl.getD j 0) n4 = true) := ⟨fun j hj => by
          by_cases e : j = i
          · rw [e]; exact hq
          · exact hd.out j (by omega)⟩
        rw [hq] at IXi
        clear hq hd
        obtain ⟨u, hu⟩ : ∃ u, u = bl.getD i 0 := ⟨_, rfl⟩
        rw [← hu] at c0 IXi
        replace hu := Kp.mk hu
        go_wp2_with fail
        refine (IXi.out _).mono ?_
        rintro e w2 ⟨rfl, hw2⟩
        subst w2
        go_wp2_with fail
        exact ⟨⟨trivial, i + 1, by omega, by go_num, hd'⟩, by simp [intOf]; omega⟩
    · have hlt' : ¬ (i : Int) < (bl.length : Int) := by omega
      have ht : Kp (R = true) := ⟨ATG.out.2 (fun j hj => hd.out j (by omega))⟩
      clear hd
      go_wp2_with fail
      go_ret
      exact ⟨ret_bool ht.out.symm, bel_trans BB hb1⟩
end
end Go.Proofs.YtbnkbbcncloedaaGreatDoor
