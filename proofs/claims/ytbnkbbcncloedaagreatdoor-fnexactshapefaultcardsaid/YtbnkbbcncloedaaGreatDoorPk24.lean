/- The packed texts Im4, Im5, Mul, Im6. -/
import Derived.Test.YtbnkbbcncloedaaGreatDoorRows
import Derived.WalkKit
import Derived.ProofKit
import Derived.OpenShut
import Derived.WalkLawsBesides
import Derived.Below
import Derived.BigQuiet
import Derived.Lib.QuietBelow
import Derived.Lib.AtoiErrMem
import Derived.Deep.OwnRows
import Derived.Deep.DeepCutAuto
import Derived.RangeFuncNested
import Derived.RangeFuncBound
import Derived.RangeFuncCalls
import Derived.RangeFuncLeaves
import Derived.OwnWalkIn
import Derived.TacticsInMore
import Derived.LoopNIn
import Derived.LoopIn
import Derived.Shelf.Abstract
import Derived.Maps.AppendAt
import Derived.OwnWalk
import Derived.Lib.LaidTab
import Derived.Laws.BitsAllLaws
import Derived.Laws.Closers25b
import Derived.Deep.RegionWith
import Derived.Laws.MathBits
import Derived.Shelf.Spec.BitsCarry
import Derived.Laws.CopyOwn
import Derived.Deep.RegionLaw
import Derived.Test.YtbnkbbcncloedaaGreatDoorPk1
import Derived.Test.YtbnkbbcncloedaaGreatDoorPk2
import Derived.Test.YtbnkbbcncloedaaGreatDoorPk3
import Derived.Test.YtbnkbbcncloedaaGreatDoorPk4
import Derived.Test.YtbnkbbcncloedaaGreatDoorPk5
import Derived.Test.YtbnkbbcncloedaaGreatDoorPk6
import Derived.Test.YtbnkbbcncloedaaGreatDoorPk7
import Derived.Test.YtbnkbbcncloedaaGreatDoorPk9
import Derived.Test.YtbnkbbcncloedaaGreatDoorPk10
import Derived.Test.YtbnkbbcncloedaaGreatDoorPk22
import Derived.Test.YtbnkbbcncloedaaGreatDoorPk23
namespace Go.Proofs.YtbnkbbcncloedaaGreatDoor
section
open Go.ChangeShapes Go.WideShapes Go.ChangeAt Go.RowKit

set_option linter.unusedVariables false

set_option linter.unusedSimpArgs false

set_option maxRecDepth 100000 in
set_option maxHeartbeats 4000000 in
theorem inOwn (op ty ca : Int) (a : Option Addr) (n c : Nat) (a1 a2 a3 a4 a5 : Option Addr) (n1 n2 n3 n4 n5 c1 c2 c3 c4 c5 : Nat) (name : ByteArray) (link res bk : Int) (w : World) (hn : n2 ≤ 140737488355328) :
    Calls Tryz.prog 272 #[.agg #[.int .i64 op, .int .i64 ty, .slice a n c, .int .i64 ca], scV (.slice a1 n1 c1) (.slice a2 n2 c2) name link (.slice a3 n3 c3) res (.slice a4 n4 c4) (.slice a5 n5 c5) bk] w fun e w' => e = .returned (.bool (isIx ca n2)) ∧ Below w.heap.size w w' := by
  have BB := bel_trans (bel_alloc w (Go.Obj.cells #[.int .i64 op, .int .i64 ty, .slice a n c, .int .i64 ca] 234)) (bel_alloc _ (scC (.slice a1 n1 c1) (.slice a2 n2 c2) name link (.slice a3 n3 c3) res (.slice a4 n4 c4) (.slice a5 n5 c5) bk))
  have IX := Kp.mk (isIx_e ca n2 ((w.alloc (Go.Obj.cells #[.int .i64 op, .int .i64 ty, .slice a n c, .int .i64 ca] 234)).alloc (scC (.slice a1 n1 c1) (.slice a2 n2 c2) name link (.slice a3 n3 c3) res (.slice a4 n4 c4) (.slice a5 n5 c5) bk)) hn)
  have g : (n2 : Int) ≤ 140737488355328 := by omega
  generalize isIx ca n2 = R at *
  go_enter Tryz.func272, Tryz.ntmps272
  go_wp2_with fail
  refine IX.out.mono ?_
  rintro e w1 ⟨rfl, rfl⟩
  go_wp2_with fail
  go_ret
  exact ⟨rfl, BB⟩

set_option maxRecDepth 100000 in
set_option maxHeartbeats 4000000 in
theorem inRes (op ty ca : Int) (a : Option Addr) (n c : Nat) (a1 a2 a3 a4 a5 : Option Addr) (n1 n3 n4 n5 c1 c2 c3 c4 c5 : Nat) (fs : List FnD) (name : ByteArray) (link res bk : Int) (w : World) {lo : Nat} (hf : Fns lo w (.slice a2 fs.length c2) fs) :
    Calls Tryz.prog 273 #[.agg #[.int .i64 op, .int .i64 ty, .slice a n c, .int .i64 ca], scV (.slice a1 n1 c1) (.slice a2 fs.length c2) name link (.slice a3 n3 c3) res (.slice a4 n4 c4) (.slice a5 n5 c5) bk] w fun e w' => e = .returned (.bool (isIx ca fs.length && decide (ty = (calD fs ca).res))) ∧ Below w.heap.size w w' := by
  obtain ⟨bf, of, ⟨⟨_, _, hve, f1, f2⟩, f3⟩, -, hfc⟩ := hf.ex
  injection hve with v1 v2 v3
  subst v1 v3
  clear v2 hf
  have IOq : Kp (∀ w, Calls Tryz.prog 272 #[.agg #[.int .i64 op, .int .i64 ty, .slice a n c, .int .i64 ca], scV (.slice a1 n1 c1) (.slice a2 fs.length c2) name link (.slice a3 n3 c3) res (.slice a4 n4 c4) (.slice a5 n5 c5) bk] w fun e w' => e = .returned (.bool (isIx ca fs.length)) ∧ Below w.heap.size w w') := ⟨fun w => inOwn op ty ca a n c a1 a2 a3 a4 a5 n1 fs.length n3 n4 n5 c1 c2 c3 c4 c5 name link res bk w f3⟩
  have g2 : (fs.length : Int) ≤ 140737488355328 := by omega
  obtain ⟨W0, hW⟩ : ∃ W0, W0 = (w.alloc (Go.Obj.cells #[.int .i64 op, .int .i64 ty, .slice a n c, .int .i64 ca] 234)).alloc (scC (.slice a1 n1 c1) (.slice a2 fs.length c2) name link (.slice a3 n3 c3) res (.slice a4 n4 c4) (.slice a5 n5 c5) bk) := ⟨_, rfl⟩
  have BB : Below w.heap.size w W0 := by rw [hW]; exact bel_trans (bel_alloc w _) (bel_alloc _ _)
  have x1 : W0.heap[w.heap.size]? = some (Go.Obj.cells #[.int .i64 op, .int .i64 ty, .slice a n c, .int .i64 ca] 234) := by rw [hW]; exact kept_at (new_at w _) (bel_alloc _ _)
  have x2 : W0.heap[w.heap.size + 1]? = some (scC (.slice a1 n1 c1) (.slice a2 fs.length c2) name link (.slice a3 n3 c3) res (.slice a4 n4 c4) (.slice a5 n5 c5) bk) := by
    rw [hW]
    have := new_at (w.alloc (Go.Obj.cells #[.int .i64 op, .int .i64 ty, .slice a n c, .int .i64 ca] 234)) (scC (.slice a1 n1 c1) (.slice a2 fs.length c2) name link (.slice a3 n3 c3) res (.slice a4 n4 c4) (.slice a5 n5 c5) bk)
    rwa [World.size_alloc] at this
  have s1 : At W0 (w.heap.size + 1) 1 _ := cells_at x2 rfl
  have s0 : At W0 (w.heap.size + 1) 0 _ := cells_at x2 rfl
  have s2 : At W0 (w.heap.size + 1) 2 _ := cells_at x2 rfl
  have s3 : At W0 (w.heap.size + 1) 3 _ := cells_at x2 rfl
  have s4 : At W0 (w.heap.size + 1) 4 _ := cells_at x2 rfl
  have s5 : At W0 (w.heap.size + 1) 5 _ := cells_at x2 rfl
  have s6 : At W0 (w.heap.size + 1) 6 _ := cells_at x2 rfl
  have s7 : At W0 (w.heap.size + 1) 7 _ := cells_at x2 rfl
  have s8 : At W0 (w.heap.size + 1) 8 _ := cells_at x2 rfl
  have j0 : At W0 w.heap.size 0 _ := cells_at x1 rfl
  have j1 : At W0 w.heap.size 1 _ := cells_at x1 rfl
  have j2 : At W0 w.heap.size 2 _ := cells_at x1 rfl
  have j3 : At W0 w.heap.size 3 _ := cells_at x1 rfl
  replace hW := Kp.mk hW
  replace f2 := Kp.mk f2
  replace x1 := Kp.mk x1
  replace x2 := Kp.mk x2
  by_cases q1 : 0 ≤ ca ∧ ca < fs.length
  · obtain ⟨q1, q2⟩ := q1
    obtain ⟨m, rfl⟩ := Int.eq_ofNat_of_zero_le q1
    have hn : m < fs.length := by omega
    have hcal := calD_get hn
    obtain ⟨vp, vb, hfa⟩ := hfc m hn
    obtain rfl := f2.out (by omega)
    have hR : isIx (m : Int) fs.length = true := by simp [isIx, hn]
    rw [hR] at IOq ⊢
    rw [hcal]
    have HC := at_keep hfa.c3 BB
    clear hfa hcal hfc
    have q2' : (m : Int) < fs.length := q2
    generalize fs[m].res = U at *
    by_cases hu : ty = U
    · subst hu
      rw [show (true && decide (ty = ty)) = true by simp]
      have kj0 := cell_regrown j0
      have kj1 := cell_regrown j1
      have kj2 := cell_regrown j2
      have kj3 := cell_regrown j3
      have ks0 := cell_regrown s0
      have ks1 := cell_regrown s1
      have ks2 := cell_regrown s2
      have ks3 := cell_regrown s3
      have ks4 := cell_regrown s4
      have ks5 := cell_regrown s5
      have ks6 := cell_regrown s6
      have ks7 := cell_regrown s7
      have ks8 := cell_regrown s8
      have kfc := cell_regrown HC
      have IO2 : Kp (∀ d os, Calls Tryz.prog 272 _ (Go.Sort.grow (redrawn W0 d) os) _) := ⟨fun d os => Calls.regrown_of (IOq.out _)⟩
      go_enter Tryz.func273, Tryz.ntmps273
      go_upto_region 1 with fail
      rw [← hW.out]
      refine wp_region_quiet_below (by kernel_rfl) (by kernel_rfl) ?_
      repeat (go_big_quiet_step (fail))
      go_big_quiet_step (exact IO2.out _ _)
      repeat (go_big_quiet_step (fail))
      refine wpQuiet_nil ?_
      intro _ hw'
      obtain ⟨⟨dq, osq⟩, hw''⟩ := hw'
      subst hw''
      have hq := below_regrown W0 dq osq
      go_wp2_with fail
      go_ret
      exact ⟨rfl, bel_trans BB hq⟩
    · rw [show (true && decide (ty = U)) = false by simp [hu]]
      have hu' := nb hu
      clear hu
      have kj0 := cell_regrown j0
      have kj1 := cell_regrown j1
      have kj2 := cell_regrown j2
      have kj3 := cell_regrown j3
      have ks0 := cell_regrown s0
      have ks1 := cell_regrown s1
      have ks2 := cell_regrown s2
      have ks3 := cell_regrown s3
      have ks4 := cell_regrown s4
      have ks5 := cell_regrown s5
      have ks6 := cell_regrown s6
      have ks7 := cell_regrown s7
      have ks8 := cell_regrown s8
      have kfc := cell_regrown HC
      have IO2 : Kp (∀ d os, Calls Tryz.prog 272 _ (Go.Sort.grow (redrawn W0 d) os) _) := ⟨fun d os => Calls.regrown_of (IOq.out _)⟩
      go_enter Tryz.func273, Tryz.ntmps273
      go_upto_region 1 with fail
      rw [← hW.out]
      refine wp_region_quiet_below (by kernel_rfl) (by kernel_rfl) ?_
      repeat (go_big_quiet_step (fail))
      go_big_quiet_step (exact IO2.out _ _)
      repeat (go_big_quiet_step (fail))
      refine wpQuiet_nil ?_
      intro _ hw'
      obtain ⟨⟨dq, osq⟩, hw''⟩ := hw'
      subst hw''
      have hq := below_regrown W0 dq osq
      go_wp2_with fail
      go_ret
      exact ⟨rfl, bel_trans BB hq⟩
  · have hR : isIx ca fs.length = false := by simp [isIx]; omega
    rw [hR] at IOq ⊢
    clear q1 hfc
    rw [show (false && decide (ty = (calD fs ca).res)) = false by simp]
    have HC := j0
    have kj0 := cell_regrown j0
    have kj1 := cell_regrown j1
    have kj2 := cell_regrown j2
    have kj3 := cell_regrown j3
    have ks0 := cell_regrown s0
    have ks1 := cell_regrown s1
    have ks2 := cell_regrown s2
    have ks3 := cell_regrown s3
    have ks4 := cell_regrown s4
    have ks5 := cell_regrown s5
    have ks6 := cell_regrown s6
    have ks7 := cell_regrown s7
    have ks8 := cell_regrown s8
    have kfc := cell_regrown HC
    have IO2 : Kp (∀ d os, Calls Tryz.prog 272 _ (Go.Sort.grow (redrawn W0 d) os) _) := ⟨fun d os => Calls.regrown_of (IOq.out _)⟩
    go_enter Tryz.func273, Tryz.ntmps273
    go_upto_region 1 with fail
    rw [← hW.out]
    refine wp_region_quiet_below (by kernel_rfl) (by kernel_rfl) ?_
    repeat (go_big_quiet_step (fail))
    go_big_quiet_step (exact IO2.out _ _)
    repeat (go_big_quiet_step (fail))
    refine wpQuiet_nil ?_
    intro _ hw'
    obtain ⟨⟨dq, osq⟩, hw''⟩ := hw'
    subst hw''
    have hq := below_regrown W0 dq osq
    go_wp2_with fail
    go_ret
    exact ⟨rfl, bel_trans BB hq⟩

set_option maxRecDepth 100000 in
set_option maxHeartbeats 4000000 in
theorem inWan (op ty ca : Int) (a : Option Addr) (n c : Nat) (a1 a2 a3 a4 a5 : Option Addr) (n1 n3 n4 n5 c1 c2 c3 c4 c5 : Nat) (fs : List FnD) (name : ByteArray) (link res bk : Int) (w : World) {lo : Nat} (hf : Fns lo w (.slice a2 fs.length c2) fs) :
    Calls Tryz.prog 274 #[.agg #[.int .i64 op, .int .i64 ty, .slice a n c, .int .i64 ca], scV (.slice a1 n1 c1) (.slice a2 fs.length c2) name link (.slice a3 n3 c3) res (.slice a4 n4 c4) (.slice a5 n5 c5) bk] w fun e w' => ∃ v, e = .returned v ∧ Ints 0 .i64 w' v (if isIx ca fs.length = true then (calD fs ca).params else []) ∧ Below w.heap.size w w' := by
  obtain ⟨bf, of, ⟨⟨_, _, hve, f1, f2⟩, f3⟩, -, hfc⟩ := hf.ex
  injection hve with v1 v2 v3
  subst v1 v3
  clear v2 hf
  have IOq : Kp (∀ w, Calls Tryz.prog 272 #[.agg #[.int .i64 op, .int .i64 ty, .slice a n c, .int .i64 ca], scV (.slice a1 n1 c1) (.slice a2 fs.length c2) name link (.slice a3 n3 c3) res (.slice a4 n4 c4) (.slice a5 n5 c5) bk] w fun e w' => e = .returned (.bool (isIx ca fs.length)) ∧ Below w.heap.size w w') := ⟨fun w => inOwn op ty ca a n c a1 a2 a3 a4 a5 n1 fs.length n3 n4 n5 c1 c2 c3 c4 c5 name link res bk w f3⟩
  have g2 : (fs.length : Int) ≤ 140737488355328 := by omega
  obtain ⟨W0, hW⟩ : ∃ W0, W0 = (w.alloc (Go.Obj.cells #[.int .i64 op, .int .i64 ty, .slice a n c, .int .i64 ca] 234)).alloc (scC (.slice a1 n1 c1) (.slice a2 fs.length c2) name link (.slice a3 n3 c3) res (.slice a4 n4 c4) (.slice a5 n5 c5) bk) := ⟨_, rfl⟩
  have BB : Below w.heap.size w W0 := by rw [hW]; exact bel_trans (bel_alloc w _) (bel_alloc _ _)
  have x1 : W0.heap[w.heap.size]? = some (Go.Obj.cells #[.int .i64 op, .int .i64 ty, .slice a n c, .int .i64 ca] 234) := by rw [hW]; exact kept_at (new_at w _) (bel_alloc _ _)
  have x2 : W0.heap[w.heap.size + 1]? = some (scC (.slice a1 n1 c1) (.slice a2 fs.length c2) name link (.slice a3 n3 c3) res (.slice a4 n4 c4) (.slice a5 n5 c5) bk) := by
    rw [hW]
    have := new_at (w.alloc (Go.Obj.cells #[.int .i64 op, .int .i64 ty, .slice a n c, .int .i64 ca] 234)) (scC (.slice a1 n1 c1) (.slice a2 fs.length c2) name link (.slice a3 n3 c3) res (.slice a4 n4 c4) (.slice a5 n5 c5) bk)
    rwa [World.size_alloc] at this
  have s1 : At W0 (w.heap.size + 1) 1 _ := cells_at x2 rfl
  have s0 : At W0 (w.heap.size + 1) 0 _ := cells_at x2 rfl
  have s2 : At W0 (w.heap.size + 1) 2 _ := cells_at x2 rfl
  have s3 : At W0 (w.heap.size + 1) 3 _ := cells_at x2 rfl
  have s4 : At W0 (w.heap.size + 1) 4 _ := cells_at x2 rfl
  have s5 : At W0 (w.heap.size + 1) 5 _ := cells_at x2 rfl
  have s6 : At W0 (w.heap.size + 1) 6 _ := cells_at x2 rfl
  have s7 : At W0 (w.heap.size + 1) 7 _ := cells_at x2 rfl
  have s8 : At W0 (w.heap.size + 1) 8 _ := cells_at x2 rfl
  have j0 : At W0 w.heap.size 0 _ := cells_at x1 rfl
  have j1 : At W0 w.heap.size 1 _ := cells_at x1 rfl
  have j2 : At W0 w.heap.size 2 _ := cells_at x1 rfl
  have j3 : At W0 w.heap.size 3 _ := cells_at x1 rfl
  replace hW := Kp.mk hW
  replace f2 := Kp.mk f2
  replace x1 := Kp.mk x1
  replace x2 := Kp.mk x2
  by_cases q1 : 0 ≤ ca ∧ ca < fs.length
  · obtain ⟨q1, q2⟩ := q1
    obtain ⟨m, rfl⟩ := Int.eq_ofNat_of_zero_le q1
    have hn : m < fs.length := by omega
    have hcal := calD_get hn
    obtain ⟨vp, vb, hfa⟩ := hfc m hn
    obtain rfl := f2.out (by omega)
    have hR : isIx (m : Int) fs.length = true := by simp [isIx, hn]
    rw [hR] at IOq ⊢
    rw [hcal]
    rw [if_pos rfl]
    have HC := at_keep hfa.c2 BB
    have HP := Kp.mk (hfa.f.p.keep BB)
    clear hfa hcal hfc
    have q2' : (m : Int) < fs.length := q2
    obtain ⟨ap, cp, rfl⟩ := HP.out.shape
    go_enter Tryz.func274, Tryz.ntmps274
    go_upto_region 1 with fail
    rw [← hW.out]
    go_wp2_with fail
    refine (IOq.out _).mono ?_
    rintro e w1 ⟨rfl, hb1⟩
    have y3 : At w1 w.heap.size 3 _ := cells_at (kept_at x1.out hb1) rfl
    have z1 : At w1 (w.heap.size + 1) 1 _ := cells_at (kept_at x2.out hb1) rfl
    have fc := at_keep HC hb1
    go_wp2_with fail
    go_ret
    exact ⟨_, rfl, (HP.out.keep hb1).mono (Nat.zero_le _) (fun _ _ _ _ h => h), bel_trans BB hb1⟩
  · have hR : isIx ca fs.length = false := by simp [isIx]; omega
    rw [hR] at IOq ⊢
    clear q1 hfc
    rw [if_neg (by simp)]
    go_enter Tryz.func274, Tryz.ntmps274
    go_upto_region 1 with fail
    rw [← hW.out]
    go_wp2_with fail
    refine (IOq.out _).mono ?_
    rintro e w1 ⟨rfl, hb1⟩
    go_wp2_with fail
    go_ret
    exact ⟨_, rfl, ints0 _, bel_trans BB hb1⟩

def jnB (op : Int) (n m : Nat) : Bool := if op = 20 then decide (0 < n) && decide (m = n) else if op = 28 then decide (m = 2) else decide (m = 1)

set_option maxRecDepth 100000 in
set_option maxHeartbeats 4000000 in
theorem jnOwn (op ty : Int) (a b : Option Addr) (n c m d : Nat) (a1 a2 a3 a4 a5 : Option Addr) (n1 n2 n3 n4 n5 c1 c2 c3 c4 c5 : Nat) (name : ByteArray) (link res bk : Int) (w : World) (hn : n ≤ 140737488355328) (hm : m ≤ 140737488355328) :
    Calls Tryz.prog 275 #[.agg #[.int .i64 op, .int .i64 ty, .slice a n c, .slice b m d], scV (.slice a1 n1 c1) (.slice a2 n2 c2) name link (.slice a3 n3 c3) res (.slice a4 n4 c4) (.slice a5 n5 c5) bk] w fun e w' => e = .returned (.bool (jnB op n m)) ∧ Below w.heap.size w w' := by
  have g1 : (n : Int) ≤ 140737488355328 := by omega
  have g2 : (m : Int) ≤ 140737488355328 := by omega
  by_cases e20 : op = 20
  · subst e20
    rw [show jnB 20 n m = (decide (0 < n) && decide (m = n)) by simp [jnB]]
    go_enter Tryz.func275, Tryz.ntmps275
    go_wp2_with fail
    all_goals
      go_ret
      exact ⟨ret_bool (by first | rfl | (rw [Bool.eq_iff_iff]; simp; done) | (rw [Bool.eq_iff_iff]; simp; omega) | simp_all), bel_trans (bel_alloc _ _) (bel_alloc _ _)⟩
  by_cases e28 : op = 28
  · subst e28
    rw [show jnB 28 n m = decide (m = 2) by simp [jnB]]
    go_enter Tryz.func275, Tryz.ntmps275
    go_wp2_with fail
    all_goals
      go_ret
      exact ⟨ret_bool (by first | rfl | (rw [Bool.eq_iff_iff]; simp; done) | (rw [Bool.eq_iff_iff]; simp; omega) | simp_all), bel_trans (bel_alloc _ _) (bel_alloc _ _)⟩
  rw [show jnB op n m = decide (m = 1) by simp [jnB, e20, e28]]
  have n20 := nb e20
  have n28 := nb e28
  clear e20 e28
  go_enter Tryz.func275, Tryz.ntmps275
  go_wp2_with fail
  all_goals
    go_ret
    exact ⟨ret_bool (by first | rfl | (rw [Bool.eq_iff_iff]; simp; done) | (rw [Bool.eq_iff_iff]; simp; omega) | simp_all), bel_trans (bel_alloc _ _) (bel_alloc _ _)⟩

set_option maxRecDepth 100000 in
set_option maxHeartbeats 4000000 in
theorem jnTgt (op ty : Int) (a b : Option Addr) (n c m d : Nat)  (w : World)  :
    Calls Tryz.prog 276 #[.agg #[.int .i64 op, .int .i64 ty, .slice a n c, .slice b m d]] w fun e w' => e = .returned (.slice b m d) ∧ Below w.heap.size w w' := by
  go_enter Tryz.func276, Tryz.ntmps276
  go_wp2_with fail
  go_ret
  exact ⟨rfl, bel_alloc _ _⟩

set_option maxRecDepth 100000 in
set_option maxHeartbeats 4000000 in
theorem diWan (op ty : Int) (va : Value) (args : List OpD) (b b2 : Option Addr) (m d m2 d2 : Nat) (a1 a2 a3 a4 a5 : Option Addr) (n1 n2 n3 n4 n5 c1 c2 c3 c4 c5 : Nat) (name : ByteArray) (link res bk : Int) (w : World) {lo : Nat} (h : Ops lo w va args) (hw : Wid w) :
    Calls Tryz.prog 284 #[.agg #[.int .i64 op, .int .i64 ty, va, .slice b m d, .slice b2 m2 d2], scV (.slice a1 n1 c1) (.slice a2 n2 c2) name link (.slice a3 n3 c3) res (.slice a4 n4 c4) (.slice a5 n5 c5) bk] w fun e w' => ∃ v, e = .returned v ∧ Ints 0 .i64 w' v [fwd args] ∧ Below w.heap.size w w' := by
  obtain ⟨bb, o, ⟨⟨a, c, rfl, s1, s2⟩, s3⟩, -, hc⟩ := h.ex
  have FW : Kp (∀ w, Ops lo w (.slice a args.length c) args → Wid w → Calls Tryz.prog 266 #[hdV op ty (.slice a args.length c)] w fun e w' => e = .returned (.int .i64 (fwd args)) ∧ Below w.heap.size w w') := ⟨fun w h hw => hdFw op ty _ args w h hw⟩
  have BB := Kp.mk (bel_trans (bel_alloc w (Go.Obj.cells #[.int .i64 op, .int .i64 ty, .slice a args.length c, .slice b m d, .slice b2 m2 d2] 238)) (bel_alloc _ (scC (.slice a1 n1 c1) (.slice a2 n2 c2) name link (.slice a3 n3 c3) res (.slice a4 n4 c4) (.slice a5 n5 c5) bk)))
  have hw1 := Kp.mk (hw.below BB.out)
  have h1 := Kp.mk (h.keep BB.out)
  clear h hw hc s2
  generalize fwd args = T at *
  go_enter Tryz.func284, Tryz.ntmps284
  go_wp2_with fail
  refine (FW.out _ h1.out hw1.out).mono ?_
  rintro e w1 ⟨rfl, hb1⟩
  have B1 := bel_trans BB.out hb1
  go_wp2_with fail
  go_ret
  exact ⟨_, rfl, ints1 (new_at w1 _), bel_trans B1 (bel_alloc _ _)⟩
end
section
open Go.ChangeShapes Go.WideShapes Go.ChangeAt Go.RowKit

set_option linter.unusedVariables false

set_option linter.unusedSimpArgs false

def idxW (xs : List Int) (n : Nat) (x : Int) : Int := match (List.range n).find? (fun j => decide (xs.getD j 0 = x)) with | some j => j | none => -1

theorem idxW_hit {xs : List Int} {n i : Nat} {x : Int} (hi : i < n) (h : ∀ j, j < i → xs.getD j 0 ≠ x) (e : xs.getD i 0 = x) : idxW xs n x = i := by
  unfold idxW
  have : (List.range n).find? (fun j => decide (xs.getD j 0 = x)) = some i := by
    rw [List.find?_range_eq_some]
    exact ⟨by simpa using e, by simpa using hi, fun j hj => by simpa using h j hj⟩
  rw [this]

theorem idxW_miss {xs : List Int} {n : Nat} {x : Int} (h : ∀ j, j < n → xs.getD j 0 ≠ x) : idxW xs n x = -1 := by
  unfold idxW
  have : (List.range n).find? (fun j => decide (xs.getD j 0 = x)) = none := by
    rw [List.find?_range_eq_none]
    exact fun j hj => by simpa using h j hj
  rw [this]

set_option maxRecDepth 100000 in
set_option maxHeartbeats 4000000 in
theorem idxI (a : Option Addr) (n c : Nat) (xs : List Int) (b o : Nat) (x : Int) (w : World) (hn : n ≤ 140737488355328) (ha : 0 < n → a = some ⟨b, o, none⟩) (hc : ∀ j, j < n → At w b (o + j) (.int .u64 (xs.getD j 0))) :
    Calls Tryz.prog 286 #[.slice a n c, .int .u64 x] w fun e w' => e = .returned (.int .i64 (idxW xs n x)) ∧ w' = w := by
  have g1 : (n : Int) ≤ 140737488355328 := by omega
  replace ha := Kp.mk ha
  replace hc := Kp.mk hc
  obtain ⟨R, hR⟩ : ∃ R, R = idxW xs n x := ⟨_, rfl⟩
  have H1 : Kp (∀ i, i < n → (∀ j, j < i → xs.getD j 0 ≠ x) → xs.getD i 0 = x → R = i) := ⟨fun i hi h e => by rw [hR]; exact idxW_hit hi h e⟩
  have H2 : Kp ((∀ j, j < n → xs.getD j 0 ≠ x) → R = -1) := ⟨fun h => by rw [hR]; exact idxW_miss h⟩
  rw [← hR]
  clear hR
  go_enter Tryz.func286, Tryz.ntmps286
  go_wp2_with fail
  go_loopw [8] (fun s wr => wr = w ∧ ∃ i : Nat, i ≤ n ∧ s = .int .i64 i ∧ Kp (∀ j, j < i → xs.getD j 0 ≠ x)) (fun s _ => n - (intOf s).toNat)
  case atStart => exact ⟨rfl, 0, Nat.zero_le _, rfl, ⟨fun j hj => absurd hj (by omega)⟩⟩
  case round =>
    obtain ⟨rfl, i, hi, rfl, hd⟩ := hrel
    by_cases hlt : i < n
    · obtain rfl := ha.out (by omega)
      have hlt' : (i : Int) < (n : Int) := by omega
      have ci := hc.out i hlt
      by_cases q : xs.getD i 0 = x
      · have hR := H1.out i hlt hd.out q
        rw [q] at ci
        subst hR
        go_wp2_with fail
        go_ret
        exact ⟨rfl, rfl⟩
      · have hd' : Kp (∀ j, j < i + 1 → xs.getD j 0 ≠ x) := ⟨fun j hj => by
          by_cases e : j = i
          · rw [e]; exact q
          · exact hd.out j (by omega)⟩
        have q2 : ¬ x = xs.getD i 0 := fun h => q h.symm
        have q' := nb q2
        clear q q2 hd
        generalize xs.getD i 0 = u at *
        go_wp2_with fail
        exact ⟨⟨trivial, i + 1, by omega, by go_num, hd'⟩, by simp [intOf]; omega⟩
    · have hlt' : ¬ (i : Int) < (n : Int) := by omega
      obtain rfl : i = n := by omega
      have hR := H2.out hd.out
      subst hR
      go_wp2_with fail
      go_ret
      exact ⟨rfl, rfl⟩

set_option maxRecDepth 100000 in
set_option maxHeartbeats 4000000 in
theorem conI (a : Option Addr) (n c : Nat) (xs : List Int) (b o : Nat) (x : Int) (w : World) (hn : n ≤ 140737488355328) (ha : 0 < n → a = some ⟨b, o, none⟩) (hc : ∀ j, j < n → At w b (o + j) (.int .u64 (xs.getD j 0))) :
    Calls Tryz.prog 285 #[.slice a n c, .int .u64 x] w fun e w' => e = .returned (.bool (decide (0 ≤ idxW xs n x))) ∧ w' = w := by
  have IX := Kp.mk (idxI a n c xs b o x w hn ha hc)
  generalize idxW xs n x = R at *
  clear ha hc
  go_enter Tryz.func285, Tryz.ntmps285
  go_wp2_with fail
  refine IX.out.mono ?_
  rintro e w1 ⟨rfl, rfl⟩
  go_wp2_with fail
  all_goals
    go_ret
    exact ⟨ret_bool (by first | rfl | (rw [Bool.eq_iff_iff]; simp; done) | simp_all), rfl⟩

theorem idxW_ge {xs : List Int} {n : Nat} {x : Int} : 0 ≤ idxW xs n x ↔ ∃ j, j < n ∧ xs.getD j 0 = x := by
  constructor
  · intro h
    refine Decidable.byContradiction fun q => ?_
    rw [idxW_miss (fun j hj e => q ⟨j, hj, e⟩)] at h
    omega
  · rintro ⟨j, hj, e⟩
    unfold idxW
    split
    · omega
    · rename_i h
      rw [List.find?_range_eq_none] at h
      exact absurd e (by simpa using h j hj)

def diB (ws : List Int) (m : Nat) : Bool := decide (ws.length ≤ 12) && (decide (m = ws.length + 1) && difB ws)

theorem difB_getD2 (xs : List Int) : difB xs = true ↔ ∀ i j, i < xs.length → j < i → xs.getD i 0 ≠ xs.getD j 0 := by
  rw [difB_iff]
  constructor
  · intro h i j hi hj
    have hj' : j < xs.length := by omega
    rw [show xs.getD i 0 = xs[i] by simp [List.getD_eq_getElem?_getD, hi], show xs.getD j 0 = xs[j] by simp [List.getD_eq_getElem?_getD, hj']]
    exact h i j hi hj
  · intro h i j hi hj
    have hj' : j < xs.length := by omega
    have q := h i j hi hj
    rwa [show xs.getD i 0 = xs[i] by simp [List.getD_eq_getElem?_getD, hi], show xs.getD j 0 = xs[j] by simp [List.getD_eq_getElem?_getD, hj']] at q

set_option maxRecDepth 100000 in
set_option maxHeartbeats 4000000 in
theorem diOwn (op ty : Int) (a b : Option Addr) (n c m d : Nat) (vs : Value) (ws : List Int) (a1 a2 a3 a4 a5 : Option Addr) (n1 n2 n3 n4 n5 c1 c2 c3 c4 c5 : Nat) (name : ByteArray) (link res bk : Int) (w : World) {lo : Nat} (h : Ints lo .u64 w vs ws) (hm : m ≤ 140737488355328) :
    Calls Tryz.prog 283 #[.agg #[.int .i64 op, .int .i64 ty, .slice a n c, .slice b m d, vs], scV (.slice a1 n1 c1) (.slice a2 n2 c2) name link (.slice a3 n3 c3) res (.slice a4 n4 c4) (.slice a5 n5 c5) bk] w fun e w' => e = .returned (.bool (diB ws m)) ∧ Below w.heap.size w w' := by
  obtain ⟨bw, ow, ⟨⟨aw, cw, rfl, s1, s2⟩, s3⟩, -, hc⟩ := h.ex
  have g1 : (ws.length : Int) ≤ 140737488355328 := by omega
  have g2 : (m : Int) ≤ 140737488355328 := by omega
  obtain ⟨W0, hW⟩ : ∃ W0, W0 = (w.alloc (Go.Obj.cells #[.int .i64 op, .int .i64 ty, .slice a n c, .slice b m d, .slice aw ws.length cw] 238)).alloc (scC (.slice a1 n1 c1) (.slice a2 n2 c2) name link (.slice a3 n3 c3) res (.slice a4 n4 c4) (.slice a5 n5 c5) bk) := ⟨_, rfl⟩
  have BB : Below w.heap.size w W0 := by rw [hW]; exact bel_trans (bel_alloc w _) (bel_alloc _ _)
  have x1 : W0.heap[w.heap.size]? = some (Go.Obj.cells #[.int .i64 op, .int .i64 ty, .slice a n c, .slice b m d, .slice aw ws.length cw] 238) := by rw [hW]; exact kept_at (new_at w _) (bel_alloc _ _)
  have j3 : At W0 w.heap.size 3 _ := cells_at x1 rfl
  have j4 : At W0 w.heap.size 4 _ := cells_at x1 rfl
  have hWs : Kp (∀ i (h : i < ws.length), At W0 bw (ow + i) (.int .u64 (ws.getD i 0))) := ⟨fun i h => by
    have := at_keep (hc i h) BB
    rwa [show ws.getD i 0 = ws[i] by simp [List.getD_eq_getElem?_getD, h]]⟩
  have dif := Kp.mk (difB_getD2 ws)
  clear hc h x1
  replace hW := Kp.mk hW
  replace s2 := Kp.mk s2
  by_cases h12 : ws.length ≤ 12
  · by_cases hm2 : m = ws.length + 1
    · subst hm2
      have G : Kp (diB ws (ws.length + 1) = difB ws) := ⟨by simp [diB, h12]⟩
      rw [G.out]
      have h12' : ¬ (12 : Int) < (ws.length : Int) := by omega
      have CO : Kp (∀ i (hi : i < ws.length), Calls Tryz.prog 285 #[.slice aw i cw, .int .u64 (ws.getD i 0)] W0 fun e w' => e = .returned (.bool (decide (0 ≤ idxW ws i (ws.getD i 0)))) ∧ w' = W0) := ⟨fun i hi => conI aw i cw ws bw ow _ W0 (by omega) (fun h => s2.out (by omega)) (fun j hj => hWs.out j (by omega))⟩
      go_enter Tryz.func283, Tryz.ntmps283
      go_upto_region 1 with fail
      rw [← hW.out]
      go_wp2_with fail
      go_loopw [25] (fun s wr => wr = W0 ∧ ∃ i : Nat, i ≤ ws.length ∧ s = .int .i64 i ∧ Kp (∀ p q, p < i → q < p → ws.getD p 0 ≠ ws.getD q 0)) (fun s _ => ws.length - (intOf s).toNat)
      case atStart => exact ⟨rfl, 0, Nat.zero_le _, rfl, ⟨fun j q hj => absurd hj (by omega)⟩⟩
      case round =>
        obtain ⟨rfl, i, hi, rfl, hd⟩ := hrel
        by_cases hlt : i < ws.length
        · obtain rfl := s2.out (by omega)
          have hlt' : (i : Int) < (ws.length : Int) := by omega
          have hcap : (i : Int) ≤ (cw : Int) := by omega
          have ci := hWs.out i hlt
          have Ci := Kp.mk (CO.out i hlt)
          have hge := Kp.mk (@idxW_ge ws i (ws.getD i 0))
          generalize hu : ws.getD i 0 = u at *
          generalize idxW ws i u = R at *
          replace hu := Kp.mk hu
          by_cases q : 0 ≤ R
          · have hf : Kp (difB ws = false) := ⟨by
              obtain ⟨j, hj, e⟩ := hge.out.1 q
              rw [Bool.eq_false_iff]
              intro t
              exact dif.out.1 t i j hlt hj (hu.out.trans e.symm)⟩
            have Q : Kp (decide (0 ≤ R) = true) := ⟨decide_eq_true q⟩
            rw [Q.out] at Ci
            clear q Q hge
            go_wp2_with fail
            refine Ci.out.mono ?_
            rintro e w1 ⟨rfl, rfl⟩
            go_wp2_with fail
            go_ret
            exact ⟨ret_bool (by rw [hf.out]), BB⟩
          · have hd' : Kp (∀ p q, p < i + 1 → q < p → ws.getD p 0 ≠ ws.getD q 0) := ⟨fun p r hp hr => by
              by_cases e : p = i
              · subst e
                intro e2
                exact q (hge.out.2 ⟨r, hr, e2.symm.trans hu.out⟩)
              · exact hd.out p r (by omega) hr⟩
            have Q : Kp (decide (0 ≤ R) = false) := ⟨decide_eq_false q⟩
            rw [Q.out] at Ci
            clear q Q hge hd
            go_wp2_with fail
            refine Ci.out.mono ?_
            rintro e w1 ⟨rfl, rfl⟩
            go_wp2_with fail
            exact ⟨⟨trivial, i + 1, by omega, by go_num, hd'⟩, by simp [intOf]; omega⟩
        · have hlt' : ¬ (i : Int) < (ws.length : Int) := by omega
          obtain rfl : i = ws.length := by omega
          have ht : Kp (difB ws = true) := ⟨dif.out.2 (fun i j hi hj => hd.out i j hi hj)⟩
          go_wp2_with fail
          go_ret
          exact ⟨ret_bool (by rw [ht.out]), BB⟩
    · have G : Kp (diB ws m = false) := ⟨by simp [diB, hm2]⟩
      rw [G.out]
      have h12' : ¬ (12 : Int) < (ws.length : Int) := by omega
      have hm3 := nb (x := (m : Int)) (k := (ws.length : Int) + 1) (by omega)
      have hm4 := nbT (x := (m : Int)) (k := (ws.length : Int) + 1) (by omega)
      clear dif hm2 h12
      go_enter Tryz.func283, Tryz.ntmps283
      go_upto_region 1 with fail
      rw [← hW.out]
      go_wp2_with fail
      go_ret
      exact ⟨rfl, BB⟩
  · have G : Kp (diB ws m = false) := ⟨by simp [diB, h12]⟩
    rw [G.out]
    have h12' : (12 : Int) < (ws.length : Int) := by omega
    clear dif h12
    go_enter Tryz.func283, Tryz.ntmps283
    go_upto_region 1 with fail
    rw [← hW.out]
    go_wp2_with fail
    go_ret
    exact ⟨rfl, BB⟩

set_option maxRecDepth 100000 in
set_option maxHeartbeats 4000000 in
theorem diCas (op ty : Int) (va : Value) (args : List OpD) (b : Option Addr) (m d : Nat) (vs : Value) (ws : List Int) (w : World) {lo : Nat} (ha : Ops lo w va args) (h : Ints lo .u64 w vs ws) (hb : ∀ z ∈ ws, 0 ≤ z ∧ z ≤ 18446744073709551615) (hw : Wid w) :
    Calls Tryz.prog 282 #[.agg #[.int .i64 op, .int .i64 ty, va, .slice b m d, vs]] w fun e w' => e = .returned (.bool (ws.all fun v => isW (fty args) v)) ∧ Below w.heap.size w w' := by
  obtain ⟨bw, ow, ⟨⟨aw, cw, rfl, s1, s2⟩, s3⟩, -, hc⟩ := h.ex
  obtain ⟨aa, ca, rfl⟩ : ∃ a c, va = .slice a args.length c := by
    obtain ⟨_, _, ⟨⟨a, c, e, _⟩, _⟩, _⟩ := ha.ex
    exact ⟨a, c, e⟩
  have g1 : (ws.length : Int) ≤ 140737488355328 := by omega
  obtain ⟨W0, hW⟩ : ∃ W0, W0 = w.alloc (Go.Obj.cells #[.int .i64 op, .int .i64 ty, .slice aa args.length ca, .slice b m d, .slice aw ws.length cw] 238) := ⟨_, rfl⟩
  have BB : Below w.heap.size w W0 := by rw [hW]; exact bel_alloc w _
  have x1 := new_at w (Go.Obj.cells #[.int .i64 op, .int .i64 ty, .slice aa args.length ca, .slice b m d, .slice aw ws.length cw] 238)
  rw [← hW] at x1
  have j4 : At W0 w.heap.size 4 _ := cells_at x1 rfl
  have hX : Kp (∀ W, Below W0.heap.size W0 W → W.heap[w.heap.size]? = some (Go.Obj.cells #[.int .i64 op, .int .i64 ty, .slice aa args.length ca, .slice b m d, .slice aw ws.length cw] 238)) := ⟨fun W hB => kept_at x1 hB⟩
  have hWs : Kp (∀ W, Below W0.heap.size W0 W → ∀ i (h : i < ws.length), At W bw (ow + i) (.int .u64 (ws.getD i 0))) := ⟨fun W hB i h => by
    have := at_keep (hc i h) (bel_trans BB hB)
    rwa [show ws.getD i 0 = ws[i] by simp [List.getD_eq_getElem?_getD, h]]⟩
  have FT : Kp (∀ W, Below W0.heap.size W0 W → Calls Tryz.prog 265 #[hdV op ty (.slice aa args.length ca)] W fun e w' => e = .returned (.int .i64 (fty args)) ∧ Below W.heap.size W w') := ⟨fun W hB => hdFty op ty _ args W (ha.keep (bel_trans BB hB)) (hw.below (bel_trans BB hB))⟩
  have IW : Kp (∀ W, Below W0.heap.size W0 W → ∀ i (h : i < ws.length), Calls Tryz.prog 206 #[.int .i64 (fty args), .int .u64 (ws.getD i 0)] W fun e w' => e = .returned (.bool (isW (fty args) (ws.getD i 0))) ∧ w' = W) := ⟨fun W hB i h => by
    have hz : ws.getD i 0 ∈ ws := by
      rw [show ws.getD i 0 = ws[i] by simp [List.getD_eq_getElem?_getD, h]]
      exact List.getElem_mem _
    exact isWord_any _ _ W (hw.below (bel_trans BB hB)) (hb _ hz).1 (hb _ hz).2⟩
  have all := Kp.mk (show (ws.all fun v => isW (fty args) v) = true ↔ ∀ i, i < ws.length → isW (fty args) (ws.getD i 0) = true by
    rw [List.all_eq_true]
    constructor
    · intro h i hi
      rw [show ws.getD i 0 = ws[i] by simp [List.getD_eq_getElem?_getD, hi]]
      exact h _ (List.getElem_mem _)
    · intro h z hz
      obtain ⟨i, hi, rfl⟩ := List.getElem_of_mem hz
      have := h i hi
      rwa [show ws.getD i 0 = ws[i] by simp [List.getD_eq_getElem?_getD, hi]] at this)
  clear hc h x1 ha hw hb
  generalize fty args = T at *
  generalize args.length = AL at *
  replace hW := Kp.mk hW
  replace s2 := Kp.mk s2
  go_enter Tryz.func282, Tryz.ntmps282
  go_upto_region 1 with fail
  rw [← hW.out]
  go_wp2_with fail
  go_loopw [8] (fun s wr => ∃ i : Nat, i ≤ ws.length ∧ s = .int .i64 i ∧ Kp (∀ p, p < i → isW T (ws.getD p 0) = true) ∧ Below W0.heap.size W0 wr) (fun s _ => ws.length - (intOf s).toNat)
  case atStart => exact ⟨0, Nat.zero_le _, rfl, ⟨fun j hj => absurd hj (by omega)⟩, Below.refl _ _⟩
  case round =>
    clear j4
    obtain ⟨i, hi, rfl, hd, hB⟩ := hrel
    have x1 := hX.out _ hB
    have j0 : At wr w.heap.size 0 _ := cells_at x1 rfl
    have j1 : At wr w.heap.size 1 _ := cells_at x1 rfl
    have j2 : At wr w.heap.size 2 _ := cells_at x1 rfl
    have j4 : At wr w.heap.size 4 _ := cells_at x1 rfl
    by_cases hlt : i < ws.length
    · obtain rfl := s2.out (by omega)
      have hlt' : (i : Int) < (ws.length : Int) := by omega
      have ci := hWs.out _ hB i hlt
      have Fi := Kp.mk (FT.out _ hB)
      have Ii : Kp (∀ W, Below W0.heap.size W0 W → Calls Tryz.prog 206 #[.int .i64 T, .int .u64 (ws.getD i 0)] W fun e w' => e = .returned (.bool (isW T (ws.getD i 0))) ∧ w' = W) := ⟨fun W hB => IW.out W hB i hlt⟩
      cases hq : isW T (ws.getD i 0) with
      | true =>
        rw [hq] at Ii
        have hd' : Kp (∀ p, p < i + 1 → isW T (ws.getD p 0) = true) := ⟨fun p hp => by
          by_cases e : p = i
          · subst e; exact hq
          · exact hd.out p (by omega)⟩
        clear hq hd x1
        generalize ws.getD i 0 = u at *
        go_wp2_with fail
        refine Fi.out.mono ?_
        rintro e w1 ⟨rfl, hb1⟩
        have hB1 := bel_trans hB hb1
        go_wp2_with fail
        refine (Ii.out _ hB1).mono ?_
        rintro e w2 ⟨rfl, rfl⟩
        go_wp2_with fail
        exact ⟨⟨i + 1, by omega, by go_num, hd', hB1⟩, by simp [intOf]; omega⟩
      | false =>
        rw [hq] at Ii
        have hf : Kp ((ws.all fun v => isW T v) = false) := ⟨by
          rw [Bool.eq_false_iff]
          intro t
          rw [all.out.1 t i hlt] at hq
          cases hq⟩
        clear hq hd x1
        generalize ws.getD i 0 = u at *
        go_wp2_with fail
        refine Fi.out.mono ?_
        rintro e w1 ⟨rfl, hb1⟩
        have hB1 := bel_trans hB hb1
        go_wp2_with fail
        refine (Ii.out _ hB1).mono ?_
        rintro e w2 ⟨rfl, rfl⟩
        go_wp2_with fail
        go_ret
        exact ⟨ret_bool (by rw [hf.out]), bel_trans BB hB1⟩
    · have hlt' : ¬ (i : Int) < (ws.length : Int) := by omega
      obtain rfl : i = ws.length := by omega
      have ht : Kp ((ws.all fun v => isW T v) = true) := ⟨all.out.2 hd.out⟩
      go_wp2_with fail
      go_ret
      exact ⟨ret_bool (by rw [ht.out]), bel_trans BB hB⟩
end
section
open Go.ChangeShapes Go.WideShapes Go.ChangeAt Go.RowKit

set_option linter.unusedVariables false

set_option linter.unusedSimpArgs false

def mLo (T : Int) : Int := T % 18446744073709551616

theorem wrapU_bd (n : Int) : 0 ≤ IntKind.u64.wrap n ∧ IntKind.u64.wrap n ≤ 18446744073709551615 := by rw [IntKind.wrap_u64]; omega

theorem and_32 (z : Int) (h0 : 0 ≤ z) (h1 : z ≤ 18446744073709551615) : bits .and .u64 z 4294967295 = z % 4294967296 := and_low32 z h0 (by omega)

set_option maxHeartbeats 1000000 in
theorem mul64_any (a c : Int) (w : World) (a0 : 0 ≤ a) (c0 : 0 ≤ c) (a1 : a ≤ 18446744073709551615) (c1 : c ≤ 18446744073709551615) :
    Calls Tryz.prog 281 #[.int .u64 a, .int .u64 c] w fun e w' => e = .returned (.tuple #[.int .u64 (a * c / 18446744073709551616), .int .u64 (mLo (a * c))]) ∧ w' = w := by
  have H := mul64_arith a c a0 (by omega) c0 (by omega)
  have H' : Hid _ := H
  clear H
  go_enter Tryz.func281, Tryz.ntmps281
  go_wp2_with fail
  go_ret2
  refine ⟨?_, rfl⟩
  have A1 := and_32 a a0 a1
  have C1 := and_32 c c0 c1
  simp only [A1, C1]
  rw [and_32 _ (wrapU_bd _).1 (wrapU_bd _).2]
  simp only [IntKind.wrap_u64]
  rw [H'.out]
  rfl

theorem mul_any (a c : Int) (w : World) (a0 : 0 ≤ a) (c0 : 0 ≤ c) (a1 : a ≤ 18446744073709551615) (c1 : c ≤ 18446744073709551615) :
    Calls Tryz.prog 279 #[.int .u64 a, .int .u64 c] w fun e w' => e = .returned (.tuple #[.int .u64 (a * c / 18446744073709551616), .int .u64 (mLo (a * c))]) ∧ w' = w := by
  have M := Kp.mk (mul64_any a c w a0 c0 a1 c1)
  generalize a * c / 18446744073709551616 = H at *
  generalize mLo (a * c) = L at *
  go_enter Tryz.func279, Tryz.ntmps279
  go_wp2_with fail
  refine M.out.mono ?_
  rintro e w1 ⟨rfl, rfl⟩
  go_wp2_with fail
  go_ret2
  exact ⟨rfl, rfl⟩
end
section
open Go.ChangeShapes Go.WideShapes Go.ChangeAt Go.RowKit

set_option linter.unusedVariables false

set_option linter.unusedSimpArgs false

theorem splice_rep {cur : List Value} {V : Value} {k m : Nat} (hk : k + m ≤ cur.length) (h : ∀ j, j < k → cur[j]? = some V) : ∀ j, j < k + m → (splice cur k (List.replicate m V))[j]? = some V := fun j hj => by
  unfold splice
  rw [List.getElem?_append]
  have hl : (cur.take k).length = k := by rw [List.length_take]; omega
  rw [hl]
  split
  · rename_i q
    rw [List.getElem?_take_of_lt q]
    exact h j q
  · rename_i q
    rw [List.getElem?_append_left (by rw [List.length_replicate]; omega), List.getElem?_replicate, if_pos (by omega)]

set_option maxRecDepth 100000 in
set_option maxHeartbeats 4000000 in
theorem repI (ty : Int) (bx n : Nat) (w : World) (hx : At w bx 0 (.int .i64 ty)) (h1 : 1 ≤ n) (h2 : n ≤ 1048576) :
    Calls Tryz.prog 278 #[.slice (some ⟨bx, 0, none⟩) 1 1, .int .i64 n] w fun e w' => ∃ v, e = .returned v ∧ Ints 0 .i64 w' v (List.replicate n ty) ∧ Below w.heap.size w w' := by
  have g1 : (n : Int) ≤ 1048576 := by omega
  have g0 : ¬ (n : Int) < 0 := by omega
  have hw : IntKind.u64.wrap (n : Int) = n := by rw [IntKind.wrap_u64]; omega
  have hw2 : IntKind.i64.wrap (n : Int) = n := by rw [IntKind.wrap_i64]; omega
  have MU : Kp (∀ w, Calls Tryz.prog 279 #[.int .u64 1, .int .u64 n] w fun e w' => e = .returned (.tuple #[.int .u64 0, .int .u64 n]) ∧ w' = w) := ⟨fun w => by
    have q := mul_any 1 n w (by decide) (by omega) (by decide) (by omega)
    rwa [show (1 : Int) * (n : Int) / 18446744073709551616 = 0 by omega, show mLo (1 * (n : Int)) = n by unfold mLo; omega] at q⟩
  obtain ⟨O, hmk, hrw⟩ := mk_row 66 2 (.int .i64 0) 1 8 Tryz.underlying66 (by kernel_rfl) n (by omega) (by omega)
  have HR := Kp.mk (hrw w)
  have hx1 := at_keep hx (bel_alloc w O)
  have hB0 := bel_alloc w O
  clear hrw
  obtain ⟨W0, hW0⟩ : ∃ W0, W0 = w.alloc O := ⟨_, rfl⟩
  rw [← hW0] at HR hx1 hB0
  obtain ⟨t, f, cur, hg, hsz, -⟩ := HR.out.ex
  rw [Nat.mul_one] at hsz
  have hg' : W0.heap[w.heap.size]? = some (Go.Obj.cells cur.toList.toArray t (0, 0)) := by simpa using hg
  have hl : cur.toList.length = n := by simpa using hsz
  generalize cur.toList = L at *
  clear hg hsz HR
  replace hW0 := Kp.mk hW0
  go_enter Tryz.func278, Tryz.ntmps278
  go_wp2_with fail
  refine (MU.out _).mono ?_
  rintro e w1 ⟨rfl, rfl⟩
  go_upto_region 7 with fail
  rw [← hW0.out]
  clear hW0
  obtain ⟨W4, hcp, hg4, hb4⟩ : ∃ W4 : World, (Builtin.copy_ #[66, 66] 3 #[.slice (some ⟨w1.heap.size, 0, none⟩) n n, .slice (some ⟨bx, 0, none⟩) 1 1]).run Tryz.prog W0 = .ok (goInt 1) W4 ∧ W4.heap[w1.heap.size]? = some (Go.Obj.cells (splice L 0 [.int .i64 ty]).toArray t (0, 0)) ∧ Below w1.heap.size w1 W4 := by
    have q := run_copy_row (P := Tryz.prog) W0 66 66 3 2 w1.heap.size 0 n n ⟨bx, 0, none⟩ 1 1 L.toArray t [.int .i64 ty] Tryz.underlying66 (by kernel_rfl) hg' (Nat.min_eq_left h1).symm (fun j v hj => by
      have : j = 0 := by
        have := (List.getElem?_eq_some_iff.1 hj).1
        simpa using this
      subst this
      simp at hj
      subst hj
      rw [Go.WideShapes.add_plain]
      exact hx1) (by simp; omega) (fun u hu => by simp at hu; subst hu; rfl)
    refine ⟨_, q, ?_, below_setRow hB0 (Nat.le_refl _) _⟩
    rw [setRow_heap W0 w1.heap.size _ _ t _ hg']
    simp [splice]
  have hd : ∀ j, j < 1 → (splice L 0 [Value.int .i64 ty])[j]? = some (.int .i64 ty) := by
    have := splice_rep (cur := L) (V := .int .i64 ty) (k := 0) (m := 1) (by omega) (fun j hj => absurd hj (by omega))
    simpa using this
  have hl4 : (splice L 0 [Value.int .i64 ty]).length = n := by rw [length_splice _ _ _ (by simp; omega)]; exact hl
  replace hg4 := Kp.mk hg4
  replace hd := Kp.mk hd
  generalize splice L 0 [Value.int .i64 ty] = L4 at *
  clear hg' hx1 hl hmk hB0
  go_wp2_with fail
  go_loopw [8] (fun s wr => ∃ k : Nat, 1 ≤ k ∧ k ≤ n ∧ s = .int .i64 k ∧ Below w1.heap.size w1 wr ∧ ∃ M : List Value, M.length = n ∧ Kp (wr.heap[w1.heap.size]? = some (Go.Obj.cells M.toArray t (0, 0))) ∧ Kp (∀ j, j < k → M[j]? = some (.int .i64 ty))) (fun s _ => n - (intOf s).toNat)
  case atStart => exact ⟨1, Nat.le_refl _, h1, rfl, hb4, L4, hl4, hg4, hd⟩
  case round =>
    clear hl4 hg4 hd hb4
    obtain ⟨k, hk1, hk2, rfl, hB, M, hM, hg, hd⟩ := hrel
    by_cases hlt : k < n
    · have hlt' : (k : Int) < (n : Int) := by omega
      have hk3 : (k : Int) ≤ n := by omega
      have hk0 : (0 : Int) ≤ k := by omega
      obtain ⟨m, hm⟩ : ∃ m, m = Nat.min k (n - k) := ⟨_, rfl⟩
      have hm1 : 1 ≤ m := by rw [hm]; exact Nat.le_min.2 ⟨hk1, by omega⟩
      have hm2 : m ≤ k ∧ m ≤ n - k := ⟨by rw [hm]; exact Nat.min_le_left _ _, by rw [hm]; exact Nat.min_le_right _ _⟩
      obtain ⟨W5, hcp, hg5, hb5⟩ : ∃ W5 : World, (Builtin.copy_ #[66, 66] 3 #[.slice (some ⟨w1.heap.size, k, none⟩) (n - k) (n - k), .slice (some ⟨w1.heap.size, 0, none⟩) k n]).run Tryz.prog wr.drew = .ok (goInt m) W5 ∧ W5.heap[w1.heap.size]? = some (Go.Obj.cells (splice M k (List.replicate m (.int .i64 ty))).toArray t (0, 0)) ∧ Below w1.heap.size w1 W5 := by
        have hgd : wr.drew.heap[w1.heap.size]? = some (Go.Obj.cells M.toArray t (0, 0)) := hg.out
        have q := run_copy_row (P := Tryz.prog) wr.drew 66 66 3 2 w1.heap.size k (n - k) (n - k) ⟨w1.heap.size, 0, none⟩ k n M.toArray t (List.replicate m (.int .i64 ty)) Tryz.underlying66 (by kernel_rfl) hgd (by simp [hm]) (fun j v hj => by
          have hjm : j < m := by
            have := (List.getElem?_eq_some_iff.1 hj).1
            simpa using this
          rw [List.getElem?_replicate, if_pos hjm] at hj
          cases hj
          have := hd.out j (by omega)
          have hc : At wr.drew w1.heap.size j (.int .i64 ty) := cells_at hgd (by simpa using this)
          unfold Addr.add
          split
          · rename_i q0; rw [q0] at hc; exact hc
          · rw [Nat.zero_add]; exact hc) (by simp; omega) (fun u hu => by rw [(List.mem_replicate.1 hu).2]; rfl)
        rw [List.length_replicate] at q
        refine ⟨_, q, ?_, below_setRow hB.drew (Nat.le_refl _) _⟩
        rw [setRow_heap wr.drew w1.heap.size _ _ t _ hgd]
        simp [splice]
      have hd5 : ∀ j, j < k + m → (splice M k (List.replicate m (Value.int .i64 ty)))[j]? = some (.int .i64 ty) := splice_rep (by omega) hd.out
      have hl5 : (splice M k (List.replicate m (Value.int .i64 ty))).length = n := by rw [length_splice _ _ _ (by simp; omega)]; exact hM
      replace hg5 := Kp.mk hg5
      replace hd5 := Kp.mk hd5
      generalize splice M k (List.replicate m (Value.int .i64 ty)) = M5 at *
      have hm3 : (k : Int) + (m : Int) ≤ n := by omega
      clear hg hd hM hB hm
      go_wp2_with fail
      go_region
      go_wp2_with fail
      exact ⟨⟨k + m, by omega, by omega, by go_num, hb5, M5, hl5, hg5, hd5⟩, by simp [intOf]; omega⟩
    · have hlt' : ¬ (k : Int) < (n : Int) := by omega
      obtain rfl : k = n := by omega
      go_wp2_with fail
      go_ret
      refine ⟨_, rfl, ⟨w1.heap.size, 0, by rw [List.length_replicate]; exact ⟨⟨_, _, rfl, Nat.le_refl _, fun _ => rfl⟩, by omega⟩, Nat.zero_le _, fun j hj => ?_⟩, hB⟩
      rw [List.length_replicate] at hj
      rw [List.getElem_replicate, Nat.zero_add]
      exact cells_at hg.out (by simpa using hd.out j hj)

def wanJ (op ty : Int) (n : Nat) : List Int := if op = 20 then List.replicate n ty else if op = 28 then [1] else []

set_option maxRecDepth 100000 in
set_option maxHeartbeats 4000000 in
theorem jnWan (op ty : Int) (a b : Option Addr) (n c m d : Nat) (a1 a2 a3 a4 a5 : Option Addr) (n1 n2 n3 n4 n5 c1 c2 c3 c4 c5 : Nat) (name : ByteArray) (link res bk : Int) (w : World) (hn1 : op = 20 → 1 ≤ n) (hn : n ≤ 1048576) :
    Calls Tryz.prog 277 #[.agg #[.int .i64 op, .int .i64 ty, .slice a n c, .slice b m d], scV (.slice a1 n1 c1) (.slice a2 n2 c2) name link (.slice a3 n3 c3) res (.slice a4 n4 c4) (.slice a5 n5 c5) bk] w fun e w' => ∃ v, e = .returned v ∧ Ints 0 .i64 w' v (wanJ op ty n) ∧ Below w.heap.size w w' := by
  have g1 : (n : Int) ≤ 1048576 := by omega
  by_cases e20 : op = 20
  · subst e20
    have h1 := hn1 rfl
    rw [show wanJ 20 ty n = List.replicate n ty by simp [wanJ]]
    obtain ⟨-, B3, -, -, x3⟩ := boxes3 (w := w) (o1 := Go.Obj.cells #[.int .i64 20, .int .i64 ty, .slice a n c, .slice b m d] 236) (o2 := scC (.slice a1 n1 c1) (.slice a2 n2 c2) name link (.slice a3 n3 c3) res (.slice a4 n4 c4) (.slice a5 n5 c5) bk) (o3 := Go.Obj.cells #[.int .i64 ty] 2) rfl
    have RE := Kp.mk (repI ty (w.heap.size + 1 + 1) n _ (cells_at x3 rfl) h1 hn)
    clear hn1
    replace B3 := Kp.mk B3
    clear x3
    go_enter Tryz.func277, Tryz.ntmps277
    go_wp2_with fail
    refine RE.out.mono ?_
    rintro e w1 ⟨v, rfl, hi, hb1⟩
    go_wp2_with fail
    go_ret
    exact ⟨_, rfl, hi, bel_trans B3.out hb1⟩
  by_cases e28 : op = 28
  · subst e28
    rw [show wanJ 28 ty n = [1] by simp [wanJ]]
    clear hn1
    go_enter Tryz.func277, Tryz.ntmps277
    go_wp2_with fail
    go_ret
    obtain ⟨-, B3, -, -, x3⟩ := boxes3 (w := w) (o1 := Go.Obj.cells #[.int .i64 28, .int .i64 ty, .slice a n c, .slice b m d] 236) (o2 := scC (.slice a1 n1 c1) (.slice a2 n2 c2) name link (.slice a3 n3 c3) res (.slice a4 n4 c4) (.slice a5 n5 c5) bk) (o3 := Go.Obj.cells #[.int .i64 1] 2) rfl
    exact ⟨_, rfl, ints1 x3, B3⟩
  rw [show wanJ op ty n = [] by simp [wanJ, e20, e28]]
  have n20 := nb e20
  have n28 := nb e28
  clear e20 e28 hn1
  go_enter Tryz.func277, Tryz.ntmps277
  go_wp2_with fail
  go_ret
  exact ⟨_, rfl, ints0 _, bel_trans (bel_alloc _ _) (bel_alloc _ _)⟩
end
end Go.Proofs.YtbnkbbcncloedaaGreatDoor
