/- The packed texts Sf2, Mv. -/
import Derived.Test.YtbnkbbcncloedaaGreatDoorRows
import Derived.WalkKit
import Derived.ProofKit
import Derived.OpenShut
import Derived.WalkLawsBesides
import Derived.Below
import Derived.BigQuiet
import Derived.Lib.QuietBelow
import Derived.Lib.AtoiErrMem
import Derived.Deep.OwnRows
import Derived.Deep.DeepCutAuto
import Derived.RangeFuncNested
import Derived.RangeFuncBound
import Derived.RangeFuncCalls
import Derived.RangeFuncLeaves
import Derived.OwnWalkIn
import Derived.TacticsInMore
import Derived.LoopNIn
import Derived.LoopIn
import Derived.Shelf.Abstract
import Derived.Maps.AppendAt
import Derived.OwnWalk
import Derived.Lib.LaidTab
import Derived.Laws.BitsAllLaws
import Derived.Laws.Closers25b
import Derived.Test.YtbnkbbcncloedaaGreatDoorPk1
import Derived.Test.YtbnkbbcncloedaaGreatDoorPk3
import Derived.Test.YtbnkbbcncloedaaGreatDoorPk4
import Derived.Test.YtbnkbbcncloedaaGreatDoorPk5
import Derived.Test.YtbnkbbcncloedaaGreatDoorPk6
import Derived.Test.YtbnkbbcncloedaaGreatDoorPk7
import Derived.Test.YtbnkbbcncloedaaGreatDoorPk9
namespace Go.Proofs.YtbnkbbcncloedaaGreatDoor
section
open Go.ChangeShapes Go.WideShapes Go.ChangeAt Go.RowKit

set_option linter.unusedVariables false

set_option linter.unusedSimpArgs false

abbrev opV4 (q : OpD) : Value := .agg #[.int .i64 q.k, .int .i64 q.t, .int .i64 q.i, .int .u64 q.w]

theorem cells_at {w : World} {b : Nat} {arr : Array Value} {t : TypeId} (h : w.heap[b]? = some (Go.Obj.cells arr t (0, 0))) {j : Nat} {v : Value} (hj : arr[j]? = some v) : At w b j v := by
  show World.cell? _ _ = _
  simp [World.cell?, h, hj]

theorem new_at (w : World) (o : Obj) : (w.alloc o).heap[w.heap.size]? = some o := (MapKept.heap_alloc w o).1

theorem kept_at {w w' : World} {b : Nat} {o : Obj} (h : w.heap[b]? = some o) (hb : Below w.heap.size w w') : w'.heap[b]? = some o := (hb.block b (Array.getElem?_eq_some_iff.1 h).1).trans h

set_option maxRecDepth 100000 in
set_option maxHeartbeats 2000000 in
theorem l2Op (a1 : Option Addr) (ng c1 : Nat) (vf vt : Value) (ts : List Int) (o : OpD) (w : World) {lo : Nat} (ht : Ints lo .i64 w vt ts) (hn : ng ≤ 140737488355328) (hf : ∃ a n c, vf = .slice a n c) (h0 : 0 ≤ o.w) (h1 : o.w ≤ 18446744073709551615) :
    Calls Tryz.prog 132 #[.agg #[.slice a1 ng c1, vf], vt, opV4 o] w fun e w' => e = .returned (.bool (opB ng ts o)) ∧ Below w.heap.size w w' := by
  obtain ⟨k, t, i, x⟩ := o
  obtain ⟨a2, n2, c2, rfl⟩ := hf
  obtain ⟨bt, ot, ⟨⟨at', ct, rfl, s1, s2⟩, s3⟩, -, hc⟩ := ht.ex
  dsimp only [opV4] at *
  have g1 : (ng : Int) ≤ 140737488355328 := by omega
  have g2 : (ts.length : Int) ≤ 140737488355328 := by omega
  have IS : Kp (∀ w, Calls Tryz.prog 134 #[.int .i64 t, .int .u64 x] w fun e w' => e = .returned (.bool (isW t x)) ∧ w' = w) := ⟨fun w => isS_any t x w h0 h1⟩
  have VT : Kp (∀ w, Calls Tryz.prog 70 #[.int .i64 t] w fun e w' => e = .returned (.bool (vtB t)) ∧ w' = w) := ⟨fun w => vtS t w⟩
  replace hc := Kp.mk hc
  replace s2 := Kp.mk s2
  clear ht
  by_cases e1 : k = 1
  · subst e1
    by_cases ei : i = 0
    · subst ei
      have G : Kp (opB ng ts ⟨1, t, 0, x⟩ = isW t x) := ⟨by simp [opB]⟩
      rw [G.out]
      generalize isW t x = R at *
      go_enter Tryz.func132, Tryz.ntmps132
      go_wp2_with (first | (go_at_call 134; refine (IS.out _).mono ?_; rintro e w' ⟨rfl, rfl⟩))
      go_ret
      exact ⟨by cases R <;> rfl, bel_trans (bel_alloc _ _) (bel_alloc _ _)⟩
    · have G : Kp (opB ng ts ⟨1, t, i, x⟩ = false) := ⟨by simp [opB, ei]⟩
      rw [G.out]
      have ei' := nb ei
      clear ei
      go_enter Tryz.func132, Tryz.ntmps132
      go_wp2_with fail
      go_ret
      exact ⟨rfl, bel_trans (bel_alloc _ _) (bel_alloc _ _)⟩
  by_cases e2 : k = 2
  · subst e2
    by_cases ee : t = 65 ∧ i = 0 ∧ x = 0
    · obtain ⟨rfl, rfl, rfl⟩ := ee
      have G : Kp (opB ng ts ⟨2, 65, 0, 0⟩ = true) := ⟨by simp [opB]⟩
      rw [G.out]
      go_enter Tryz.func132, Tryz.ntmps132
      go_wp2_with fail
      go_ret
      exact ⟨rfl, bel_trans (bel_alloc _ _) (bel_alloc _ _)⟩
    · have G : Kp (opB ng ts ⟨2, t, i, x⟩ = false) := ⟨by
        rw [Bool.eq_false_iff]
        intro q
        simp [opB] at q
        exact ee ⟨q.1.1, q.1.2, q.2⟩⟩
      rw [G.out]
      go_enter Tryz.func132, Tryz.ntmps132
      go_wp2_with fail
      all_goals
        go_ret
        exact ⟨ret_bool (by first | rfl | (simp; omega) | omega), bel_trans (bel_alloc _ _) (bel_alloc _ _)⟩
  by_cases e3 : k = 3
  · subst e3
    by_cases ei : i = 0
    · by_cases ex : x = 0
      · subst ei ex
        have G : Kp (opB ng ts ⟨3, t, 0, 0⟩ = vtB t) := ⟨by simp [opB]⟩
        rw [G.out]
        generalize vtB t = R at *
        go_enter Tryz.func132, Tryz.ntmps132
        go_wp2_with (first | (go_at_call 70; refine (VT.out _).mono ?_; rintro e w' ⟨rfl, rfl⟩))
        go_ret
        exact ⟨by cases R <;> rfl, bel_trans (bel_alloc _ _) (bel_alloc _ _)⟩
      · have G : Kp (opB ng ts ⟨3, t, i, x⟩ = false) := ⟨by simp [opB, ex]⟩
        rw [G.out]
        subst ei
        have ex' := nb ex
        clear ex
        go_enter Tryz.func132, Tryz.ntmps132
        go_wp2_with fail
        go_ret
        exact ⟨rfl, bel_trans (bel_alloc _ _) (bel_alloc _ _)⟩
    · have G : Kp (opB ng ts ⟨3, t, i, x⟩ = false) := ⟨by simp [opB, ei]⟩
      rw [G.out]
      have ei' := nb ei
      clear ei
      go_enter Tryz.func132, Tryz.ntmps132
      go_wp2_with fail
      go_ret
      exact ⟨rfl, bel_trans (bel_alloc _ _) (bel_alloc _ _)⟩
  by_cases e5 : k = 5
  · subst e5
    by_cases ee : x = 0 ∧ t = 65 ∧ 0 ≤ i
    · obtain ⟨rfl, rfl, h2⟩ := ee
      by_cases hi : i < ng
      · have G : Kp (opB ng ts ⟨5, 65, i, 0⟩ = true) := ⟨by simp [opB]; omega⟩
        rw [G.out]
        go_enter Tryz.func132, Tryz.ntmps132
        go_wp2_with fail
        go_ret
        exact ⟨rfl, bel_trans (bel_alloc _ _) (bel_alloc _ _)⟩
      · have G : Kp (opB ng ts ⟨5, 65, i, 0⟩ = false) := ⟨by rw [Bool.eq_false_iff]; simp [opB]; omega⟩
        rw [G.out]
        go_enter Tryz.func132, Tryz.ntmps132
        go_wp2_with fail
        go_ret
        exact ⟨rfl, bel_trans (bel_alloc _ _) (bel_alloc _ _)⟩
    · have G : Kp (opB ng ts ⟨5, t, i, x⟩ = false) := ⟨by rw [Bool.eq_false_iff]; simp [opB]; omega⟩
      rw [G.out]
      by_cases ex : x = 0
      · subst ex
        by_cases et : t = 65
        · subst et
          have h2 : ¬ 0 ≤ i := by omega
          clear ee
          go_enter Tryz.func132, Tryz.ntmps132
          go_wp2_with fail
          go_ret
          exact ⟨rfl, bel_trans (bel_alloc _ _) (bel_alloc _ _)⟩
        · have et' := nb et
          clear et ee
          go_enter Tryz.func132, Tryz.ntmps132
          go_wp2_with fail
          go_ret
          exact ⟨rfl, bel_trans (bel_alloc _ _) (bel_alloc _ _)⟩
      · have ex' := nb ex
        clear ex ee
        go_enter Tryz.func132, Tryz.ntmps132
        go_wp2_with fail
        go_ret
        exact ⟨rfl, bel_trans (bel_alloc _ _) (bel_alloc _ _)⟩
  by_cases e4 : k = 4
  · subst e4
    obtain ⟨W0, hW⟩ : ∃ W0, W0 = (w.alloc (Go.Obj.cells #[.slice a1 ng c1, .slice a2 n2 c2] 33)).alloc (Go.Obj.cells #[.int .i64 4, .int .i64 t, .int .i64 i, .int .u64 x] 85) := ⟨_, rfl⟩
    have B0 : Below w.heap.size w W0 := by rw [hW]; exact bel_trans (bel_alloc _ _) (bel_alloc _ _)
    have h2 : W0.heap[w.heap.size + 1]? = some (Go.Obj.cells #[.int .i64 4, .int .i64 t, .int .i64 i, .int .u64 x] 85) := by
      rw [hW]
      have := new_at (w.alloc (Go.Obj.cells #[.slice a1 ng c1, .slice a2 n2 c2] 33)) (Go.Obj.cells #[.int .i64 4, .int .i64 t, .int .i64 i, .int .u64 x] 85)
      rwa [World.size_alloc] at this
    have p0 : At W0 (w.heap.size + 1) 0 _ := cells_at h2 rfl
    have p1 : At W0 (w.heap.size + 1) 1 _ := cells_at h2 rfl
    have p2 : At W0 (w.heap.size + 1) 2 _ := cells_at h2 rfl
    have p3 : At W0 (w.heap.size + 1) 3 _ := cells_at h2 rfl
    clear h2
    replace hW := Kp.mk hW
    by_cases ex : x = 0
    · subst ex
      by_cases ei : 0 ≤ i ∧ i < ts.length
      · obtain ⟨i0, i1⟩ := ei
        obtain ⟨n, rfl⟩ := Int.eq_ofNat_of_zero_le i0
        have hlt : n < ts.length := by omega
        obtain rfl := s2.out (by omega)
        have hcn := at_keep (hc.out n hlt) B0
        have G : Kp (opB ng ts ⟨4, t, n, 0⟩ = decide (ts[n] = t)) := ⟨by simp [opB, hlt, List.getD_eq_getElem?_getD]⟩
        rw [G.out]
        by_cases q : ts[n] = t
        · rw [q] at hcn
          have Q : Kp (decide (ts[n] = t) = true) := ⟨by simp [q]⟩
          rw [Q.out]
          clear q
          go_enter Tryz.func132, Tryz.ntmps132
          go_wp2_with fail
          rw [← hW.out]
          go_wp2_with fail
          go_quiet (fail)
          go_wp2_with fail
          go_ret
          exact ⟨rfl, below_drewN B0 _⟩
        · have q' := nb q
          have Q : Kp (decide (ts[n] = t) = false) := ⟨by simp [q]⟩
          rw [Q.out]
          clear q
          generalize ts[n] = u at *
          go_enter Tryz.func132, Tryz.ntmps132
          go_wp2_with fail
          rw [← hW.out]
          go_wp2_with fail
          go_quiet (fail)
          go_wp2_with fail
          go_ret
          exact ⟨rfl, below_drewN B0 _⟩
      · have G : Kp (opB ng ts ⟨4, t, i, 0⟩ = false) := ⟨by rw [Bool.eq_false_iff]; simp [opB]; omega⟩
        rw [G.out]
        by_cases i0 : 0 ≤ i
        · have i1 : decide (i < (ts.length : Int)) = false := decide_eq_false (by omega)
          have i2 : decide (0 ≤ i) = true := decide_eq_true i0
          clear ei i0
          go_enter Tryz.func132, Tryz.ntmps132
          go_wp2_with fail
          rw [← hW.out]
          go_wp2_with fail
          go_quiet (fail)
          go_wp2_with fail
          go_ret
          exact ⟨rfl, below_drewN B0 _⟩
        · have i2 : decide (0 ≤ i) = false := decide_eq_false i0
          clear ei i0
          go_enter Tryz.func132, Tryz.ntmps132
          go_wp2_with fail
          rw [← hW.out]
          go_wp2_with fail
          go_quiet (fail)
          go_wp2_with fail
          go_ret
          exact ⟨rfl, below_drewN B0 _⟩
    · have G : Kp (opB ng ts ⟨4, t, i, x⟩ = false) := ⟨by simp [opB, ex]⟩
      rw [G.out]
      have ex' := nb ex
      clear ex
      go_enter Tryz.func132, Tryz.ntmps132
      go_wp2_with fail
      rw [← hW.out]
      go_wp2_with fail
      go_quiet (fail)
      go_wp2_with fail
      go_ret
      exact ⟨rfl, below_drewN B0 _⟩
  · have G : Kp (opB ng ts ⟨k, t, i, x⟩ = false) := ⟨by simp [opB, e1, e2, e3, e4, e5]⟩
    rw [G.out]
    have f1 := nb e1
    have f2 := nb e2
    have f3 := nb e3
    have f4 := nb e4
    have f5 := nb e5
    clear e1 e2 e3 e4 e5
    go_enter Tryz.func132, Tryz.ntmps132
    go_wp2_with fail
    go_ret
    exact ⟨rfl, bel_trans (bel_alloc _ _) (bel_alloc _ _)⟩
end
section
open Go.ChangeShapes Go.WideShapes Go.ChangeAt Go.RowKit

set_option linter.unusedVariables false

set_option linter.unusedSimpArgs false

theorem boxes3 {w W : World} {o1 o2 o3 : Obj} (h : W = ((w.alloc o1).alloc o2).alloc o3) :
    W.heap.size = w.heap.size + 3 ∧ Below w.heap.size w W ∧ W.heap[w.heap.size]? = some o1 ∧ W.heap[w.heap.size + 1]? = some o2 ∧ W.heap[w.heap.size + 1 + 1]? = some o3 := by
  subst h
  have a2 := new_at (w.alloc o1) o2
  have a3 := new_at ((w.alloc o1).alloc o2) o3
  rw [World.size_alloc] at a2
  rw [World.size_alloc, World.size_alloc] at a3
  exact ⟨by simp, bel_trans (bel_alloc _ _) (bel_trans (bel_alloc _ _) (bel_alloc _ _)), kept_at (kept_at (new_at w o1) (bel_alloc _ _)) (bel_alloc _ _), kept_at a2 (bel_alloc _ _), a3⟩

theorem calD_get {fs : List FnD} {n : Nat} (h : n < fs.length) : calD fs (n : Int) = fs[n] := by
  simp [calD, List.getD_eq_getElem?_getD, h]

theorem all_iff_getD {α : Type} (xs : List α) (d : α) (p : α → Bool) : xs.all p = true ↔ ∀ i, i < xs.length → p (xs.getD i d) = true := by
  rw [List.all_eq_true]
  constructor
  · intro h i hi
    rw [show xs.getD i d = xs[i] by simp [List.getD_eq_getElem?_getD, hi]]
    exact h _ (List.getElem_mem _)
  · intro h x hx
    obtain ⟨i, hi, rfl⟩ := List.getElem_of_mem hx
    have := h i hi
    rwa [show xs.getD i d = xs[i] by simp [List.getD_eq_getElem?_getD, hi]] at this

theorem all_take_iff_getD {α : Type} (xs : List α) (d : α) (p : α → Bool) (k : Nat) (hk : k ≤ xs.length) : (xs.take k).all p = true ↔ ∀ i, i < k → p (xs.getD i d) = true := by
  rw [all_iff_getD _ d, List.length_take, Nat.min_eq_left hk]
  constructor
  · intro h i hi
    have := h i hi
    rwa [show (xs.take k).getD i d = xs.getD i d by simp [List.getD_eq_getElem?_getD, List.getElem?_take, hi]] at this
  · intro h i hi
    rw [show (xs.take k).getD i d = xs.getD i d by simp [List.getD_eq_getElem?_getD, List.getElem?_take, hi]]
    exact h i hi

theorem nbT {x k : Int} (h : ¬ x = k) : (x != k) = true := by simp [bne, nb h]

theorem difB_iff (xs : List Int) : difB xs = true ↔ ∀ i j (hi : i < xs.length) (hj : j < i), xs[i] ≠ xs[j]'(by omega) := by
  induction xs with
  | nil => simp [difB]
  | cons x r ih =>
    simp only [difB, Bool.and_eq_true, Bool.not_eq_true', List.contains_eq_mem, decide_eq_false_iff_not, ih]
    constructor
    · rintro ⟨h1, h2⟩ i j hi hj
      cases i with
      | zero => omega
      | succ i =>
        cases j with
        | zero =>
          intro e
          apply h1
          rw [List.getElem_cons_succ, List.getElem_cons_zero] at e
          rw [← e]
          exact List.getElem_mem _
        | succ j =>
          rw [List.getElem_cons_succ, List.getElem_cons_succ]
          exact h2 i j (by simpa using hi) (by omega)
    · intro h
      refine ⟨fun hm => ?_, fun i j hi hj => ?_⟩
      · obtain ⟨i, hi, e⟩ := List.getElem_of_mem hm
        have q := h (i + 1) 0 (by simpa using hi) (by omega)
        rw [List.getElem_cons_succ, List.getElem_cons_zero] at q
        exact q e
      · have q := h (i + 1) (j + 1) (by simpa using hi) (by omega)
        rwa [List.getElem_cons_succ, List.getElem_cons_succ] at q

theorem difB_getD (xs : List Int) : difB xs = true ↔ ∀ i j, i < xs.length → j < i → xs.getD i 0 ≠ xs.getD j 0 := by
  rw [difB_iff]
  constructor
  · intro h i j hi hj
    have hj' : j < xs.length := by omega
    rw [show xs.getD i 0 = xs[i] by simp [List.getD_eq_getElem?_getD, hi], show xs.getD j 0 = xs[j] by simp [List.getD_eq_getElem?_getD, hj']]
    exact h i j hi hj
  · intro h i j hi hj
    have hj' : j < xs.length := by omega
    have q := h i j hi hj
    rwa [show xs.getD i 0 = xs[i] by simp [List.getD_eq_getElem?_getD, hi], show xs.getD j 0 = xs[j] by simp [List.getD_eq_getElem?_getD, hj']] at q

theorem inD_get {xs : List OpD} {k : Nat} (h : k < xs.length) : xs.getD k default = xs[k] := by simp [List.getD_eq_getElem?_getD, h]
end
end Go.Proofs.YtbnkbbcncloedaaGreatDoor
