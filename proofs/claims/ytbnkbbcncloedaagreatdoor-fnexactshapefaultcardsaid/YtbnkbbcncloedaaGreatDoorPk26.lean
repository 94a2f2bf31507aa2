/- The packed texts Im7, Im8. -/
import Derived.Test.YtbnkbbcncloedaaGreatDoorRows
import Derived.WalkKit
import Derived.ProofKit
import Derived.OpenShut
import Derived.WalkLawsBesides
import Derived.Below
import Derived.BigQuiet
import Derived.Lib.QuietBelow
import Derived.Lib.AtoiErrMem
import Derived.Deep.OwnRows
import Derived.Deep.DeepCutAuto
import Derived.RangeFuncNested
import Derived.RangeFuncBound
import Derived.RangeFuncCalls
import Derived.RangeFuncLeaves
import Derived.OwnWalkIn
import Derived.TacticsInMore
import Derived.LoopNIn
import Derived.LoopIn
import Derived.Shelf.Abstract
import Derived.Maps.AppendAt
import Derived.OwnWalk
import Derived.Lib.LaidTab
import Derived.Laws.BitsAllLaws
import Derived.Laws.Closers25b
import Derived.Deep.RegionWith
import Derived.Laws.MathBits
import Derived.Shelf.Spec.BitsCarry
import Derived.Laws.CopyOwn
import Derived.Deep.RegionLaw
import Derived.Lib.SliceRun
import Derived.Laws.Tables
import Derived.Test.YtbnkbbcncloedaaGreatDoorPk1
import Derived.Test.YtbnkbbcncloedaaGreatDoorPk2
import Derived.Test.YtbnkbbcncloedaaGreatDoorPk3
import Derived.Test.YtbnkbbcncloedaaGreatDoorPk4
import Derived.Test.YtbnkbbcncloedaaGreatDoorPk5
import Derived.Test.YtbnkbbcncloedaaGreatDoorPk6
import Derived.Test.YtbnkbbcncloedaaGreatDoorPk10
import Derived.Test.YtbnkbbcncloedaaGreatDoorPk23
import Derived.Test.YtbnkbbcncloedaaGreatDoorPk25
namespace Go.Proofs.YtbnkbbcncloedaaGreatDoor
section
open Go.ChangeShapes Go.WideShapes Go.ChangeAt Go.RowKit

set_option linter.unusedVariables false

set_option linter.unusedSimpArgs false

def opC (q : OpD) : List Value := [.int .i64 q.k, .int .i64 q.t, .int .i64 q.i, .int .u64 q.w]

theorem opC_len (xs : List OpD) : (xs.flatMap opC).length = xs.length * 4 := by
  induction xs with
  | nil => rfl
  | cons x r ih => rw [List.flatMap_cons, List.length_append, ih, List.length_cons, show (opC x).length = 4 from rfl]; omega

theorem opC_get (xs : List OpD) : ∀ i (h : i < xs.length) r, r < 4 → (xs.flatMap opC)[i * 4 + r]? = (opC xs[i])[r]? := by
  induction xs with
  | nil => intro i h; simp at h
  | cons x l ih =>
    intro i h r hr
    rw [List.flatMap_cons]
    cases i with
    | zero => rw [List.getElem?_append_left (by simp [opC]; omega)]; simp
    | succ i =>
      rw [List.getElem?_append_right (by simp [opC]; omega), show (i + 1) * 4 + r - (opC x).length = i * 4 + r by simp [opC]; omega, ih i (by simpa using h) r hr]
      simp

theorem infoOp : (Tryz.prog.info? 85).map (fun i => (i.zero, i.size, i.bytes)) = some (some (.agg #[.int .i64 0, .int .i64 0, .int .i64 0, .int .u64 0]), 4, 32) := by kernel_rfl

theorem infoW : (Tryz.prog.info? 83).map (fun i => (i.zero, i.size, i.bytes)) = some (some (.int .u64 0), 1, 8) := by kernel_rfl

theorem row_ops {w : World} {base : Nat} {v : Value} {xs : List OpD} (h : w.ownsRow base 85 4 v xs.length (xs.flatMap opC)) (hn : xs.length ≤ 1048576) : Ops base w v xs := by
  obtain ⟨hl, h0 | ⟨g, cap, cur, rfl, hb, hg, h1, h2, h3, h4⟩⟩ := h
  · obtain ⟨rfl, h0⟩ := h0
    obtain rfl : xs = [] := List.length_eq_zero_iff.1 h0
    exact ⟨base, 0, ⟨⟨none, 0, rfl, Nat.le_refl _, fun h => absurd h (by simp)⟩, by simp⟩, Nat.le_refl _, fun i hi => by simp at hi⟩
  · refine ⟨g, 0, ⟨⟨_, _, rfl, h1, fun _ => rfl⟩, by omega⟩, hb, fun i hi => ?_⟩
    have key : ∀ r, r < 4 → At w g (0 + i * 4 + r) ((opC xs[i]).getD r undef) := fun r hr => by
      refine at_cells hg ?_
      have e : (cur.toList.take (xs.length * 4))[i * 4 + r]? = (opC xs[i])[r]? := by rw [h4]; exact opC_get xs i hi r hr
      rw [List.getElem?_take] at e
      rw [if_pos (by omega)] at e
      rw [Nat.zero_add, ← Array.getElem?_toList, e]
      simp [List.getD_eq_getElem?_getD, show r < (opC xs[i]).length by simpa [opC] using hr]
    exact ⟨key 0 (by omega), key 1 (by omega), key 2 (by omega), key 3 (by omega)⟩

theorem row_words {w : World} {base : Nat} {v : Value} {xs : List Int} (h : w.ownsRow base 83 1 v xs.length (xs.map (Value.int .u64))) (hn : xs.length ≤ 1048576) : Ints base .u64 w v xs := by
  obtain ⟨hl, h0 | ⟨g, cap, cur, rfl, hb, hg, h1, h2, h3, h4⟩⟩ := h
  · obtain ⟨rfl, h0⟩ := h0
    obtain rfl : xs = [] := List.length_eq_zero_iff.1 h0
    exact ⟨base, 0, ⟨⟨none, 0, rfl, Nat.le_refl _, fun h => absurd h (by simp)⟩, by simp⟩, Nat.le_refl _, fun i hi => by simp at hi⟩
  · refine ⟨g, 0, ⟨⟨_, _, rfl, h1, fun _ => rfl⟩, by omega⟩, hb, fun i hi => ?_⟩
    refine at_cells hg ?_
    have : (cur.toList.take (xs.length * 1))[i]? = some (.int .u64 xs[i]) := by rw [h4]; simp [hi]
    rw [List.getElem?_take] at this
    split at this
    · simpa using this
    · cases this

set_option maxRecDepth 100000 in
set_option maxHeartbeats 2000000 in
theorem cloneW (v : Value) (xs : List Int) (w : World) {lo : Nat} (h : Ints lo .u64 w v xs) (hn : xs.length ≤ 1048576) :
    Calls Tryz.prog 205 #[v] w fun e w' => ∃ v', e = .returned v' ∧ Ints w.heap.size .u64 w' v' xs ∧ Below w.heap.size w w' := by
  obtain ⟨b, o, ⟨⟨a, cap, rfl, h1, h2⟩, h3⟩, -, hc⟩ := h.ex
  obtain ⟨i0, hi0, hz0, hz1, hz2⟩ := info_parts infoW
  have q22 : ∀ (w : World) (a : Option Addr) (n c n' c' : Nat), (binOp .eql 80 (.slice a n c) (.slice none n' c')).run Tryz.prog w = .ok (.bool a.isNone) w := fun w a n c n' c' => Lib.run_eql_slice_nil w _ _ a n c n' c' Tryz.underlying80
  cases a with
  | none =>
    obtain rfl : xs = [] := by
      cases xs with
      | nil => rfl
      | cons x r => cases h2 (by simp)
    clear hc h2
    go_enter Tryz.func205, Tryz.ntmps205
    go_wp2
    go_ret
    exact ⟨_, rfl, row_words ⟨rfl, .inl ⟨rfl, rfl⟩⟩ (by simp), Below.refl _ _⟩
  | some ad =>
    have hr := World.ownsRow_made (base := w.heap.size) (e := 83) (size := 1) w #[] 0 (Nat.le_refl _) (Nat.zero_le _) rfl
    replace hc := Kp.mk hc
    replace h2 := Kp.mk h2
    replace hr := Kp.mk hr
    go_enter Tryz.func205, Tryz.ntmps205
    go_wp2_with (at_builtin; refine wpList_append_vals _ rfl _ _ 80 rfl w.heap.size 83 i0 (.int .u64 0) 1 8 Tryz.underlying80 hi0 hz0 hz1 hz2 rfl (by decide) _ _ _ rfl hr.out (some ad) b o xs.length cap (xs.map (Value.int .u64)) rfl h2.out ?qc1 ?qc2 ?qc3 ?qc4 ?qc5 ?qc6 ?_)
    case qc1 => simp
    case qc2 =>
      intro j hj
      rw [List.getElem_map]
      exact at_keep (hc.out j (by simpa using hj)) (bel_alloc _ _)
    case qc3 => intro u hu; obtain ⟨x, _, rfl⟩ := List.mem_map.1 hu; rfl
    case qc4 => unfold maxLen; omega
    case qc5 => omega
    case qc6 => simp
    intro v' w1 hown hgrow
    have hB := own_bel (bel_alloc w _) hr.out hgrow (by simp)
    go_wp2
    go_ret
    exact ⟨v', rfl, row_words (by simpa using hown) hn, hB⟩

set_option maxRecDepth 100000 in
set_option maxHeartbeats 2000000 in
theorem cloneO (v : Value) (xs : List OpD) (w : World) {lo : Nat} (h : Ops lo w v xs) (hn : xs.length ≤ 1048576) :
    Calls Tryz.prog 263 #[v] w fun e w' => ∃ v', e = .returned v' ∧ Ops w.heap.size w' v' xs ∧ Below w.heap.size w w' := by
  obtain ⟨b, o, ⟨⟨a, cap, rfl, h1, h2⟩, h3⟩, -, hc⟩ := h.ex
  obtain ⟨i0, hi0, hz0, hz1, hz2⟩ := info_parts infoOp
  have q22 : ∀ (w : World) (a : Option Addr) (n c n' c' : Nat), (binOp .eql 79 (.slice a n c) (.slice none n' c')).run Tryz.prog w = .ok (.bool a.isNone) w := fun w a n c n' c' => Lib.run_eql_slice_nil w _ _ a n c n' c' Tryz.underlying79
  cases a with
  | none =>
    obtain rfl : xs = [] := by
      cases xs with
      | nil => rfl
      | cons x r => cases h2 (by simp)
    clear hc h2
    go_enter Tryz.func263, Tryz.ntmps263
    go_wp2
    go_ret
    exact ⟨_, rfl, row_ops ⟨rfl, .inl ⟨rfl, rfl⟩⟩ (by simp), Below.refl _ _⟩
  | some ad =>
    have hr := World.ownsRow_made (base := w.heap.size) (e := 85) (size := 4) w #[] 0 (Nat.le_refl _) (Nat.zero_le _) rfl
    replace hc := Kp.mk hc
    replace h2 := Kp.mk h2
    replace hr := Kp.mk hr
    go_enter Tryz.func263, Tryz.ntmps263
    go_wp2_with (at_builtin; refine wpList_append_vals _ rfl _ _ 79 rfl w.heap.size 85 i0 (.agg #[.int .i64 0, .int .i64 0, .int .i64 0, .int .u64 0]) 4 32 Tryz.underlying79 hi0 hz0 hz1 hz2 rfl (by decide) _ _ _ rfl hr.out (some ad) b o xs.length cap (xs.flatMap opC) rfl h2.out ?qc1 ?qc2 ?qc3 ?qc4 ?qc5 ?qc6 ?_)
    case qc1 => exact opC_len xs
    case qc2 =>
      intro j hj
      have hj' : j < xs.length * 4 := by rwa [opC_len] at hj
      have hi : j / 4 < xs.length := by omega
      have hr4 : j % 4 < 4 := by omega
      have e := opC_get xs (j / 4) hi (j % 4) hr4
      rw [show j / 4 * 4 + j % 4 = j by omega, List.getElem?_eq_getElem hj] at e
      have q := (hc.out (j / 4) hi).keep (bel_alloc w (Go.Obj.cells #[] 85))
      have key : ∀ r, r < 4 → ∀ x, (opC xs[j / 4])[r]? = some x → At (w.alloc (Go.Obj.cells #[] 85)) b (o + (j / 4 * 4 + r)) x := fun r hr x hx => by
        rw [← Nat.add_assoc]
        rcases (show r = 0 ∨ r = 1 ∨ r = 2 ∨ r = 3 by omega) with rfl | rfl | rfl | rfl
        · simp [opC] at hx; rw [← hx]; exact q.c0
        · simp [opC] at hx; rw [← hx]; exact q.c1
        · simp [opC] at hx; rw [← hx]; exact q.c2
        · simp [opC] at hx; rw [← hx]; exact q.c3
      have := key (j % 4) hr4 _ e.symm
      rwa [show j / 4 * 4 + j % 4 = j by omega] at this
    case qc3 =>
      intro u hu
      obtain ⟨x, _, hx⟩ := List.mem_flatMap.1 hu
      simp [opC] at hx
      rcases hx with rfl | rfl | rfl | rfl <;> rfl
    case qc4 => unfold maxLen; omega
    case qc5 => omega
    case qc6 => simp
    intro v' w1 hown hgrow
    have hB := own_bel (bel_alloc w _) hr.out hgrow (by simp)
    go_wp2
    go_ret
    exact ⟨v', rfl, row_ops (by simpa using hown) hn, hB⟩
end
section
open Go.ChangeShapes Go.WideShapes Go.ChangeAt Go.RowKit

set_option linter.unusedVariables false

set_option linter.unusedSimpArgs false

abbrev set9 (W : World) (C : Nat) (a0 a1 a2 a3 a4 a5 a6 a7 a8 : Value) : World := (((((((((W.setCell ⟨C, 0, none⟩ a0).setCell ⟨C, 1, none⟩ a1).setCell ⟨C, 2, none⟩ a2).setCell ⟨C, 3, none⟩ a3).setCell ⟨C, 4, none⟩ a4).setCell ⟨C, 5, none⟩ a5).setCell ⟨C, 6, none⟩ a6).setCell ⟨C, 7, none⟩ a7).setCell ⟨C, 8, none⟩ a8)

theorem putNine {W : World} {C : Nat} (r : Rw W C 9) (a0 a1 a2 a3 a4 a5 a6 a7 a8 : Value) :
    At (set9 W C a0 a1 a2 a3 a4 a5 a6 a7 a8) C 0 a0 ∧ At (set9 W C a0 a1 a2 a3 a4 a5 a6 a7 a8) C 1 a1 ∧ At (set9 W C a0 a1 a2 a3 a4 a5 a6 a7 a8) C 2 a2 ∧ At (set9 W C a0 a1 a2 a3 a4 a5 a6 a7 a8) C 3 a3 ∧ At (set9 W C a0 a1 a2 a3 a4 a5 a6 a7 a8) C 4 a4 ∧ At (set9 W C a0 a1 a2 a3 a4 a5 a6 a7 a8) C 5 a5 ∧ At (set9 W C a0 a1 a2 a3 a4 a5 a6 a7 a8) C 6 a6 ∧ At (set9 W C a0 a1 a2 a3 a4 a5 a6 a7 a8) C 7 a7 ∧ At (set9 W C a0 a1 a2 a3 a4 a5 a6 a7 a8) C 8 a8 :=
  ⟨set_other (set_other (set_other (set_other (set_other (set_other (set_other (set_other (set_same r (by omega) a0) (.inr (by omega))) (.inr (by omega))) (.inr (by omega))) (.inr (by omega))) (.inr (by omega))) (.inr (by omega))) (.inr (by omega))) (.inr (by omega)),
   set_other (set_other (set_other (set_other (set_other (set_other (set_other (set_same (r.set _ _) (by omega) a1) (.inr (by omega))) (.inr (by omega))) (.inr (by omega))) (.inr (by omega))) (.inr (by omega))) (.inr (by omega))) (.inr (by omega)),
   set_other (set_other (set_other (set_other (set_other (set_other (set_same ((r.set _ _).set _ _) (by omega) a2) (.inr (by omega))) (.inr (by omega))) (.inr (by omega))) (.inr (by omega))) (.inr (by omega))) (.inr (by omega)),
   set_other (set_other (set_other (set_other (set_other (set_same (((r.set _ _).set _ _).set _ _) (by omega) a3) (.inr (by omega))) (.inr (by omega))) (.inr (by omega))) (.inr (by omega))) (.inr (by omega)),
   set_other (set_other (set_other (set_other (set_same ((((r.set _ _).set _ _).set _ _).set _ _) (by omega) a4) (.inr (by omega))) (.inr (by omega))) (.inr (by omega))) (.inr (by omega)),
   set_other (set_other (set_other (set_same (((((r.set _ _).set _ _).set _ _).set _ _).set _ _) (by omega) a5) (.inr (by omega))) (.inr (by omega))) (.inr (by omega)),
   set_other (set_other (set_same ((((((r.set _ _).set _ _).set _ _).set _ _).set _ _).set _ _) (by omega) a6) (.inr (by omega))) (.inr (by omega)),
   set_other (set_same (((((((r.set _ _).set _ _).set _ _).set _ _).set _ _).set _ _).set _ _) (by omega) a7) (.inr (by omega)),
   set_same ((((((((r.set _ _).set _ _).set _ _).set _ _).set _ _).set _ _).set _ _).set _ _) (by omega) a8⟩

theorem belNine {H C : Nat} {w W : World} (h : Below H w W) (l : H ≤ C) (a0 a1 a2 a3 a4 a5 a6 a7 a8 : Value) : Below H w (set9 W C a0 a1 a2 a3 a4 a5 a6 a7 a8) :=
  bel_set (bel_set (bel_set (bel_set (bel_set (bel_set (bel_set (bel_set (bel_set h l _) l _) l _) l _) l _) l _) l _) l _) l _

theorem keepsNine {lo C : Nat} {W : World} (h : C < lo) (a0 a1 a2 a3 a4 a5 a6 a7 a8 : Value) : Keeps lo W (set9 W C a0 a1 a2 a3 a4 a5 a6 a7 a8) :=
  (((((((((keeps_set h).trans (keeps_set h)).trans (keeps_set h)).trans (keeps_set h)).trans (keeps_set h)).trans (keeps_set h)).trans (keeps_set h)).trans (keeps_set h)).trans (keeps_set h))

structure Nine (w : World) (C : Nat) (W : World) : Prop where
  r : Rw W C 9
  b : Below w.heap.size w W
  l : w.heap.size ≤ C
  fz : ∀ j, W.frozen? ⟨C, j, none⟩ = false

theorem rw_nine {W : World} {C : Nat} {x0 x1 x2 x3 x4 x5 x6 x7 x8 : Value} {T : TypeId} (h : W.heap[C]? = some (Go.Obj.cells #[x0, x1, x2, x3, x4, x5, x6, x7, x8] T (0, 0))) : Rw W C 9 :=
  ⟨T, fun j => (#[x0, x1, x2, x3, x4, x5, x6, x7, x8] : Array Value).getD j undef, #[x0, x1, x2, x3, x4, x5, x6, x7, x8], h, rfl, fun i hi => by
    rcases (show i = 0 ∨ i = 1 ∨ i = 2 ∨ i = 3 ∨ i = 4 ∨ i = 5 ∨ i = 6 ∨ i = 7 ∨ i = 8 by omega) with rfl | rfl | rfl | rfl | rfl | rfl | rfl | rfl | rfl <;> rfl⟩

theorem ops_shape {lo : Nat} {w : World} {v : Value} {xs : List OpD} (h : Ops lo w v xs) : ∃ a c, v = .slice a xs.length c := by
  obtain ⟨_, _, ⟨⟨a, c, e, _⟩, _⟩, _⟩ := h.ex
  exact ⟨a, c, e⟩

set_option maxRecDepth 100000 in
set_option maxHeartbeats 4000000 in
theorem hdFace (op ty : Int) (va : Value) (args : List OpD) (w : World) {lo : Nat} (h : Ops lo w va args) (hn : args.length ≤ 1048576) :
    Calls Tryz.prog 258 #[hdV op ty va] w fun e w' => ∃ va', e = .returned (.agg #[.int .i64 op, .int .i64 ty, .int .i64 0, .int .i64 0, .int .i64 0, .int .i64 0, va', .slice none 0 0, .slice none 0 0]) ∧ Ops w.heap.size w' va' args ∧ Below w.heap.size w w' := by
  obtain ⟨aa, ca, rfl⟩ : ∃ a c, va = .slice a args.length c := by
    obtain ⟨_, _, ⟨⟨a, c, e, _⟩, _⟩, _⟩ := h.ex
    exact ⟨a, c, e⟩
  obtain ⟨W0, hW⟩ : ∃ W0, W0 = (w.alloc (Go.Obj.cells #[.int .i64 op, .int .i64 ty, .slice aa args.length ca] 228)).alloc (Go.Obj.cells #[.int .i64 0, .int .i64 0, .int .i64 0, .int .i64 0, .int .i64 0, .int .i64 0, .slice none 0 0, .slice none 0 0, .slice none 0 0] 82) := ⟨_, rfl⟩
  have B0 : Below w.heap.size w W0 := by rw [hW]; exact bel_trans (bel_alloc _ _) (bel_alloc _ _)
  have hz0 : W0.heap.size = w.heap.size + 1 + 1 := by rw [hW]; simp
  have hC0 : W0.heap[w.heap.size]? = some (Go.Obj.cells #[.int .i64 op, .int .i64 ty, .slice aa args.length ca] 228) := by rw [hW]; exact kept_at (new_at w _) (bel_alloc _ _)
  have rC0 : W0.heap[w.heap.size + 1]? = some (Go.Obj.cells #[.int .i64 0, .int .i64 0, .int .i64 0, .int .i64 0, .int .i64 0, .int .i64 0, .slice none 0 0, .slice none 0 0, .slice none 0 0] 82) := by
    rw [hW]
    have := new_at (w.alloc (Go.Obj.cells #[.int .i64 op, .int .i64 ty, .slice aa args.length ca] 228)) (Go.Obj.cells #[.int .i64 0, .int .i64 0, .int .i64 0, .int .i64 0, .int .i64 0, .int .i64 0, .slice none 0 0, .slice none 0 0, .slice none 0 0] 82)
    rwa [World.size_alloc] at this
  have CO : Kp (∀ (W : World) (hB : Below W0.heap.size W0 W), Calls Tryz.prog 263 #[.slice aa args.length ca] W fun e w' => ∃ v', e = .returned v' ∧ Ops W.heap.size w' v' args ∧ Below W.heap.size W w') := ⟨fun W hB => cloneO (.slice aa args.length ca) args W (h.keep (bel_trans B0 hB)) hn⟩
  have HC : Kp (∀ W, Below W0.heap.size W0 W → At W w.heap.size 0 (.int .i64 op) ∧ At W w.heap.size 1 (.int .i64 ty) ∧ At W w.heap.size 2 (.slice aa args.length ca)) := ⟨fun W hB => ⟨cells_at (kept_at hC0 hB) rfl, cells_at (kept_at hC0 hB) rfl, cells_at (kept_at hC0 hB) rfl⟩⟩
  have NI : Kp (∀ W, Below W0.heap.size W0 W → Nine w (w.heap.size + 1) W) := ⟨fun W hB => ⟨rw_nine (kept_at rC0 hB), bel_trans B0 hB, by omega, rw_cells (kept_at rC0 hB)⟩⟩
  have RC : Kp (∀ W, Below W0.heap.size W0 W → W.heap[w.heap.size + 1]? = some (Go.Obj.cells #[.int .i64 0, .int .i64 0, .int .i64 0, .int .i64 0, .int .i64 0, .int .i64 0, .slice none 0 0, .slice none 0 0, .slice none 0 0] 82)) := ⟨fun W hB => kept_at rC0 hB⟩
  obtain ⟨j0, j1, j2⟩ := HC.out W0 (Below.refl _ _)
  have hlt : Kp (w.heap.size + 1 < W0.heap.size) := ⟨by omega⟩
  replace hW := Kp.mk hW
  clear hC0 rC0 h B0 hz0
  go_enter Tryz.func258, Tryz.ntmps258
  go_upto_region 1 with fail
  rw [← hW.out]
  have hBD := (Below.refl W0.heap.size W0).drew
  go_region_with (go_at_call 263; refine (CO.out _ hBD).mono ?_; rintro e w1 ⟨v', rfl, hO, hb0⟩; have hb1 := hBD.trans hb0; obtain ⟨av, cv, rfl⟩ := ops_shape hO; obtain ⟨i0, i1, i2⟩ := HC.out w1 hb1; have hx := RC.out w1 hb1; have fz := rw_cells hx; have q0 := fz 0; have q1 := fz 1; have q2 := fz 2; have q3 := fz 3; have q4 := fz 4; have q5 := fz 5; have q6 := fz 6; have q7 := fz 7; have q8 := fz 8; clear fz; have z0 : At w1 (w.heap.size + 1) 0 _ := cells_at hx rfl; have z1 : At w1 (w.heap.size + 1) 1 _ := cells_at hx rfl; have z2 : At w1 (w.heap.size + 1) 2 _ := cells_at hx rfl; have z3 : At w1 (w.heap.size + 1) 3 _ := cells_at hx rfl; have z4 : At w1 (w.heap.size + 1) 4 _ := cells_at hx rfl; have z5 : At w1 (w.heap.size + 1) 5 _ := cells_at hx rfl; have z6 : At w1 (w.heap.size + 1) 6 _ := cells_at hx rfl; have z7 : At w1 (w.heap.size + 1) 7 _ := cells_at hx rfl; have z8 : At w1 (w.heap.size + 1) 8 _ := cells_at hx rfl; clear hx)
  all_goals
    have hN := NI.out w1 hb1
    obtain ⟨p0, p1, p2, p3, p4, p5, p6, p7, p8⟩ := putNine hN.r (.int .i64 op) (.int .i64 ty) (.int .i64 0) (.int .i64 0) (.int .i64 0) (.int .i64 0) (.slice av args.length cv) (.slice none 0 0) (.slice none 0 0)
    have hF := belNine hN.b hN.l (.int .i64 op) (.int .i64 ty) (.int .i64 0) (.int .i64 0) (.int .i64 0) (.int .i64 0) (.slice av args.length cv) (.slice none 0 0) (.slice none 0 0)
    have hO2 : Ops w.heap.size (set9 w1 (w.heap.size + 1) (.int .i64 op) (.int .i64 ty) (.int .i64 0) (.int .i64 0) (.int .i64 0) (.int .i64 0) (.slice av args.length cv) (.slice none 0 0) (.slice none 0 0)) (.slice av args.length cv) args := hO.mono (by have := hlt.out; show _ ≤ W0.heap.size; omega) (keepsNine (by have := hlt.out; show _ < W0.heap.size; omega) _ _ _ _ _ _ _ _ _)
    replace hF := Kp.mk hF
    replace hO2 := Kp.mk hO2
    replace hO := Kp.mk hO
    replace hN := Kp.mk hN
    go_wp2_with fail
    refine bodyPost_ret (v := .agg #[.int .i64 op, .int .i64 ty, .int .i64 0, .int .i64 0, .int .i64 0, .int .i64 0, .slice av args.length cv, .slice none 0 0, .slice none 0 0]) ?_ rfl ⟨_, rfl, hO2.out, hF.out⟩
    simp [results, Tryz.results258, go_sem, p0, p1, p2, p3, p4, p5, p6, p7, p8]
end
end Go.Proofs.YtbnkbbcncloedaaGreatDoor
