/- The packed texts Mk1, Mk2, Vt2. -/
import Derived.Test.YtbnkbbcncloedaaGreatDoorRows
import Derived.WalkKit
import Derived.ProofKit
import Derived.OpenShut
import Derived.WalkLawsBesides
import Derived.Below
import Derived.BigQuiet
import Derived.Lib.QuietBelow
import Derived.Lib.AtoiErrMem
import Derived.Deep.OwnRows
import Derived.Deep.DeepCutAuto
import Derived.RangeFuncNested
import Derived.RangeFuncBound
import Derived.RangeFuncCalls
import Derived.RangeFuncLeaves
import Derived.OwnWalkIn
import Derived.TacticsInMore
import Derived.LoopNIn
import Derived.LoopIn
import Derived.Shelf.Abstract
import Derived.Maps.AppendAt
import Derived.OwnWalk
import Derived.Lib.SliceRun
import Derived.Test.YtbnkbbcncloedaaGreatDoorPk1
import Derived.Test.YtbnkbbcncloedaaGreatDoorPk2
import Derived.Test.YtbnkbbcncloedaaGreatDoorPk3
import Derived.Test.YtbnkbbcncloedaaGreatDoorPk5
import Derived.Test.YtbnkbbcncloedaaGreatDoorPk6
import Derived.Test.YtbnkbbcncloedaaGreatDoorPk7
namespace Go.Proofs.YtbnkbbcncloedaaGreatDoor
section
open Go.ChangeShapes Go.WideShapes Go.ChangeAt Go.RowKit

open Go.Sort (grow)

set_option linter.unusedVariables false

set_option linter.unusedSimpArgs false

structure Mk (lo E : Nat) (w w' : World) : Prop where
  bel : Below lo w w'
  sz : w'.heap.size = w.heap.size
  hi : ∀ b, E ≤ b → w'.heap[b]? = w.heap[b]?
  slc : ∀ b o a n c, At w b o (.slice a n c) → At w' b o (.slice a n c)
  int : ∀ b o k x, At w b o (.int k x) → ∃ y, At w' b o (.int k y)
  frz : ∀ b o, w'.frozen? ⟨b, o, none⟩ = w.frozen? ⟨b, o, none⟩

theorem Mk.refl (lo E : Nat) (w : World) : Mk lo E w w := ⟨Below.refl _ _, rfl, fun _ _ => rfl, fun _ _ _ _ _ h => h, fun _ _ _ x h => ⟨x, h⟩, fun _ _ => rfl⟩

theorem Mk.trans {lo E : Nat} {a b c : World} (h : Mk lo E a b) (k : Mk lo E b c) : Mk lo E a c :=
  ⟨h.bel.trans k.bel, k.sz.trans h.sz, fun i hi => (k.hi i hi).trans (h.hi i hi), fun _ _ _ _ _ q => k.slc _ _ _ _ _ (h.slc _ _ _ _ _ q),
    fun _ _ _ _ q => by obtain ⟨y, q⟩ := h.int _ _ _ _ q; exact k.int _ _ _ _ q, fun _ _ => (k.frz _ _).trans (h.frz _ _)⟩

theorem Mk.set {lo E b o : Nat} {k : IntKind} {x : Int} {w W : World} (h : Mk lo E w W) (hc : At W b o (.int k x)) (h1 : lo ≤ b) (h2 : b < E) (y : Int) : Mk lo E w (W.setCell ⟨b, o, none⟩ (.int k y)) := by
  refine h.trans ⟨bel_set (Below.refl _ _) h1 _, World.size_setCell _ _ _, fun i hi => Below.heap_setCell W ⟨b, o, none⟩ _ i (show i ≠ b by omega), fun b' o' a n c q => ?_, fun b' o' k' x' q => ?_, fun _ _ => by rw [World.frozen?_setCell]⟩
  · by_cases e : b' = b ∧ o' = o
    · obtain ⟨rfl, rfl⟩ := e
      have e := Eq.trans (Eq.symm q) hc
      cases e
    · exact set_other q (by omega)
  · by_cases e : b' = b ∧ o' = o
    · obtain ⟨rfl, rfl⟩ := e
      have e := Eq.trans (Eq.symm q) hc
      cases e
      exact ⟨y, World.cell?_setCell_same _ _ _ q⟩
    · exact ⟨x', set_other q (by omega)⟩

structure UnfE (lo E : Nat) (w : World) : Prop where
  out : ∀ b o, lo ≤ b → b < E → w.frozen? ⟨b, o, none⟩ = false

theorem Unf.e {lo : Nat} {w : World} (h : Unf lo w) : UnfE lo w.heap.size w := ⟨h.out⟩

theorem UnfE.keep {lo E : Nat} {w w' : World} (h : UnfE lo E w) (hb : Below E w w') : UnfE lo E w' := ⟨fun b o h1 h2 => (hb.frozen (p := ⟨b, o, none⟩) h2).trans (h.out b o h1 h2)⟩

structure IntsS (lo E : Nat) (k : IntKind) (w : World) (v : Value) (n : Nat) : Prop where
  ex : ∃ b o, Sl v n b o ∧ ∀ i, i < n → lo ≤ b ∧ b < E ∧ ∃ x, At w b (o + i) (.int k x)

structure Op4 (w : World) (b o : Nat) : Prop where
  c0 : ∃ x, At w b o (.int .i64 x)
  c1 : ∃ x, At w b (o + 1) (.int .i64 x)
  c2 : ∃ x, At w b (o + 2) (.int .i64 x)
  c3 : ∃ x, At w b (o + 3) (.int .u64 x)

structure OpsS (lo E : Nat) (w : World) (v : Value) (n : Nat) : Prop where
  ex : ∃ b o, Sl v n b o ∧ ∀ i, i < n → lo ≤ b ∧ b < E ∧ Op4 w b (o + i * 4)

structure In9 (lo E : Nat) (w : World) (b o : Nat) (d : InD) (va vb vw : Value) : Prop where
  c0 : ∃ x, At w b o (.int .i64 x)
  c1 : ∃ x, At w b (o + 1) (.int .i64 x)
  c2 : ∃ x, At w b (o + 2) (.int .i64 x)
  c3 : ∃ x, At w b (o + 3) (.int .i64 x)
  c4 : ∃ x, At w b (o + 4) (.int .i64 x)
  c5 : ∃ x, At w b (o + 5) (.int .i64 x)
  c6 : At w b (o + 6) va
  c7 : At w b (o + 7) vb
  c8 : At w b (o + 8) vw
  a : OpsS lo E w va d.args.length
  b : IntsS lo E .i64 w vb d.bl.length
  w : IntsS lo E .u64 w vw d.ws.length

structure InsS (lo E : Nat) (w : World) (v : Value) (xs : List InD) : Prop where
  ex : ∃ b o, Sl v xs.length b o ∧ ∀ i (h : i < xs.length), lo ≤ b ∧ b < E ∧ ∃ va vb vw, In9 lo E w b (o + i * 9) xs[i] va vb vw

structure BlsS (lo E : Nat) (w : World) (v : Value) (xs : List (List InD)) : Prop where
  ex : ∃ b o, Sl v xs.length b o ∧ ∀ i (h : i < xs.length), lo ≤ b ∧ b < E ∧ ∃ vi, At w b (o + i) vi ∧ InsS lo E w vi xs[i]

structure FnS (lo E : Nat) (w : World) (d : FnD) (vp vb : Value) : Prop where
  p : IntsS lo E .i64 w vp d.params.length
  b : BlsS lo E w vb d.blocks

theorem IntsS.slc {lo E : Nat} {k : IntKind} {w : World} {v : Value} {n : Nat} (h : IntsS lo E k w v n) : ∃ a c, v = .slice a n c := by
  obtain ⟨b, o, ⟨⟨a, c, rfl, _⟩, _⟩, _⟩ := h.ex
  exact ⟨a, c, rfl⟩

theorem OpsS.slc {lo E : Nat} {w : World} {v : Value} {n : Nat} (h : OpsS lo E w v n) : ∃ a c, v = .slice a n c := by
  obtain ⟨b, o, ⟨⟨a, c, rfl, _⟩, _⟩, _⟩ := h.ex
  exact ⟨a, c, rfl⟩

theorem InsS.slc {lo E : Nat} {w : World} {v : Value} {xs : List InD} (h : InsS lo E w v xs) : ∃ a c, v = .slice a xs.length c := by
  obtain ⟨b, o, ⟨⟨a, c, rfl, _⟩, _⟩, _⟩ := h.ex
  exact ⟨a, c, rfl⟩

theorem Ints.s {lo : Nat} {k : IntKind} {w : World} {v : Value} {xs : List Int} (h : Ints lo k w v xs) : IntsS lo w.heap.size k w v xs.length := by
  obtain ⟨b, o, s, l, c⟩ := h.ex
  exact ⟨b, o, s, fun i hi => ⟨l, Lib.lt_of_cell (c i hi), _, c i hi⟩⟩

theorem Ops.s {lo : Nat} {w : World} {v : Value} {xs : List OpD} (h : Ops lo w v xs) : OpsS lo w.heap.size w v xs.length := by
  obtain ⟨b, o, s, l, c⟩ := h.ex
  exact ⟨b, o, s, fun i hi => ⟨l, Lib.lt_of_cell (c i hi).c0, ⟨_, (c i hi).c0⟩, ⟨_, (c i hi).c1⟩, ⟨_, (c i hi).c2⟩, ⟨_, (c i hi).c3⟩⟩⟩

theorem Ins.s {lo : Nat} {w : World} {v : Value} {xs : List InD} (h : Ins lo w v xs) : InsS lo w.heap.size w v xs := by
  obtain ⟨b, o, s, l, c⟩ := h.ex
  refine ⟨b, o, s, fun i hi => ?_⟩
  obtain ⟨va, vb, vw, q⟩ := c i hi
  exact ⟨l, Lib.lt_of_cell q.c0, va, vb, vw, ⟨_, q.c0⟩, ⟨_, q.c1⟩, ⟨_, q.c2⟩, ⟨_, q.c3⟩, ⟨_, q.c4⟩, ⟨_, q.c5⟩, q.c6, q.c7, q.c8, q.l.a.s, q.l.b.s, q.l.c.s⟩

theorem Bls.s {lo : Nat} {w : World} {v : Value} {xs : List (List InD)} (h : Bls lo w v xs) : BlsS lo w.heap.size w v xs := by
  obtain ⟨b, o, s, l, c⟩ := h.ex
  refine ⟨b, o, s, fun i hi => ?_⟩
  obtain ⟨vi, q, r⟩ := c i hi
  exact ⟨l, Lib.lt_of_cell q, vi, q, r.s⟩

theorem FnAt.s {lo : Nat} {w : World} {d : FnD} {vp vb : Value} (h : FnAt lo w d vp vb) : FnS lo w.heap.size w d vp vb := ⟨h.p.s, h.b.s⟩
end
section
open Go.ChangeShapes Go.WideShapes Go.ChangeAt Go.RowKit

open Go.Sort (grow)

set_option linter.unusedVariables false

set_option linter.unusedSimpArgs false

theorem IntsS.keep {lo E : Nat} {k : IntKind} {w w' : World} {v : Value} {n : Nat} (h : IntsS lo E k w v n) (m : Below E w w') : IntsS lo E k w' v n := by
  obtain ⟨b, o, s, c⟩ := h.ex
  exact ⟨b, o, s, fun i hi => by obtain ⟨h1, h2, x, q⟩ := c i hi; exact ⟨h1, h2, x, (m.cell (p := ⟨_, _, none⟩) h2).trans q⟩⟩

theorem Op4.keep {E b o : Nat} {w w' : World} (h : Op4 w b o) (m : Below E w w') (hb : b < E) : Op4 w' b o := by
  have t : ∀ o v, At w b o v → At w' b o v := fun o v q => (m.cell (p := ⟨_, _, none⟩) hb).trans q
  obtain ⟨⟨x0, h0⟩, ⟨x1, h1⟩, ⟨x2, h2⟩, ⟨x3, h3⟩⟩ := h
  exact ⟨⟨_, t _ _ h0⟩, ⟨_, t _ _ h1⟩, ⟨_, t _ _ h2⟩, ⟨_, t _ _ h3⟩⟩

theorem OpsS.keep {lo E : Nat} {w w' : World} {v : Value} {n : Nat} (h : OpsS lo E w v n) (m : Below E w w') : OpsS lo E w' v n := by
  obtain ⟨b, o, s, c⟩ := h.ex
  exact ⟨b, o, s, fun i hi => by obtain ⟨h1, h2, q⟩ := c i hi; exact ⟨h1, h2, q.keep m h2⟩⟩

theorem In9.keep {lo E b o : Nat} {w w' : World} {d : InD} {va vb vw : Value} (h : In9 lo E w b o d va vb vw) (m : Below E w w') (hb : b < E) : In9 lo E w' b o d va vb vw := by
  have t : ∀ o v, At w b o v → At w' b o v := fun o v q => (m.cell (p := ⟨_, _, none⟩) hb).trans q
  obtain ⟨⟨x0, h0⟩, ⟨x1, h1⟩, ⟨x2, h2⟩, ⟨x3, h3⟩, ⟨x4, h4⟩, ⟨x5, h5⟩, h6, h7, h8, ha, hb, hw⟩ := h
  exact ⟨⟨_, t _ _ h0⟩, ⟨_, t _ _ h1⟩, ⟨_, t _ _ h2⟩, ⟨_, t _ _ h3⟩, ⟨_, t _ _ h4⟩, ⟨_, t _ _ h5⟩, t _ _ h6, t _ _ h7, t _ _ h8, ha.keep m, hb.keep m, hw.keep m⟩

theorem InsS.keep {lo E : Nat} {w w' : World} {v : Value} {xs : List InD} (h : InsS lo E w v xs) (m : Below E w w') : InsS lo E w' v xs := by
  obtain ⟨b, o, s, c⟩ := h.ex
  exact ⟨b, o, s, fun i hi => by obtain ⟨h1, h2, va, vb, vw, q⟩ := c i hi; exact ⟨h1, h2, va, vb, vw, q.keep m h2⟩⟩

theorem BlsS.keep {lo E : Nat} {w w' : World} {v : Value} {xs : List (List InD)} (h : BlsS lo E w v xs) (m : Below E w w') : BlsS lo E w' v xs := by
  obtain ⟨b, o, s, c⟩ := h.ex
  exact ⟨b, o, s, fun i hi => by obtain ⟨h1, h2, vi, q, r⟩ := c i hi; exact ⟨h1, h2, vi, (m.cell (p := ⟨_, _, none⟩) h2).trans q, r.keep m⟩⟩

theorem FnS.keep {lo E : Nat} {w w' : World} {d : FnD} {vp vb : Value} (h : FnS lo E w d vp vb) (m : Below E w w') : FnS lo E w' d vp vb := ⟨h.p.keep m, h.b.keep m⟩

theorem BlsS.slc {lo E : Nat} {w : World} {v : Value} {xs : List (List InD)} (h : BlsS lo E w v xs) : ∃ a c, v = .slice a xs.length c := by
  obtain ⟨b, o, ⟨⟨a, c, rfl, _⟩, _⟩, _⟩ := h.ex
  exact ⟨a, c, rfl⟩
end
section
open Go.ChangeShapes Go.WideShapes Go.ChangeAt Go.RowKit

open Go.Sort (grow)

set_option linter.unusedVariables false

set_option linter.unusedSimpArgs false

set_option maxRecDepth 100000 in
set_option maxHeartbeats 2000000 in
theorem cloneI (v : Value) (xs : List Int) (w : World) {lo : Nat} (h : Ints lo .i64 w v xs) (hn : xs.length ≤ 1048576) :
    Calls Tryz.prog 98 #[v] w fun e w' => ∃ v', e = .returned v' ∧ w'.ownsRow w.heap.size 2 1 v' xs.length (xs.map (Value.int .i64)) ∧ Below w.heap.size w w' := by
  obtain ⟨b, o, ⟨⟨a, cap, rfl, h1, h2⟩, h3⟩, -, hc⟩ := h.ex
  obtain ⟨i0, hi0, hz0, hz1, hz2⟩ := info_parts info64
  have q22 : ∀ (w : World) (a : Option Addr) (n c n' c' : Nat), (binOp .eql 66 (.slice a n c) (.slice none n' c')).run Tryz.prog w = .ok (.bool a.isNone) w := fun w a n c n' c' => Lib.run_eql_slice_nil w _ _ a n c n' c' Tryz.underlying66
  cases a with
  | none =>
    obtain rfl : xs = [] := by
      cases xs with
      | nil => rfl
      | cons x r => cases h2 (by simp)
    clear hc h2
    go_enter Tryz.func98, Tryz.ntmps98
    go_wp2
    go_ret
    exact ⟨_, rfl, ⟨rfl, .inl ⟨rfl, rfl⟩⟩, Below.refl _ _⟩
  | some ad =>
    have hr := World.ownsRow_made (base := w.heap.size) (e := 2) (size := 1) w #[] 0 (Nat.le_refl _) (Nat.zero_le _) rfl
    replace hc := Kp.mk hc
    replace h2 := Kp.mk h2
    replace hr := Kp.mk hr
    go_enter Tryz.func98, Tryz.ntmps98
    go_wp2_with (at_builtin; refine wpList_append_vals _ rfl _ _ 66 rfl w.heap.size 2 i0 (.int .i64 0) 1 8 Tryz.underlying66 hi0 hz0 hz1 hz2 rfl (by decide) _ _ _ rfl hr.out (some ad) b o xs.length cap (xs.map (Value.int .i64)) rfl h2.out ?qc1 ?qc2 ?qc3 ?qc4 ?qc5 ?qc6 ?_)
    case qc1 => simp
    case qc2 =>
      intro j hj
      rw [List.getElem_map]
      exact at_keep (hc.out j (by simpa using hj)) (bel_alloc _ _)
    case qc3 => intro u hu; obtain ⟨x, _, rfl⟩ := List.mem_map.1 hu; rfl
    case qc4 => unfold maxLen; omega
    case qc5 => omega
    case qc6 => simp
    intro v' w1 hown hgrow
    have hB := own_bel (bel_alloc w _) hr.out hgrow (by simp)
    go_wp2
    go_ret
    exact ⟨v', rfl, by simpa using hown, hB⟩
end
end Go.Proofs.YtbnkbbcncloedaaGreatDoor
