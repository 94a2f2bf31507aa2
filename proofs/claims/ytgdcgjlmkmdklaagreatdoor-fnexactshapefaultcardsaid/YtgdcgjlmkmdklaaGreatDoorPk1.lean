/- Texts of one claim. -/
import Derived.Test.YtgdcgjlmkmdklaaGreatDoorPk0
import Derived.Test.YtgdcgjlmkmdklaaGreatDoorRows
import Derived.WalkKit
import Derived.ProofKit
import Derived.OpenShut
import Derived.WalkLawsBesides
import Derived.Below
import Derived.BigQuiet
import Derived.Lib.QuietBelow
import Derived.Lib.AtoiErrMem
import Derived.Deep.OwnRows
namespace Go.Proofs.YtgdcgjlmkmdklaaGreatDoor
open Go.ChangeShapes Go.WideShapes Go.ChangeAt Go.RowKit
open Go.Sort (grow)
set_option linter.unusedVariables false
set_option linter.unusedSimpArgs false
theorem bel_trans {a b c : World} (h : Below a.heap.size a b) (k : Below b.heap.size b c) : Below a.heap.size a c := h.trans (k.mono h.size)
theorem bel_alloc (w : World) (o : Obj) : Below w.heap.size w (w.alloc o) := (Below.refl _ _).alloc (Nat.le_refl _) o
theorem ret_int {k : IntKind} {a b : Int} (h : a = b) : Ending.returned (.int k a) = .returned (.int k b) := by rw [h]
theorem ret_bool {a b : Bool} (h : a = b) : Ending.returned (.bool a) = .returned (.bool b) := by rw [h]
structure Kp (p : Prop) : Prop where
 out : p
structure OpD where
 k : Int
 t : Int
 i : Int
 w : Int
structure InD where
 op : Int
 ty : Int
 fl : Int
 pr : Int
 ca : Int
 sz : Int
 args : List OpD
 bl : List Int
 ws : List Int
structure FnD where
 name : ByteArray
 link : Int
 params : List Int
 res : Int
 blocks : List (List InD)
instance : Inhabited OpD := ⟨⟨0, 0, 0, 0⟩⟩
instance : Inhabited InD := ⟨⟨0, 0, 0, 0, 0, 0, [], [], []⟩⟩
structure Sl (v : Value) (n : Nat) (b o : Nat) : Prop where
 ex : ∃ a cap, v = .slice a n cap ∧ n ≤ cap ∧ (0 < n → a = some ⟨b, o, none⟩)
 le : n ≤ 140737488355328
abbrev At (w : World) (b o : Nat) (v : Value) : Prop := w.cell? ⟨b, o, none⟩ = some v
theorem at_keep {w w' : World} {b o : Nat} {v : Value} (h : At w b o v) (hb : Below w.heap.size w w') : At w' b o v := by
 have l := Lib.lt_of_cell h
 exact (hb.cell (p := ⟨b, o, none⟩) l).trans h
def Keeps (lo : Nat) (w w' : World) : Prop := ∀ b o v, lo ≤ b → At w b o v → At w' b o v
theorem keeps_below {lo : Nat} {w w' : World} (hb : Below w.heap.size w w') : Keeps lo w w' := fun b o v _ h => at_keep h hb
theorem Keeps.trans {lo : Nat} {a b c : World} (h : Keeps lo a b) (k : Keeps lo b c) : Keeps lo a c := fun x o v l q => k x o v l (h x o v l q)
theorem keeps_set {lo B k : Nat} {w : World} {x : Value} (h : B < lo) : Keeps lo w (w.setCell ⟨B, k, none⟩ x) := fun b o v l q => by
 show World.cell? _ _ = _
 rw [World.cell?_setCell_other _ _ _ _ (by intro e; injection e; omega)]
 exact q
structure Ints (lo : Nat) (k : IntKind) (w : World) (v : Value) (xs : List Int) : Prop where
 ex : ∃ b o, Sl v xs.length b o ∧ lo ≤ b ∧ ∀ i (h : i < xs.length), At w b (o + i) (.int k xs[i])
theorem Ints.mono {lo l2 : Nat} {k : IntKind} {w w' : World} {v : Value} {xs : List Int} (h : Ints lo k w v xs) (hl : l2 ≤ lo) (hk : Keeps lo w w') : Ints l2 k w' v xs := by
 obtain ⟨b, o, s, l, c⟩ := h.ex
 exact ⟨b, o, s, by omega, fun i hi => hk _ _ _ l (c i hi)⟩
theorem Ints.keep {lo : Nat} {k : IntKind} {w w' : World} {v : Value} {xs : List Int} (h : Ints lo k w v xs) (hb : Below w.heap.size w w') : Ints lo k w' v xs := h.mono (Nat.le_refl _) (keeps_below hb)
structure OpAt (w : World) (b o : Nat) (d : OpD) : Prop where
 c0 : At w b o (.int .i64 d.k)
 c1 : At w b (o + 1) (.int .i64 d.t)
 c2 : At w b (o + 2) (.int .i64 d.i)
 c3 : At w b (o + 3) (.int .u64 d.w)
theorem OpAt.mono {lo : Nat} {w w' : World} {b o : Nat} {d : OpD} (h : OpAt w b o d) (l : lo ≤ b) (hk : Keeps lo w w') : OpAt w' b o d :=
 ⟨hk _ _ _ l h.c0, hk _ _ _ l h.c1, hk _ _ _ l h.c2, hk _ _ _ l h.c3⟩
theorem OpAt.keep {w w' : World} {b o : Nat} {d : OpD} (h : OpAt w b o d) (hb : Below w.heap.size w w') : OpAt w' b o d := h.mono (Nat.zero_le _) (keeps_below hb)
structure Ops (lo : Nat) (w : World) (v : Value) (xs : List OpD) : Prop where
 ex : ∃ b o, Sl v xs.length b o ∧ lo ≤ b ∧ ∀ i (h : i < xs.length), OpAt w b (o + i * 4) xs[i]
theorem Ops.mono {lo l2 : Nat} {w w' : World} {v : Value} {xs : List OpD} (h : Ops lo w v xs) (hl : l2 ≤ lo) (hk : Keeps lo w w') : Ops l2 w' v xs := by
 obtain ⟨b, o, s, l, c⟩ := h.ex
 exact ⟨b, o, s, by omega, fun i hi => (c i hi).mono l hk⟩
theorem Ops.keep {lo : Nat} {w w' : World} {v : Value} {xs : List OpD} (h : Ops lo w v xs) (hb : Below w.heap.size w w') : Ops lo w' v xs := h.mono (Nat.le_refl _) (keeps_below hb)
structure InV (lo : Nat) (w : World) (va vb vw : Value) (d : InD) : Prop where
 a : Ops lo w va d.args
 b : Ints lo .i64 w vb d.bl
 c : Ints lo .u64 w vw d.ws
theorem InV.mono {lo l2 : Nat} {w w' : World} {va vb vw : Value} {d : InD} (h : InV lo w va vb vw d) (hl : l2 ≤ lo) (hk : Keeps lo w w') : InV l2 w' va vb vw d := ⟨h.a.mono hl hk, h.b.mono hl hk, h.c.mono hl hk⟩
theorem InV.keep {lo : Nat} {w w' : World} {va vb vw : Value} {d : InD} (h : InV lo w va vb vw d) (hb : Below w.heap.size w w') : InV lo w' va vb vw d := h.mono (Nat.le_refl _) (keeps_below hb)
abbrev inV (d : InD) (va vb vw : Value) : Value := .agg #[.int .i64 d.op, .int .i64 d.ty, .int .i64 d.fl, .int .i64 d.pr, .int .i64 d.ca, .int .i64 d.sz, va, vb, vw]
structure InAt (lo : Nat) (w : World) (b o : Nat) (d : InD) (va vb vw : Value) : Prop where
 c0 : At w b o (.int .i64 d.op)
 c1 : At w b (o + 1) (.int .i64 d.ty)
 c2 : At w b (o + 2) (.int .i64 d.fl)
 c3 : At w b (o + 3) (.int .i64 d.pr)
 c4 : At w b (o + 4) (.int .i64 d.ca)
 c5 : At w b (o + 5) (.int .i64 d.sz)
 c6 : At w b (o + 6) va
 c7 : At w b (o + 7) vb
 c8 : At w b (o + 8) vw
 l : InV lo w va vb vw d
theorem InAt.mono {lo l2 : Nat} {w w' : World} {b o : Nat} {d : InD} {va vb vw : Value} (h : InAt lo w b o d va vb vw) (l : l2 ≤ b) (hl : l2 ≤ lo) (hk : Keeps l2 w w') : InAt l2 w' b o d va vb vw :=
 ⟨hk _ _ _ l h.c0, hk _ _ _ l h.c1, hk _ _ _ l h.c2, hk _ _ _ l h.c3, hk _ _ _ l h.c4, hk _ _ _ l h.c5, hk _ _ _ l h.c6, hk _ _ _ l h.c7, hk _ _ _ l h.c8, h.l.mono hl (fun b o v q => hk b o v (Nat.le_trans hl q))⟩
theorem InAt.keep {lo : Nat} {w w' : World} {b o : Nat} {d : InD} {va vb vw : Value} (h : InAt lo w b o d va vb vw) (hb : Below w.heap.size w w') : InAt lo w' b o d va vb vw :=
 ⟨at_keep h.c0 hb, at_keep h.c1 hb, at_keep h.c2 hb, at_keep h.c3 hb, at_keep h.c4 hb, at_keep h.c5 hb, at_keep h.c6 hb, at_keep h.c7 hb, at_keep h.c8 hb, h.l.keep hb⟩
structure Ins (lo : Nat) (w : World) (v : Value) (xs : List InD) : Prop where
 ex : ∃ b o, Sl v xs.length b o ∧ lo ≤ b ∧ ∀ i (h : i < xs.length), ∃ va vb vw, InAt lo w b (o + i * 9) xs[i] va vb vw
theorem Ins.mono {lo l2 : Nat} {w w' : World} {v : Value} {xs : List InD} (h : Ins lo w v xs) (hl : l2 ≤ lo) (hk : Keeps lo w w') : Ins l2 w' v xs := by
 obtain ⟨b, o, s, l, c⟩ := h.ex
 refine ⟨b, o, s, by omega, fun i hi => ?_⟩
 obtain ⟨va, vb, vw, q⟩ := c i hi
 have q' := q.mono l (Nat.le_refl _) hk
 exact ⟨va, vb, vw, ⟨q'.c0, q'.c1, q'.c2, q'.c3, q'.c4, q'.c5, q'.c6, q'.c7, q'.c8, q'.l.mono hl (fun _ _ _ _ h => h)⟩⟩
theorem Ins.keep {lo : Nat} {w w' : World} {v : Value} {xs : List InD} (h : Ins lo w v xs) (hb : Below w.heap.size w w') : Ins lo w' v xs := h.mono (Nat.le_refl _) (keeps_below hb)
structure Bls (lo : Nat) (w : World) (v : Value) (xs : List (List InD)) : Prop where
 ex : ∃ b o, Sl v xs.length b o ∧ lo ≤ b ∧ ∀ i (h : i < xs.length), ∃ vi, At w b (o + i) vi ∧ Ins lo w vi xs[i]
theorem Bls.mono {lo l2 : Nat} {w w' : World} {v : Value} {xs : List (List InD)} (h : Bls lo w v xs) (hl : l2 ≤ lo) (hk : Keeps lo w w') : Bls l2 w' v xs := by
 obtain ⟨b, o, s, l, c⟩ := h.ex
 refine ⟨b, o, s, by omega, fun i hi => ?_⟩
 obtain ⟨vi, q, r⟩ := c i hi
 exact ⟨vi, hk _ _ _ l q, r.mono hl hk⟩
theorem Bls.keep {lo : Nat} {w w' : World} {v : Value} {xs : List (List InD)} (h : Bls lo w v xs) (hb : Below w.heap.size w w') : Bls lo w' v xs := h.mono (Nat.le_refl _) (keeps_below hb)
abbrev fnV (d : FnD) (vp vb : Value) : Value := .agg #[.string d.name, .int .i64 d.link, vp, .int .i64 d.res, vb]
structure FnAt (lo : Nat) (w : World) (d : FnD) (vp vb : Value) : Prop where
 n : d.name.size ≤ 140737488355328
 p : Ints lo .i64 w vp d.params
 b : Bls lo w vb d.blocks
theorem FnAt.mono {lo l2 : Nat} {w w' : World} {d : FnD} {vp vb : Value} (h : FnAt lo w d vp vb) (hl : l2 ≤ lo) (hk : Keeps lo w w') : FnAt l2 w' d vp vb := ⟨h.n, h.p.mono hl hk, h.b.mono hl hk⟩
theorem FnAt.keep {lo : Nat} {w w' : World} {d : FnD} {vp vb : Value} (h : FnAt lo w d vp vb) (hb : Below w.heap.size w w') : FnAt lo w' d vp vb := h.mono (Nat.le_refl _) (keeps_below hb)
def less (left n : Int) : Int := if left < n then -1 else left - n
theorem less_less {l a b : Int} (a0 : 0 ≤ a) (b0 : 0 ≤ b) (h : 0 ≤ less l a) : less (less l a) b = less l (a + b) := by
 unfold less at *; split at h <;> (repeat' split) <;> omega
theorem less_neg {l a b : Int} (a0 : 0 ≤ a) (b0 : 0 ≤ b) (h : less l a < 0) (l0 : 0 ≤ l) : less l (a + b) = -1 := by
 unfold less at *; split at h <;> (repeat' split) <;> omega
theorem less_bd {l a : Int} (a0 : 0 ≤ a) (l0 : 0 ≤ l) : -1 ≤ less l a ∧ less l a ≤ l := by
 unfold less; split <;> omega
def inN (d : InD) : Int := d.args.length + d.bl.length + d.ws.length
def insN (xs : List InD) : Int := (xs.map inN).sum
def blN (xs : List InD) : Int := xs.length + insN xs
def blsN (xs : List (List InD)) : Int := (xs.map blN).sum
def fnN (d : FnD) : Int := d.name.size + d.params.length + (d.blocks.length + blsN d.blocks)
set_option maxHeartbeats 1000000 in
theorem szInts (v : Value) (n b o : Nat) (l : Int) (w : World) (h : Sl v n b o) (l0 : 0 ≤ l) (l1 : l ≤ 1048576) :
  Calls Tryz.prog 83 #[v, .int .i64 l] w fun e w' => e = .returned (.int .i64 (less l n)) ∧ w' = w := by
 obtain ⟨⟨a, cap, rfl, h1, h2⟩, h3⟩ := h
 have g1 : (n : Int) ≤ 140737488355328 := by omega
 by_cases hl : l < n
 ·have e : Kp (less l n = -1) := ⟨by unfold less; rw [if_pos hl]⟩
  have q : l - (n : Int) < 0 := by omega
  exact tl124
 ·have e : Kp (less l n = l - n) := ⟨by unfold less; rw [if_neg hl]⟩
  have q : ¬ l - (n : Int) < 0 := by omega
  exact tl124
set_option maxHeartbeats 1000000 in
theorem szWords (v : Value) (n b o : Nat) (l : Int) (w : World) (h : Sl v n b o) (l0 : 0 ≤ l) (l1 : l ≤ 1048576) :
  Calls Tryz.prog 178 #[v, .int .i64 l] w fun e w' => e = .returned (.int .i64 (less l n)) ∧ w' = w := by
 obtain ⟨⟨a, cap, rfl, h1, h2⟩, h3⟩ := h
 have g1 : (n : Int) ≤ 140737488355328 := by omega
 by_cases hl : l < n
 ·have e : Kp (less l n = -1) := ⟨by unfold less; rw [if_pos hl]⟩
  have q : l - (n : Int) < 0 := by omega
  exact tl122
 ·have e : Kp (less l n = l - n) := ⟨by unfold less; rw [if_neg hl]⟩
  have q : ¬ l - (n : Int) < 0 := by omega
  exact tl122
set_option maxHeartbeats 1000000 in
theorem szOps (v : Value) (n b o : Nat) (l : Int) (w : World) (h : Sl v n b o) (l0 : 0 ≤ l) (l1 : l ≤ 1048576) :
  Calls Tryz.prog 177 #[v, .int .i64 l] w fun e w' => e = .returned (.int .i64 (less l n)) ∧ w' = w := by
 obtain ⟨⟨a, cap, rfl, h1, h2⟩, h3⟩ := h
 have g1 : (n : Int) ≤ 140737488355328 := by omega
 by_cases hl : l < n
 ·have e : Kp (less l n = -1) := ⟨by unfold less; rw [if_pos hl]⟩
  have q : l - (n : Int) < 0 := by omega
  exact tl123
 ·have e : Kp (less l n = l - n) := ⟨by unfold less; rw [if_neg hl]⟩
  have q : ¬ l - (n : Int) < 0 := by omega
  exact tl123
set_option maxRecDepth 100000 in
set_option maxHeartbeats 2000000 in
theorem szIn (d : InD) (va vb vw : Value) (l : Int) (w : World) {lo : Nat} (h : InV lo w va vb vw d) (l0 : 0 ≤ l) (l1 : l ≤ 1048576) :
  Calls Tryz.prog 165 #[inV d va vb vw, .int .i64 l] w fun e w' => e = .returned (.int .i64 (less l (inN d))) ∧ Below w.heap.size w w' := by
 obtain ⟨b1, o1, s1, -, -⟩ := h.a.ex
 obtain ⟨b2, o2, s2, -, -⟩ := h.b.ex
 obtain ⟨b3, o3, s3, -, -⟩ := h.c.ex
 have z1 : (0 : Int) ≤ d.args.length := by omega
 have z2 : (0 : Int) ≤ d.bl.length := by omega
 have z3 : (0 : Int) ≤ d.ws.length := by omega
 have C1 : Kp (∀ w, Calls Tryz.prog 177 #[va, .int .i64 l] w fun e w' => e = .returned (.int .i64 (less l d.args.length)) ∧ w' = w) := ⟨fun w => szOps va _ b1 o1 l w s1 l0 l1⟩
 have d1 := less_bd z1 l0
 by_cases q1 : less l d.args.length < 0
 ·have e : Kp (less l (inN d) = -1) := ⟨by
   unfold inN
   rw [Int.add_assoc]
   exact less_neg z1 (by omega) q1 l0⟩
  generalize less l d.args.length = r1 at *
  go_enter Tryz.func165, Tryz.ntmps165
  go_wp2_with fail
  refine (C1.out _).mono ?_
  rintro e w' ⟨rfl, rfl⟩
  exact tl81
 ·have k1 : 0 ≤ less l d.args.length := by omega
  have L2 := less_less (l := l) z1 z2 k1
  have C2 : Kp (∀ w, Calls Tryz.prog 83 #[vb, .int .i64 (less l d.args.length)] w fun e w' => e = .returned (.int .i64 (less l (d.args.length + d.bl.length))) ∧ w' = w) := ⟨fun w => by
   have q := szInts vb _ b2 o2 (less l d.args.length) w s2 k1 (by omega)
   rw [L2] at q
   exact q⟩
  have z12 : (0 : Int) ≤ d.args.length + d.bl.length := by omega
  have d2 := less_bd z12 l0
  by_cases q2 : less l (d.args.length + d.bl.length) < 0
  ·have e : Kp (less l (inN d) = -1) := ⟨less_neg z12 z3 q2 l0⟩
   clear L2
   generalize less l d.args.length = r1 at *
   generalize less l (d.args.length + d.bl.length) = r2 at *
   clear d1
   go_enter Tryz.func165, Tryz.ntmps165
   go_wp2_with fail
   refine (C1.out _).mono ?_
   rintro e w' ⟨rfl, rfl⟩
   go_wp2_with fail
   refine (C2.out _).mono ?_
   rintro e w' ⟨rfl, rfl⟩
   exact tl81
  ·have k2 : 0 ≤ less l (d.args.length + d.bl.length) := by omega
   have L3 := less_less (l := l) z12 z3 k2
   have C3 : Kp (∀ w, Calls Tryz.prog 178 #[vw, .int .i64 (less l (d.args.length + d.bl.length))] w fun e w' => e = .returned (.int .i64 (less l (inN d))) ∧ w' = w) := ⟨fun w => by
    have q := szWords vw _ b3 o3 (less l (d.args.length + d.bl.length)) w s3 k2 (by omega)
    rw [L3] at q
    exact q⟩
   have d3 := less_bd (a := inN d) (by unfold inN; omega) l0
   clear L2 L3 d1 d2
   generalize less l (inN d) = r3 at *
   generalize less l d.args.length = r1 at *
   generalize less l (d.args.length + d.bl.length) = r2 at *
   by_cases q3 : r3 < 0
   ·have e : r3 = -1 := by omega
    subst e
    exact tl58
   ·exact tl58
theorem insN_nn (xs : List InD) : 0 ≤ insN xs := by
 unfold insN
 induction xs with
 | nil => simp
 | cons d r ih => simp only [List.map_cons, List.sum_cons]; unfold inN at *; omega
theorem insN_snoc (xs : List InD) (i : Nat) (h : i < xs.length) : insN (xs.take (i + 1)) = insN (xs.take i) + inN xs[i] := by
 unfold insN
 rw [List.take_succ_eq_append_getElem h, List.map_append, List.sum_append]; simp
theorem insN_le (xs : List InD) (i : Nat) : insN (xs.take i) ≤ insN xs := by
 have e := congrArg insN (List.take_append_drop i xs)
 have := insN_nn (xs.drop i)
 unfold insN at *
 rw [List.map_append, List.sum_append] at e
 omega
theorem inN_nn (d : InD) : 0 ≤ inN d := by unfold inN; omega
set_option maxRecDepth 100000 in
set_option maxHeartbeats 2000000 in
theorem szInss (v : Value) (xs : List InD) (l : Int) (w : World) {lo : Nat} (h : Ins lo w v xs) (l0 : 0 ≤ l) (l1 : l ≤ 1048576) :
  Calls Tryz.prog 150 #[v, .int .i64 l] w fun e w' => e = .returned (.int .i64 (less l (blN xs))) ∧ Below w.heap.size w w' := by
 obtain ⟨b, o, ⟨⟨a, cap, rfl, h1, h2⟩, h3⟩, -, hc⟩ := h.ex
 have g1 : (xs.length : Int) ≤ 140737488355328 := by omega
 have n0 := insN_nn xs
 by_cases hl : l < xs.length
 ·have e : Kp (less l (blN xs) = -1) := ⟨by unfold less blN; rw [if_pos (by omega)]⟩
  have q : l - (xs.length : Int) < 0 := by omega
  clear h2 hc
  go_enter Tryz.func150, Tryz.ntmps150
  go_wp2
  go_ret
  exact ⟨by rw [e.out]; rfl, Below.refl _ _⟩
 ·have q : ¬ l - (xs.length : Int) < 0 := by omega
  go_enter Tryz.func150, Tryz.ntmps150
  go_wp2_with fail
  go_loopw [1, 5] (fun r s wr => ∃ i : Nat, i ≤ xs.length ∧ s = .int .i64 i ∧ r = .int .i64 (l - xs.length - insN (xs.take i)) ∧ insN (xs.take i) ≤ l - xs.length ∧ Below w.heap.size w wr) (fun _ s _ => xs.length - (intOf s).toNat)
  case atStart => exact ⟨0, Nat.zero_le _, rfl, by simp [insN], by simp [insN]; omega, Below.refl _ _⟩
  case round =>
   obtain ⟨i, hi, rfl, rfl, hle, hB⟩ := hrel
   by_cases hlt : i < xs.length
   ·have ha := h2 (by omega)
    subst ha
    obtain ⟨va, vb, vw, H⟩ := hc i hlt
    have H' := H.keep hB
    obtain ⟨c0, c1, c2, c3, c4, c5, c6, c7, c8, hv⟩ := H'
    have hs := insN_snoc xs i hlt
    have nn := inN_nn xs[i]
    have n1 := insN_nn (xs.take i)
    have htk := insN_le xs (i + 1)
    have C : Kp (∀ w, InV lo w va vb vw xs[i] → ∀ l', 0 ≤ l' → l' ≤ 1048576 → Calls Tryz.prog 165 #[inV xs[i] va vb vw, .int .i64 l'] w fun e w' => e = .returned (.int .i64 (less l' (inN xs[i]))) ∧ Below w.heap.size w w') := ⟨fun w h l' a b => szIn _ va vb vw l' w h a b⟩
    have H2 : Kp (insN (xs.take (i + 1)) = insN (xs.take i) + inN xs[i]) := ⟨hs⟩
    by_cases hlt2 : l - xs.length - insN (xs.take i) < inN xs[i]
    ·have e1 : less (l - xs.length - insN (xs.take i)) (inN xs[i]) = -1 := by unfold less; rw [if_pos hlt2]
     have e : Kp (less l (blN xs) = -1) := ⟨by unfold less blN; rw [if_pos (by omega)]⟩
     clear hs htk H2 hc
     generalize insN (xs.take i) = T at *
     exact tl24
    ·have e1 : less (l - xs.length - insN (xs.take i)) (inN xs[i]) = l - xs.length - insN (xs.take (i + 1)) := by unfold less; rw [if_neg hlt2]; omega
     have q2 : ¬ l - xs.length - insN (xs.take (i + 1)) < 0 := by omega
     have q3 : insN (xs.take (i + 1)) ≤ l - xs.length := by omega
     clear hs htk H2 hc hlt2
     have C1 : Kp _ := ⟨C.out wr hv (l - xs.length - insN (xs.take i)) (by omega) (by omega)⟩
     rw [e1] at C1
     clear e1 C nn
     generalize hT2 : insN (xs.take (i + 1)) = T2 at *
     generalize insN (xs.take i) = T at *
     exact tl20
   ·have e0 : i = xs.length := by omega
    have et : insN (xs.take i) = insN xs := by rw [e0, List.take_length]
    have e : Kp (less l (blN xs) = l - xs.length - insN xs) := ⟨by unfold less blN; rw [if_neg (by omega)]; omega⟩
    rw [et]
    clear et h2 hc hle n0
    generalize insN xs = T at *
    go_wp2_with fail
    go_ret
    exact ⟨by rw [e.out]; rfl, hB⟩
end Go.Proofs.YtgdcgjlmkmdklaaGreatDoor

namespace Go.Proofs.YtgdcgjlmkmdklaaGreatDoor
open Go.ChangeShapes Go.WideShapes Go.ChangeAt Go.RowKit
set_option linter.unusedVariables false
set_option linter.unusedSimpArgs false
theorem blN_nn (xs : List InD) : 0 ≤ blN xs := by have := insN_nn xs; unfold blN; omega
theorem blsN_nn (xs : List (List InD)) : 0 ≤ blsN xs := by
 unfold blsN
 induction xs with
 | nil => simp
 | cons d r ih => have := blN_nn d; simp only [List.map_cons, List.sum_cons]; omega
theorem blsN_snoc (xs : List (List InD)) (i : Nat) (h : i < xs.length) : blsN (xs.take (i + 1)) = blsN (xs.take i) + blN xs[i] := by
 unfold blsN
 rw [List.take_succ_eq_append_getElem h, List.map_append, List.sum_append]; simp
theorem blsN_le (xs : List (List InD)) (i : Nat) : blsN (xs.take i) ≤ blsN xs := by
 have e := congrArg blsN (List.take_append_drop i xs)
 have := blsN_nn (xs.drop i)
 unfold blsN at *
 rw [List.map_append, List.sum_append] at e
 omega
set_option maxRecDepth 100000 in
set_option maxHeartbeats 2000000 in
theorem szBl (xs : List InD) (vi : Value) (l : Int) (w : World) {lo : Nat} (h : Ins lo w vi xs) (l0 : 0 ≤ l) (l1 : l ≤ 1048576) :
  Calls Tryz.prog 130 #[.agg #[vi], .int .i64 l] w fun e w' => e = .returned (.int .i64 (less l (blN xs))) ∧ Below w.heap.size w w' := by
 have C : Kp (∀ w, Ins lo w vi xs → Calls Tryz.prog 150 #[vi, .int .i64 l] w fun e w' => e = .returned (.int .i64 (less l (blN xs))) ∧ Below w.heap.size w w') := ⟨fun w h => szInss vi xs l w h l0 l1⟩
 have d := less_bd (blN_nn xs) l0
 generalize less l (blN xs) = r at *
 by_cases q : r < 0
 ·obtain rfl : r = -1 := by omega
  exact tl79
 ·exact tl79
set_option maxRecDepth 100000 in
set_option maxHeartbeats 2000000 in
theorem szBls (v : Value) (xs : List (List InD)) (l : Int) (w : World) {lo : Nat} (h : Bls lo w v xs) (l0 : 0 ≤ l) (l1 : l ≤ 1048576) :
  Calls Tryz.prog 84 #[v, .int .i64 l] w fun e w' => e = .returned (.int .i64 (less l (xs.length + blsN xs))) ∧ Below w.heap.size w w' := by
 obtain ⟨b, o, ⟨⟨a, cap, rfl, h1, h2⟩, h3⟩, -, hc⟩ := h.ex
 have g1 : (xs.length : Int) ≤ 140737488355328 := by omega
 have n0 := blsN_nn xs
 by_cases hl : l < xs.length
 ·have e : Kp (less l (xs.length + blsN xs) = -1) := ⟨by unfold less; rw [if_pos (by omega)]⟩
  have q : l - (xs.length : Int) < 0 := by omega
  clear h2 hc
  go_enter Tryz.func84, Tryz.ntmps84
  go_wp2
  go_ret
  exact ⟨by rw [e.out]; rfl, Below.refl _ _⟩
 ·have q : ¬ l - (xs.length : Int) < 0 := by omega
  go_enter Tryz.func84, Tryz.ntmps84
  go_wp2_with fail
  go_loopw [1, 5] (fun r s wr => ∃ i : Nat, i ≤ xs.length ∧ s = .int .i64 i ∧ r = .int .i64 (l - xs.length - blsN (xs.take i)) ∧ blsN (xs.take i) ≤ l - xs.length ∧ Below w.heap.size w wr) (fun _ s _ => xs.length - (intOf s).toNat)
  case atStart => exact ⟨0, Nat.zero_le _, rfl, by simp [blsN], by simp [blsN]; omega, Below.refl _ _⟩
  case round =>
   obtain ⟨i, hi, rfl, rfl, hle, hB⟩ := hrel
   by_cases hlt : i < xs.length
   ·have ha := h2 (by omega)
    subst ha
    obtain ⟨vi, H, hv0⟩ := hc i hlt
    have c0 := at_keep H hB
    have hv := hv0.keep hB
    clear H hv0
    have hs := blsN_snoc xs i hlt
    have nn := blN_nn xs[i]
    have n1 := blsN_nn (xs.take i)
    have htk := blsN_le xs (i + 1)
    have C : Kp (∀ w, Ins lo w vi xs[i] → ∀ l', 0 ≤ l' → l' ≤ 1048576 → Calls Tryz.prog 130 #[.agg #[vi], .int .i64 l'] w fun e w' => e = .returned (.int .i64 (less l' (blN xs[i]))) ∧ Below w.heap.size w w') := ⟨fun w h l' a b => szBl _ vi l' w h a b⟩
    have H2 : Kp (blsN (xs.take (i + 1)) = blsN (xs.take i) + blN xs[i]) := ⟨hs⟩
    by_cases hlt2 : l - xs.length - blsN (xs.take i) < blN xs[i]
    ·have e1 : less (l - xs.length - blsN (xs.take i)) (blN xs[i]) = -1 := by unfold less; rw [if_pos hlt2]
     have e : Kp (less l (xs.length + blsN xs) = -1) := ⟨by unfold less; rw [if_pos (by omega)]⟩
     clear hs htk H2 hc
     generalize blsN (xs.take i) = T at *
     exact tl24
    ·have e1 : less (l - xs.length - blsN (xs.take i)) (blN xs[i]) = l - xs.length - blsN (xs.take (i + 1)) := by unfold less; rw [if_neg hlt2]; omega
     have q2 : ¬ l - xs.length - blsN (xs.take (i + 1)) < 0 := by omega
     have q3 : blsN (xs.take (i + 1)) ≤ l - xs.length := by omega
     clear hs htk H2 hc hlt2
     have C1 : Kp _ := ⟨C.out wr hv (l - xs.length - blsN (xs.take i)) (by omega) (by omega)⟩
     rw [e1] at C1
     clear e1 C nn
     generalize hT2 : blsN (xs.take (i + 1)) = T2 at *
     generalize blsN (xs.take i) = T at *
     exact tl20
   ·have e0 : i = xs.length := by omega
    have et : blsN (xs.take i) = blsN xs := by rw [e0, List.take_length]
    have e : Kp (less l (xs.length + blsN xs) = l - xs.length - blsN xs) := ⟨by unfold less; rw [if_neg (by omega)]; omega⟩
    exact tl87
set_option maxRecDepth 100000 in
set_option maxHeartbeats 2000000 in
theorem szFn (d : FnD) (vp vb : Value) (l : Int) (w : World) {lo : Nat} (h : FnAt lo w d vp vb) (l0 : 0 ≤ l) (l1 : l ≤ 1048576) :
  Calls Tryz.prog 44 #[fnV d vp vb, .int .i64 l] w fun e w' => e = .returned (.int .i64 (less l (fnN d))) ∧ Below w.heap.size w w' := by
 obtain ⟨b1, o1, s1, -, -⟩ := h.p.ex
 have hn := h.n
 have z0 : (0 : Int) ≤ d.name.size := by omega
 have z1 : (0 : Int) ≤ d.params.length := by omega
 have z2 : (0 : Int) ≤ d.blocks.length + blsN d.blocks := by have := blsN_nn d.blocks; omega
 have hn' : (d.name.size : Int) ≤ 140737488355328 := by omega
 by_cases q0 : l < d.name.size
 ·have e : Kp (less l (fnN d) = -1) := ⟨by unfold less fnN; rw [if_pos (by omega)]⟩
  have q : l - (d.name.size : Int) < 0 := by omega
  go_enter Tryz.func44, Tryz.ntmps44
  exact tl81
 ·have q : ¬ l - (d.name.size : Int) < 0 := by omega
  have C1 : Kp (∀ w, Calls Tryz.prog 83 #[vp, .int .i64 (l - d.name.size)] w fun e w' => e = .returned (.int .i64 (less (l - d.name.size) d.params.length)) ∧ w' = w) := ⟨fun w => szInts vp _ b1 o1 _ w s1 (by omega) (by omega)⟩
  by_cases q1 : l - d.name.size < d.params.length
  ·have e1 : less (l - d.name.size) d.params.length = -1 := by unfold less; rw [if_pos q1]
   have e : Kp (less l (fnN d) = -1) := ⟨by unfold less fnN; rw [if_pos (by omega)]⟩
   rw [e1] at C1
   clear e1
   go_enter Tryz.func44, Tryz.ntmps44
   go_wp2_with fail
   refine (C1.out _).mono ?_
   rintro e w' ⟨rfl, rfl⟩
   exact tl81
  ·have e1 : less (l - d.name.size) d.params.length = l - d.name.size - d.params.length := by unfold less; rw [if_neg q1]
   have e : less (l - d.name.size - d.params.length) (d.blocks.length + blsN d.blocks) = less l (fnN d) := by unfold less fnN; (repeat' split) <;> omega
   rw [e1] at C1
   have C2 : Kp (∀ w, Bls lo w vb d.blocks → Calls Tryz.prog 84 #[vb, .int .i64 (l - d.name.size - d.params.length)] w fun e w' => e = .returned (.int .i64 (less l (fnN d))) ∧ Below w.heap.size w w') := ⟨fun w hb => by
    have q := szBls vb d.blocks (l - d.name.size - d.params.length) w hb (by omega) (by omega)
    rw [e] at q
    exact q⟩
   have dd := less_bd (a := fnN d) (by unfold fnN; omega) l0
   have q2 : ¬ l - (d.name.size : Int) - (d.params.length : Int) < 0 := by omega
   have HB : Kp _ := ⟨h.b⟩
   have hnm := d.name
   clear e e1 z0 z1 z2 q0 q1 h s1
   generalize less l (fnN d) = r at *
   by_cases q9 : r < 0
   ·obtain rfl : r = -1 := by omega
    exact tl151
   ·exact tl151
end Go.Proofs.YtgdcgjlmkmdklaaGreatDoor

namespace Go.Proofs.YtgdcgjlmkmdklaaGreatDoor
open Go.ChangeShapes Go.WideShapes Go.ChangeAt Go.RowKit
set_option linter.unusedVariables false
set_option linter.unusedSimpArgs false
structure Rw (w : World) (B n : Nat) : Prop where
 ex : ∃ t f, w.rowIs B t n f
theorem Rw.at {w : World} {B n j : Nat} (h : Rw w B n) (hj : j < n) : ∃ z, At w B j z ∧ w.frozen? ⟨B, j, none⟩ = false := by
 obtain ⟨t, f, r⟩ := h.ex
 exact ⟨f j, r.cell hj, r.frozen j⟩
theorem Rw.set {w : World} {B n : Nat} (h : Rw w B n) (k : Nat) (x : Value) : Rw (w.setCell ⟨B, k, none⟩ x) B n := by
 obtain ⟨t, f, r⟩ := h.ex
 exact ⟨t, _, r.set k x⟩
theorem Rw.lt {w : World} {B n : Nat} (h : Rw w B n) : B < w.heap.size := by
 obtain ⟨t, f, r⟩ := h.ex
 exact r.lt
theorem Rw.keep {w w' : World} {B n : Nat} (h : Rw w B n) (hb : Below w.heap.size w w') : Rw w' B n := by
 have l := h.lt
 obtain ⟨t, f, r⟩ := h.ex
 exact ⟨t, f, r.of_block (hb.block _ l)⟩
theorem set_same {w : World} {B n k : Nat} (h : Rw w B n) (hk : k < n) (x : Value) : At (w.setCell ⟨B, k, none⟩ x) B k x := by
 obtain ⟨z, c, _⟩ := h.at hk
 exact World.cell?_setCell_same _ _ _ c
theorem set_other {w : World} {B k b o : Nat} {v x : Value} (h : At w b o v) (hn : b ≠ B ∨ o ≠ k) : At (w.setCell ⟨B, k, none⟩ x) b o v := by
 show World.cell? _ _ = _
 rw [World.cell?_setCell_other _ _ _ _ (by intro e; injection e; omega)]
 exact h
structure Unf (lo : Nat) (w : World) : Prop where
 out : ∀ b o, lo ≤ b → b < w.heap.size → w.frozen? ⟨b, o, none⟩ = false
theorem Unf.top (w : World) : Unf w.heap.size w := ⟨fun b o h1 h2 => absurd h2 (by omega)⟩
theorem Unf.more {lo : Nat} {w : World} {O : Obj} {n : Nat} (h : Unf lo w) (r : Rw (w.alloc O) w.heap.size n) : Unf lo (w.alloc O) := ⟨fun b o h1 h2 => by
 by_cases e : b < w.heap.size
 ·rw [(bel_alloc w O).frozen (p := ⟨b, o, none⟩) e]
  exact h.out b o h1 e
 ·rw [World.size_alloc] at h2
  obtain rfl : b = w.heap.size := by omega
  obtain ⟨t, f, q⟩ := r.ex
  exact q.frozen o⟩
theorem Unf.new {w : World} {O : Obj} {n : Nat} (r : Rw (w.alloc O) w.heap.size n) : Unf w.heap.size (w.alloc O) := (Unf.top w).more r
theorem Unf.set {lo : Nat} {w : World} (h : Unf lo w) (b k : Nat) (x : Value) : Unf lo (w.setCell ⟨b, k, none⟩ x) := ⟨fun b' o h1 h2 => by
 rw [World.frozen?_setCell]
 exact h.out b' o h1 (by rwa [World.size_setCell] at h2)⟩
theorem Unf.call {lo : Nat} {w w' : World} (h : Unf lo w) (hb : Below w.heap.size w w') (hu : Unf w.heap.size w') : Unf lo w' := ⟨fun b o h1 h2 => by
 by_cases e : b < w.heap.size
 ·rw [hb.frozen (p := ⟨b, o, none⟩) e]
  exact h.out b o h1 e
 ·exact hu.out b o (by omega) h2⟩
theorem al_rw (w : World) (arr : Array Value) (t : TypeId) : Rw (w.alloc (.cells arr t)) w.heap.size arr.size :=
 ⟨_, _, World.rowIs_alloc w arr t (fun j => arr.getD j undef) (fun j hj => by simp [Array.getD, hj])⟩
theorem Unf.cells {lo : Nat} {w : World} (h : Unf lo w) (arr : Array Value) (t : TypeId) : Unf lo (w.alloc (.cells arr t)) := h.more (al_rw w arr t)
theorem mk_row (T E : TypeId) (z : Value) (sz bytes : Nat) (ht : Tryz.prog.underlying T = some (.slice E)) (hinfo : (Tryz.prog.info? E).map (fun i => (i.zero, i.size, i.bytes)) = some (some z, sz, bytes))
  (n : Nat) (hb : bytes * n ≤ 281474976710656) (h63 : n ≤ 9223372036854775807) :
  ∃ O : Obj, (∀ W : World, (Instr.makeSlice T (.int .i64 (n : Int)) (.int .i64 (n : Int))).run Tryz.prog W = .ok (.slice (some ⟨W.heap.size, 0, none⟩) n n) (W.alloc O)) ∧ ∀ W : World, Rw (W.alloc O) W.heap.size (n * sz) := by
 obtain ⟨i, hi, hzz⟩ := Option.map_eq_some_iff.1 hinfo
 simp only [Prod.mk.injEq] at hzz
 obtain ⟨hz, hs, hbb⟩ := hzz
 refine ⟨.cells (madeCells z.cells (n * sz)) E, fun W => ?_, fun W => ?_⟩
 ·have hb' : (i.bytes : Int) * (n : Int) ≤ 281474976710656 := by
   have h : ((i.bytes * n : Nat) : Int) ≤ 281474976710656 := by rw [hbb]; omega
   rwa [Int.natCast_mul] at h
  have hr := run_make (P := Tryz.prog) W T E i z ht hi hz .i64 .i64 n n (by omega) (Int.le_refl _) hb' (by omega)
  simp only [Int.toNat_natCast, hs] at hr
  exact hr
 ·have e := size_madeCells z.cells (n * sz)
  have r := World.rowIs_alloc W (madeCells z.cells (n * sz)) E (fun j => (madeCells z.cells (n * sz)).getD j undef) (fun j hj => by simp [Array.getD, hj])
  rw [e] at r
  exact ⟨_, _, r⟩
theorem list_at {α : Type} {xs : List α} {n j : Nat} (h : j < (xs.take n).length) (hx : j < xs.length) : (xs.take n)[j] = xs[j] := List.getElem_take
set_option maxRecDepth 100000 in
set_option maxHeartbeats 2000000 in
theorem toInts (v : Value) (xs : List Int) (w : World) {lo : Nat} (h : Ints lo .i64 w v xs) (hn : xs.length ≤ 1048576) :
  Calls Tryz.prog 94 #[v] w fun e w' => ∃ v', e = .returned v' ∧ Ints w.heap.size .i64 w' v' xs ∧ Below w.heap.size w w' ∧ Unf w.heap.size w' := by
 obtain ⟨b, o, ⟨⟨a, cap, rfl, h1, h2⟩, h3⟩, -, hc⟩ := h.ex
 have g1 : (xs.length : Int) ≤ 1048576 := by omega
 obtain ⟨O, hmk, hrw⟩ := mk_row 50 2 (.int .i64 0) 1 8 Tryz.underlying50 (by kernel_rfl) xs.length (by omega) (by omega)
 have HR : Kp (∀ W : World, Rw (W.alloc O) W.heap.size (xs.length * 1)) := ⟨hrw⟩
 clear hrw
 go_enter Tryz.func94, Tryz.ntmps94
 go_wp2_with fail
 go_loopw [4] (fun s wr => ∃ i : Nat, i ≤ xs.length ∧ s = .int .i64 i ∧ Below w.heap.size w wr ∧ Unf w.heap.size wr ∧ Rw wr w.heap.size (xs.length * 1) ∧ ∀ j (hj : j < xs.length), j < i → At wr w.heap.size j (.int .i64 xs[j])) (fun s _ => xs.length - (intOf s).toNat)
 case atStart => exact ⟨0, Nat.zero_le _, rfl, bel_alloc _ _, Unf.new (HR.out w), HR.out w, fun j _ hj => absurd hj (Nat.not_lt_zero _)⟩
 case round =>
  exact tl15
set_option maxRecDepth 100000 in
set_option maxHeartbeats 2000000 in
theorem toWords (v : Value) (xs : List Int) (w : World) {lo : Nat} (h : Ints lo .u64 w v xs) (hn : xs.length ≤ 1048576) :
  Calls Tryz.prog 180 #[v] w fun e w' => ∃ v', e = .returned v' ∧ Ints w.heap.size .u64 w' v' xs ∧ Below w.heap.size w w' ∧ Unf w.heap.size w' := by
 obtain ⟨b, o, ⟨⟨a, cap, rfl, h1, h2⟩, h3⟩, -, hc⟩ := h.ex
 have g1 : (xs.length : Int) ≤ 1048576 := by omega
 obtain ⟨O, hmk, hrw⟩ := mk_row 71 119 (.int .u64 0) 1 8 Tryz.underlying71 (by kernel_rfl) xs.length (by omega) (by omega)
 have HR : Kp (∀ W : World, Rw (W.alloc O) W.heap.size (xs.length * 1)) := ⟨hrw⟩
 clear hrw
 go_enter Tryz.func180, Tryz.ntmps180
 go_wp2_with fail
 go_loopw [4] (fun s wr => ∃ i : Nat, i ≤ xs.length ∧ s = .int .i64 i ∧ Below w.heap.size w wr ∧ Unf w.heap.size wr ∧ Rw wr w.heap.size (xs.length * 1) ∧ ∀ j (hj : j < xs.length), j < i → At wr w.heap.size j (.int .u64 xs[j])) (fun s _ => xs.length - (intOf s).toNat)
 case atStart => exact ⟨0, Nat.zero_le _, rfl, bel_alloc _ _, Unf.new (HR.out w), HR.out w, fun j _ hj => absurd hj (Nat.not_lt_zero _)⟩
 case round =>
  exact tl15
set_option maxRecDepth 100000 in
set_option maxHeartbeats 2000000 in
theorem toOp (k t i x : Int) (w : World) :
  Calls Tryz.prog 185 #[.agg #[.int .i64 k, .int .i64 t, .int .i64 i, .int .u64 x]] w fun e w' => e = .returned (.agg #[.int .i64 k, .int .i64 t, .int .i64 i, .int .u64 x]) ∧ Below w.heap.size w w' ∧ Unf w.heap.size w' := by
 go_enter Tryz.func185, Tryz.ntmps185
 go_wp2_with fail
 exact bodyPost_ret (v := .agg #[.int .i64 k, .int .i64 t, .int .i64 i, .int .u64 x]) (by simp [results, Tryz.results185, go_sem]) rfl ⟨rfl, bel_trans (bel_trans (bel_alloc _ _) (bel_alloc _ _)) (bel_alloc _ _), (((Unf.top w).cells _ _).cells _ _).cells _ _⟩
end Go.Proofs.YtgdcgjlmkmdklaaGreatDoor

namespace Go.Proofs.YtgdcgjlmkmdklaaGreatDoor
open Go.ChangeShapes Go.WideShapes Go.ChangeAt Go.RowKit
set_option linter.unusedVariables false
set_option linter.unusedSimpArgs false
theorem put4 {w : World} {B n i : Nat} (h : Rw w B n) (hi : i + 3 < n) (d : OpD) :
  OpAt ((((w.setCell ⟨B, i, none⟩ (.int .i64 d.k)).setCell ⟨B, i + 1, none⟩ (.int .i64 d.t)).setCell ⟨B, i + 2, none⟩ (.int .i64 d.i)).setCell ⟨B, i + 3, none⟩ (.int .u64 d.w)) B i d ∧
  Rw ((((w.setCell ⟨B, i, none⟩ (.int .i64 d.k)).setCell ⟨B, i + 1, none⟩ (.int .i64 d.t)).setCell ⟨B, i + 2, none⟩ (.int .i64 d.i)).setCell ⟨B, i + 3, none⟩ (.int .u64 d.w)) B n ∧
  ∀ b o v, At w b o v → (b ≠ B ∨ o < i ∨ i + 3 < o) → At ((((w.setCell ⟨B, i, none⟩ (.int .i64 d.k)).setCell ⟨B, i + 1, none⟩ (.int .i64 d.t)).setCell ⟨B, i + 2, none⟩ (.int .i64 d.i)).setCell ⟨B, i + 3, none⟩ (.int .u64 d.w)) b o v := by
 have h1 := h.set i (.int .i64 d.k)
 have h2 := h1.set (i + 1) (.int .i64 d.t)
 have h3 := h2.set (i + 2) (.int .i64 d.i)
 refine ⟨⟨?_, ?_, ?_, ?_⟩, h3.set _ _, fun b o v q hn => ?_⟩
 ·exact set_other (set_other (set_other (set_same h (by omega) _) (by omega)) (by omega)) (by omega)
 ·exact set_other (set_other (set_same h1 (by omega) _) (by omega)) (by omega)
 ·exact set_other (set_same h2 (by omega) _) (by omega)
 ·exact set_same h3 (by omega) _
 ·exact set_other (set_other (set_other (set_other q (by omega)) (by omega)) (by omega)) (by omega)
set_option maxRecDepth 100000 in
set_option maxHeartbeats 2000000 in
theorem toOps (v : Value) (xs : List OpD) (w : World) {lo : Nat} (h : Ops lo w v xs) (hn : xs.length ≤ 1048576) :
  Calls Tryz.prog 179 #[v] w fun e w' => ∃ v', e = .returned v' ∧ Ops w.heap.size w' v' xs ∧ Below w.heap.size w w' ∧ Unf w.heap.size w' := by
 obtain ⟨b, o, ⟨⟨a, cap, rfl, h1, h2⟩, h3⟩, -, hc⟩ := h.ex
 have g1 : (xs.length : Int) ≤ 1048576 := by omega
 obtain ⟨O, hmk, hrw⟩ := mk_row 70 135 (.agg #[.int .i64 0, .int .i64 0, .int .i64 0, .int .u64 0]) 4 32 Tryz.underlying70 (by kernel_rfl) xs.length (by omega) (by omega)
 have HR : Kp (∀ W : World, Rw (W.alloc O) W.heap.size (xs.length * 4)) := ⟨hrw⟩
 clear hrw
 go_enter Tryz.func179, Tryz.ntmps179
 go_wp2_with fail
 go_loopw [4] (fun s wr => ∃ i : Nat, i ≤ xs.length ∧ s = .int .i64 i ∧ Below w.heap.size w wr ∧ Unf w.heap.size wr ∧ Rw wr w.heap.size (xs.length * 4) ∧ ∀ j (hj : j < xs.length), j < i → OpAt wr w.heap.size (j * 4) xs[j]) (fun s _ => xs.length - (intOf s).toNat)
 case atStart => exact ⟨0, Nat.zero_le _, rfl, bel_alloc _ _, Unf.new (HR.out w), HR.out w, fun j _ hj => absurd hj (Nat.not_lt_zero _)⟩
 case round =>
  obtain ⟨i, hi, rfl, hB, hU, hR, hd⟩ := hrel
  have HD : Kp _ := ⟨hd⟩
  clear hd
  by_cases hlt : i < xs.length
  ·have ha := h2 (by omega)
   subst ha
   obtain ⟨c0, c1, c2, c3⟩ := (hc i hlt).keep hB
   obtain ⟨d, hd⟩ : ∃ d, Kp (xs[i] = d) := ⟨_, ⟨rfl⟩⟩
   rw [hd.out] at c0 c1 c2 c3
   clear hc
   go_wp2_with fail
   refine (toOp _ _ _ _ _).mono ?_
   rintro e w1 ⟨rfl, hb1, hu1⟩
   have hU1 := hU.call hb1 hu1
   have hR1 := hR.keep hb1
   obtain ⟨z0, cz0, fz0⟩ := hR1.at (j := i * 4) (by omega)
   obtain ⟨z1, cz1, fz1⟩ := hR1.at (j := i * 4 + 1) (by omega)
   obtain ⟨z2, cz2, fz2⟩ := hR1.at (j := i * 4 + 2) (by omega)
   obtain ⟨z3, cz3, fz3⟩ := hR1.at (j := i * 4 + 3) (by omega)
   go_wp2_with fail
   have P := put4 hR1 (i := i * 4) (by omega) d
   refine ⟨⟨i + 1, by omega, by go_num, ?_, (((hU1.set _ _ _).set _ _ _).set _ _ _).set _ _ _, P.2.1, fun j hj hji => ?_⟩, by simp [intOf]; omega⟩
   ·have hB1 := bel_trans hB hb1
    exact (((hB1.setCell (Nat.le_refl _) _).setCell (Nat.le_refl _) _).setCell (Nat.le_refl _) _).setCell (Nat.le_refl _) _
   ·by_cases e : j = i
    ·subst e
     rw [hd.out]
     exact P.1
    ·have q := (HD.out j hj (by omega)).keep hb1
     exact ⟨P.2.2 _ _ _ q.c0 (by omega), P.2.2 _ _ _ q.c1 (by omega), P.2.2 _ _ _ q.c2 (by omega), P.2.2 _ _ _ q.c3 (by omega)⟩
  ·exact tl152
end Go.Proofs.YtgdcgjlmkmdklaaGreatDoor
