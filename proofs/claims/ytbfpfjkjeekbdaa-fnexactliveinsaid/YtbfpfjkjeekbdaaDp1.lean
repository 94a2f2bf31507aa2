/- The data of a function of a module, and where it lies in memory; contracts of the laws' helpers that count it. -/
import Derived.Test.YtbfpfjkjeekbdaaRows
import Derived.WalkKit
import Derived.ProofKit
import Derived.OpenShut
import Derived.WalkLawsBesides
import Derived.Below
import Derived.BigQuiet
import Derived.Lib.QuietBelow
import Derived.Lib.AtoiErrMem
namespace Go.Proofs.Ytbfpfjkjeekbdaa
open Go.ChangeShapes Go.WideShapes Go.ChangeAt Go.RowKit
open Go.Sort (grow)
set_option linter.unusedVariables false
set_option linter.unusedSimpArgs false
theorem bel_trans {a b c : World} (h : Below a.heap.size a b) (k : Below b.heap.size b c) : Below a.heap.size a c := h.trans (k.mono h.size)
theorem bel_alloc (w : World) (o : Obj) : Below w.heap.size w (w.alloc o) := (Below.refl _ _).alloc (Nat.le_refl _) o
theorem ret_int {k : IntKind} {a b : Int} (h : a = b) : Ending.returned (.int k a) = .returned (.int k b) := by rw [h]
theorem ret_bool {a b : Bool} (h : a = b) : Ending.returned (.bool a) = .returned (.bool b) := by rw [h]
/-- A fact that the walk does not take for a rule. -/
structure Kp (p : Prop) : Prop where
  out : p
structure OpD where
  k : Int
  t : Int
  i : Int
  w : Int
structure InD where
  op : Int
  ty : Int
  fl : Int
  pr : Int
  ca : Int
  sz : Int
  args : List OpD
  bl : List Int
  ws : List Int
structure FnD where
  name : ByteArray
  link : Int
  params : List Int
  res : Int
  blocks : List (List InD)
instance : Inhabited OpD := ⟨⟨0, 0, 0, 0⟩⟩
instance : Inhabited InD := ⟨⟨0, 0, 0, 0, 0, 0, [], [], []⟩⟩
/-- A slice's value: n elements from an address on; nil, or whatever, where there is none. -/
structure Sl (v : Value) (n : Nat) (b o : Nat) : Prop where
  ex : ∃ a cap, v = .slice a n cap ∧ n ≤ cap ∧ (0 < n → a = some ⟨b, o, none⟩)
  le : n ≤ 140737488355328
/-- The cell at a place. -/
abbrev At (w : World) (b o : Nat) (v : Value) : Prop := w.cell? ⟨b, o, none⟩ = some v
theorem at_keep {w w' : World} {b o : Nat} {v : Value} (h : At w b o v) (hb : Below w.heap.size w w') : At w' b o v := by
  have l := Lib.lt_of_cell h
  exact (hb.cell (p := ⟨b, o, none⟩) l).trans h
/-- From the block lo on what lay in w lies in w'. -/
def Keeps (lo : Nat) (w w' : World) : Prop := ∀ b o v, lo ≤ b → At w b o v → At w' b o v
theorem keeps_below {lo : Nat} {w w' : World} (hb : Below w.heap.size w w') : Keeps lo w w' := fun b o v _ h => at_keep h hb
theorem Keeps.trans {lo : Nat} {a b c : World} (h : Keeps lo a b) (k : Keeps lo b c) : Keeps lo a c := fun x o v l q => k x o v l (h x o v l q)
theorem keeps_set {lo B k : Nat} {w : World} {x : Value} (h : B < lo) : Keeps lo w (w.setCell ⟨B, k, none⟩ x) := fun b o v l q => by
  show World.cell? _ _ = _
  rw [World.cell?_setCell_other _ _ _ _ (by intro e; injection e; omega)]
  exact q
/-- A row of whole numbers, in blocks from lo on. -/
structure Ints (lo : Nat) (k : IntKind) (w : World) (v : Value) (xs : List Int) : Prop where
  ex : ∃ b o, Sl v xs.length b o ∧ lo ≤ b ∧ ∀ i (h : i < xs.length), At w b (o + i) (.int k xs[i])
theorem Ints.mono {lo l2 : Nat} {k : IntKind} {w w' : World} {v : Value} {xs : List Int} (h : Ints lo k w v xs) (hl : l2 ≤ lo) (hk : Keeps lo w w') : Ints l2 k w' v xs := by
  obtain ⟨b, o, s, l, c⟩ := h.ex
  exact ⟨b, o, s, by omega, fun i hi => hk _ _ _ l (c i hi)⟩
theorem Ints.keep {lo : Nat} {k : IntKind} {w w' : World} {v : Value} {xs : List Int} (h : Ints lo k w v xs) (hb : Below w.heap.size w w') : Ints lo k w' v xs := h.mono (Nat.le_refl _) (keeps_below hb)
/-- Four cells: an operand. -/
structure OpAt (w : World) (b o : Nat) (d : OpD) : Prop where
  c0 : At w b o (.int .i64 d.k)
  c1 : At w b (o + 1) (.int .i64 d.t)
  c2 : At w b (o + 2) (.int .i64 d.i)
  c3 : At w b (o + 3) (.int .u64 d.w)
theorem OpAt.mono {lo : Nat} {w w' : World} {b o : Nat} {d : OpD} (h : OpAt w b o d) (l : lo ≤ b) (hk : Keeps lo w w') : OpAt w' b o d :=
  ⟨hk _ _ _ l h.c0, hk _ _ _ l h.c1, hk _ _ _ l h.c2, hk _ _ _ l h.c3⟩
theorem OpAt.keep {w w' : World} {b o : Nat} {d : OpD} (h : OpAt w b o d) (hb : Below w.heap.size w w') : OpAt w' b o d := h.mono (Nat.zero_le _) (keeps_below hb)
structure Ops (lo : Nat) (w : World) (v : Value) (xs : List OpD) : Prop where
  ex : ∃ b o, Sl v xs.length b o ∧ lo ≤ b ∧ ∀ i (h : i < xs.length), OpAt w b (o + i * 4) xs[i]
theorem Ops.mono {lo l2 : Nat} {w w' : World} {v : Value} {xs : List OpD} (h : Ops lo w v xs) (hl : l2 ≤ lo) (hk : Keeps lo w w') : Ops l2 w' v xs := by
  obtain ⟨b, o, s, l, c⟩ := h.ex
  exact ⟨b, o, s, by omega, fun i hi => (c i hi).mono l hk⟩
theorem Ops.keep {lo : Nat} {w w' : World} {v : Value} {xs : List OpD} (h : Ops lo w v xs) (hb : Below w.heap.size w w') : Ops lo w' v xs := h.mono (Nat.le_refl _) (keeps_below hb)
/-- The three lists of an instruction. -/
structure InV (lo : Nat) (w : World) (va vb vw : Value) (d : InD) : Prop where
  a : Ops lo w va d.args
  b : Ints lo .i64 w vb d.bl
  c : Ints lo .u64 w vw d.ws
theorem InV.mono {lo l2 : Nat} {w w' : World} {va vb vw : Value} {d : InD} (h : InV lo w va vb vw d) (hl : l2 ≤ lo) (hk : Keeps lo w w') : InV l2 w' va vb vw d := ⟨h.a.mono hl hk, h.b.mono hl hk, h.c.mono hl hk⟩
theorem InV.keep {lo : Nat} {w w' : World} {va vb vw : Value} {d : InD} (h : InV lo w va vb vw d) (hb : Below w.heap.size w w') : InV lo w' va vb vw d := h.mono (Nat.le_refl _) (keeps_below hb)
/-- An instruction as a value. -/
abbrev inV (d : InD) (va vb vw : Value) : Value := .agg #[.int .i64 d.op, .int .i64 d.ty, .int .i64 d.fl, .int .i64 d.pr, .int .i64 d.ca, .int .i64 d.sz, va, vb, vw]
/-- Nine cells: an instruction; its lists lie in blocks from lo on. -/
structure InAt (lo : Nat) (w : World) (b o : Nat) (d : InD) (va vb vw : Value) : Prop where
  c0 : At w b o (.int .i64 d.op)
  c1 : At w b (o + 1) (.int .i64 d.ty)
  c2 : At w b (o + 2) (.int .i64 d.fl)
  c3 : At w b (o + 3) (.int .i64 d.pr)
  c4 : At w b (o + 4) (.int .i64 d.ca)
  c5 : At w b (o + 5) (.int .i64 d.sz)
  c6 : At w b (o + 6) va
  c7 : At w b (o + 7) vb
  c8 : At w b (o + 8) vw
  l : InV lo w va vb vw d
theorem InAt.mono {lo l2 : Nat} {w w' : World} {b o : Nat} {d : InD} {va vb vw : Value} (h : InAt lo w b o d va vb vw) (l : l2 ≤ b) (hl : l2 ≤ lo) (hk : Keeps l2 w w') : InAt l2 w' b o d va vb vw :=
  ⟨hk _ _ _ l h.c0, hk _ _ _ l h.c1, hk _ _ _ l h.c2, hk _ _ _ l h.c3, hk _ _ _ l h.c4, hk _ _ _ l h.c5, hk _ _ _ l h.c6, hk _ _ _ l h.c7, hk _ _ _ l h.c8, h.l.mono hl (fun b o v q => hk b o v (Nat.le_trans hl q))⟩
theorem InAt.keep {lo : Nat} {w w' : World} {b o : Nat} {d : InD} {va vb vw : Value} (h : InAt lo w b o d va vb vw) (hb : Below w.heap.size w w') : InAt lo w' b o d va vb vw :=
  ⟨at_keep h.c0 hb, at_keep h.c1 hb, at_keep h.c2 hb, at_keep h.c3 hb, at_keep h.c4 hb, at_keep h.c5 hb, at_keep h.c6 hb, at_keep h.c7 hb, at_keep h.c8 hb, h.l.keep hb⟩
structure Ins (lo : Nat) (w : World) (v : Value) (xs : List InD) : Prop where
  ex : ∃ b o, Sl v xs.length b o ∧ lo ≤ b ∧ ∀ i (h : i < xs.length), ∃ va vb vw, InAt lo w b (o + i * 9) xs[i] va vb vw
theorem Ins.mono {lo l2 : Nat} {w w' : World} {v : Value} {xs : List InD} (h : Ins lo w v xs) (hl : l2 ≤ lo) (hk : Keeps lo w w') : Ins l2 w' v xs := by
  obtain ⟨b, o, s, l, c⟩ := h.ex
  refine ⟨b, o, s, by omega, fun i hi => ?_⟩
  obtain ⟨va, vb, vw, q⟩ := c i hi
  have q' := q.mono l (Nat.le_refl _) hk
  exact ⟨va, vb, vw, ⟨q'.c0, q'.c1, q'.c2, q'.c3, q'.c4, q'.c5, q'.c6, q'.c7, q'.c8, q'.l.mono hl (fun _ _ _ _ h => h)⟩⟩
theorem Ins.keep {lo : Nat} {w w' : World} {v : Value} {xs : List InD} (h : Ins lo w v xs) (hb : Below w.heap.size w w') : Ins lo w' v xs := h.mono (Nat.le_refl _) (keeps_below hb)
structure Bls (lo : Nat) (w : World) (v : Value) (xs : List (List InD)) : Prop where
  ex : ∃ b o, Sl v xs.length b o ∧ lo ≤ b ∧ ∀ i (h : i < xs.length), ∃ vi, At w b (o + i) vi ∧ Ins lo w vi xs[i]
theorem Bls.mono {lo l2 : Nat} {w w' : World} {v : Value} {xs : List (List InD)} (h : Bls lo w v xs) (hl : l2 ≤ lo) (hk : Keeps lo w w') : Bls l2 w' v xs := by
  obtain ⟨b, o, s, l, c⟩ := h.ex
  refine ⟨b, o, s, by omega, fun i hi => ?_⟩
  obtain ⟨vi, q, r⟩ := c i hi
  exact ⟨vi, hk _ _ _ l q, r.mono hl hk⟩
theorem Bls.keep {lo : Nat} {w w' : World} {v : Value} {xs : List (List InD)} (h : Bls lo w v xs) (hb : Below w.heap.size w w') : Bls lo w' v xs := h.mono (Nat.le_refl _) (keeps_below hb)
/-- A function as a value. -/
abbrev fnV (d : FnD) (vp vb : Value) : Value := .agg #[.string d.name, .int .i64 d.link, vp, .int .i64 d.res, vb]
structure FnAt (lo : Nat) (w : World) (d : FnD) (vp vb : Value) : Prop where
  n : d.name.size ≤ 140737488355328
  p : Ints lo .i64 w vp d.params
  b : Bls lo w vb d.blocks
theorem FnAt.mono {lo l2 : Nat} {w w' : World} {d : FnD} {vp vb : Value} (h : FnAt lo w d vp vb) (hl : l2 ≤ lo) (hk : Keeps lo w w') : FnAt l2 w' d vp vb := ⟨h.n, h.p.mono hl hk, h.b.mono hl hk⟩
theorem FnAt.keep {lo : Nat} {w w' : World} {d : FnD} {vp vb : Value} (h : FnAt lo w d vp vb) (hb : Below w.heap.size w w') : FnAt lo w' d vp vb := h.mono (Nat.le_refl _) (keeps_below hb)
/-- What is left of a count. -/
def less (left n : Int) : Int := if left < n then -1 else left - n
theorem less_less {l a b : Int} (a0 : 0 ≤ a) (b0 : 0 ≤ b) (h : 0 ≤ less l a) : less (less l a) b = less l (a + b) := by
  unfold less at *; split at h <;> (repeat' split) <;> omega
theorem less_neg {l a b : Int} (a0 : 0 ≤ a) (b0 : 0 ≤ b) (h : less l a < 0) (l0 : 0 ≤ l) : less l (a + b) = -1 := by
  unfold less at *; split at h <;> (repeat' split) <;> omega
theorem less_bd {l a : Int} (a0 : 0 ≤ a) (l0 : 0 ≤ l) : -1 ≤ less l a ∧ less l a ≤ l := by
  unfold less; split <;> omega
def inN (d : InD) : Int := d.args.length + d.bl.length + d.ws.length
def insN (xs : List InD) : Int := (xs.map inN).sum
def blN (xs : List InD) : Int := xs.length + insN xs
def blsN (xs : List (List InD)) : Int := (xs.map blN).sum
def fnN (d : FnD) : Int := d.name.size + d.params.length + (d.blocks.length + blsN d.blocks)
set_option maxHeartbeats 1000000 in
theorem szInts (v : Value) (n b o : Nat) (l : Int) (w : World) (h : Sl v n b o) (l0 : 0 ≤ l) (l1 : l ≤ 1048576) :
    Calls Try.prog 22 #[v, .int .i64 l] w fun e w' => e = .returned (.int .i64 (less l n)) ∧ w' = w := by
  obtain ⟨⟨a, cap, rfl, h1, h2⟩, h3⟩ := h
  have g1 : (n : Int) ≤ 140737488355328 := by omega
  by_cases hl : l < n
  · have e : Kp (less l n = -1) := ⟨by unfold less; rw [if_pos hl]⟩
    have q : l - (n : Int) < 0 := by omega
    clear h2
    go_enter Try.func22, Try.ntmps22
    go_wp2
    go_ret
    exact ⟨by rw [e.out]; rfl, rfl⟩
  · have e : Kp (less l n = l - n) := ⟨by unfold less; rw [if_neg hl]⟩
    have q : ¬ l - (n : Int) < 0 := by omega
    clear h2
    go_enter Try.func22, Try.ntmps22
    go_wp2
    go_ret
    exact ⟨by rw [e.out]; rfl, rfl⟩
set_option maxHeartbeats 1000000 in
theorem szWords (v : Value) (n b o : Nat) (l : Int) (w : World) (h : Sl v n b o) (l0 : 0 ≤ l) (l1 : l ≤ 1048576) :
    Calls Try.prog 105 #[v, .int .i64 l] w fun e w' => e = .returned (.int .i64 (less l n)) ∧ w' = w := by
  obtain ⟨⟨a, cap, rfl, h1, h2⟩, h3⟩ := h
  have g1 : (n : Int) ≤ 140737488355328 := by omega
  by_cases hl : l < n
  · have e : Kp (less l n = -1) := ⟨by unfold less; rw [if_pos hl]⟩
    have q : l - (n : Int) < 0 := by omega
    clear h2
    go_enter Try.func105, Try.ntmps105
    go_wp2
    go_ret
    exact ⟨by rw [e.out]; rfl, rfl⟩
  · have e : Kp (less l n = l - n) := ⟨by unfold less; rw [if_neg hl]⟩
    have q : ¬ l - (n : Int) < 0 := by omega
    clear h2
    go_enter Try.func105, Try.ntmps105
    go_wp2
    go_ret
    exact ⟨by rw [e.out]; rfl, rfl⟩
set_option maxHeartbeats 1000000 in
theorem szOps (v : Value) (n b o : Nat) (l : Int) (w : World) (h : Sl v n b o) (l0 : 0 ≤ l) (l1 : l ≤ 1048576) :
    Calls Try.prog 104 #[v, .int .i64 l] w fun e w' => e = .returned (.int .i64 (less l n)) ∧ w' = w := by
  obtain ⟨⟨a, cap, rfl, h1, h2⟩, h3⟩ := h
  have g1 : (n : Int) ≤ 140737488355328 := by omega
  by_cases hl : l < n
  · have e : Kp (less l n = -1) := ⟨by unfold less; rw [if_pos hl]⟩
    have q : l - (n : Int) < 0 := by omega
    clear h2
    go_enter Try.func104, Try.ntmps104
    go_wp2
    go_ret
    exact ⟨by rw [e.out]; rfl, rfl⟩
  · have e : Kp (less l n = l - n) := ⟨by unfold less; rw [if_neg hl]⟩
    have q : ¬ l - (n : Int) < 0 := by omega
    clear h2
    go_enter Try.func104, Try.ntmps104
    go_wp2
    go_ret
    exact ⟨by rw [e.out]; rfl, rfl⟩
set_option maxRecDepth 100000 in
set_option maxHeartbeats 2000000 in
theorem szIn (d : InD) (va vb vw : Value) (l : Int) (w : World) {lo : Nat} (h : InV lo w va vb vw d) (l0 : 0 ≤ l) (l1 : l ≤ 1048576) :
    Calls Try.prog 84 #[inV d va vb vw, .int .i64 l] w fun e w' => e = .returned (.int .i64 (less l (inN d))) ∧ Below w.heap.size w w' := by
  obtain ⟨b1, o1, s1, -, -⟩ := h.a.ex
  obtain ⟨b2, o2, s2, -, -⟩ := h.b.ex
  obtain ⟨b3, o3, s3, -, -⟩ := h.c.ex
  have z1 : (0 : Int) ≤ d.args.length := by omega
  have z2 : (0 : Int) ≤ d.bl.length := by omega
  have z3 : (0 : Int) ≤ d.ws.length := by omega
  have C1 : Kp (∀ w, Calls Try.prog 104 #[va, .int .i64 l] w fun e w' => e = .returned (.int .i64 (less l d.args.length)) ∧ w' = w) := ⟨fun w => szOps va _ b1 o1 l w s1 l0 l1⟩
  have d1 := less_bd z1 l0
  by_cases q1 : less l d.args.length < 0
  · have e : Kp (less l (inN d) = -1) := ⟨by
      unfold inN
      rw [Int.add_assoc]
      exact less_neg z1 (by omega) q1 l0⟩
    generalize less l d.args.length = r1 at *
    go_enter Try.func84, Try.ntmps84
    go_wp2_with fail
    refine (C1.out _).mono ?_
    rintro e w' ⟨rfl, rfl⟩
    go_wp2_with fail
    go_ret
    exact ⟨by rw [e.out]; rfl, bel_alloc _ _⟩
  · have k1 : 0 ≤ less l d.args.length := by omega
    have L2 := less_less (l := l) z1 z2 k1
    have C2 : Kp (∀ w, Calls Try.prog 22 #[vb, .int .i64 (less l d.args.length)] w fun e w' => e = .returned (.int .i64 (less l (d.args.length + d.bl.length))) ∧ w' = w) := ⟨fun w => by
      have q := szInts vb _ b2 o2 (less l d.args.length) w s2 k1 (by omega)
      rw [L2] at q
      exact q⟩
    have z12 : (0 : Int) ≤ d.args.length + d.bl.length := by omega
    have d2 := less_bd z12 l0
    by_cases q2 : less l (d.args.length + d.bl.length) < 0
    · have e : Kp (less l (inN d) = -1) := ⟨less_neg z12 z3 q2 l0⟩
      clear L2
      generalize less l d.args.length = r1 at *
      generalize less l (d.args.length + d.bl.length) = r2 at *
      clear d1
      go_enter Try.func84, Try.ntmps84
      go_wp2_with fail
      refine (C1.out _).mono ?_
      rintro e w' ⟨rfl, rfl⟩
      go_wp2_with fail
      refine (C2.out _).mono ?_
      rintro e w' ⟨rfl, rfl⟩
      go_wp2_with fail
      go_ret
      exact ⟨by rw [e.out]; rfl, bel_alloc _ _⟩
    · have k2 : 0 ≤ less l (d.args.length + d.bl.length) := by omega
      have L3 := less_less (l := l) z12 z3 k2
      have C3 : Kp (∀ w, Calls Try.prog 105 #[vw, .int .i64 (less l (d.args.length + d.bl.length))] w fun e w' => e = .returned (.int .i64 (less l (inN d))) ∧ w' = w) := ⟨fun w => by
        have q := szWords vw _ b3 o3 (less l (d.args.length + d.bl.length)) w s3 k2 (by omega)
        rw [L3] at q
        exact q⟩
      have d3 := less_bd (a := inN d) (by unfold inN; omega) l0
      clear L2 L3 d1 d2
      generalize less l (inN d) = r3 at *
      generalize less l d.args.length = r1 at *
      generalize less l (d.args.length + d.bl.length) = r2 at *
      by_cases q3 : r3 < 0
      · have e : r3 = -1 := by omega
        subst e
        go_enter Try.func84, Try.ntmps84
        go_wp2_with fail
        refine (C1.out _).mono ?_
        rintro e w' ⟨rfl, rfl⟩
        go_wp2_with fail
        refine (C2.out _).mono ?_
        rintro e w' ⟨rfl, rfl⟩
        go_wp2_with fail
        refine (C3.out _).mono ?_
        rintro e w' ⟨rfl, rfl⟩
        go_wp2_with fail
        go_ret
        exact ⟨rfl, bel_alloc _ _⟩
      · go_enter Try.func84, Try.ntmps84
        go_wp2_with fail
        refine (C1.out _).mono ?_
        rintro e w' ⟨rfl, rfl⟩
        go_wp2_with fail
        refine (C2.out _).mono ?_
        rintro e w' ⟨rfl, rfl⟩
        go_wp2_with fail
        refine (C3.out _).mono ?_
        rintro e w' ⟨rfl, rfl⟩
        go_wp2_with fail
        go_ret
        exact ⟨rfl, bel_alloc _ _⟩
theorem insN_nn (xs : List InD) : 0 ≤ insN xs := by
  unfold insN
  induction xs with
  | nil => simp
  | cons d r ih => simp only [List.map_cons, List.sum_cons]; unfold inN at *; omega
theorem insN_snoc (xs : List InD) (i : Nat) (h : i < xs.length) : insN (xs.take (i + 1)) = insN (xs.take i) + inN xs[i] := by
  unfold insN
  rw [List.take_succ_eq_append_getElem h, List.map_append, List.sum_append]; simp
theorem insN_le (xs : List InD) (i : Nat) : insN (xs.take i) ≤ insN xs := by
  have e := congrArg insN (List.take_append_drop i xs)
  have := insN_nn (xs.drop i)
  unfold insN at *
  rw [List.map_append, List.sum_append] at e
  omega
theorem inN_nn (d : InD) : 0 ≤ inN d := by unfold inN; omega
set_option maxRecDepth 100000 in
set_option maxHeartbeats 2000000 in
theorem szInss (v : Value) (xs : List InD) (l : Int) (w : World) {lo : Nat} (h : Ins lo w v xs) (l0 : 0 ≤ l) (l1 : l ≤ 1048576) :
    Calls Try.prog 67 #[v, .int .i64 l] w fun e w' => e = .returned (.int .i64 (less l (blN xs))) ∧ Below w.heap.size w w' := by
  obtain ⟨b, o, ⟨⟨a, cap, rfl, h1, h2⟩, h3⟩, -, hc⟩ := h.ex
  have g1 : (xs.length : Int) ≤ 140737488355328 := by omega
  have n0 := insN_nn xs
  by_cases hl : l < xs.length
  · have e : Kp (less l (blN xs) = -1) := ⟨by unfold less blN; rw [if_pos (by omega)]⟩
    have q : l - (xs.length : Int) < 0 := by omega
    clear h2 hc
    go_enter Try.func67, Try.ntmps67
    go_wp2
    go_ret
    exact ⟨by rw [e.out]; rfl, Below.refl _ _⟩
  · have q : ¬ l - (xs.length : Int) < 0 := by omega
    go_enter Try.func67, Try.ntmps67
    go_wp2_with fail
    go_loopw [1, 5] (fun r s wr => ∃ i : Nat, i ≤ xs.length ∧ s = .int .i64 i ∧ r = .int .i64 (l - xs.length - insN (xs.take i)) ∧ insN (xs.take i) ≤ l - xs.length ∧ Below w.heap.size w wr) (fun _ s _ => xs.length - (intOf s).toNat)
    case atStart => exact ⟨0, Nat.zero_le _, rfl, by simp [insN], by simp [insN]; omega, Below.refl _ _⟩
    case round =>
      obtain ⟨i, hi, rfl, rfl, hle, hB⟩ := hrel
      by_cases hlt : i < xs.length
      · have ha := h2 (by omega)
        subst ha
        obtain ⟨va, vb, vw, H⟩ := hc i hlt
        have H' := H.keep hB
        obtain ⟨c0, c1, c2, c3, c4, c5, c6, c7, c8, hv⟩ := H'
        have hs := insN_snoc xs i hlt
        have nn := inN_nn xs[i]
        have n1 := insN_nn (xs.take i)
        have htk := insN_le xs (i + 1)
        have C : Kp (∀ w, InV lo w va vb vw xs[i] → ∀ l', 0 ≤ l' → l' ≤ 1048576 → Calls Try.prog 84 #[inV xs[i] va vb vw, .int .i64 l'] w fun e w' => e = .returned (.int .i64 (less l' (inN xs[i]))) ∧ Below w.heap.size w w') := ⟨fun w h l' a b => szIn _ va vb vw l' w h a b⟩
        have H2 : Kp (insN (xs.take (i + 1)) = insN (xs.take i) + inN xs[i]) := ⟨hs⟩
        by_cases hlt2 : l - xs.length - insN (xs.take i) < inN xs[i]
        · have e1 : less (l - xs.length - insN (xs.take i)) (inN xs[i]) = -1 := by unfold less; rw [if_pos hlt2]
          have e : Kp (less l (blN xs) = -1) := ⟨by unfold less blN; rw [if_pos (by omega)]⟩
          clear hs htk H2 hc
          generalize insN (xs.take i) = T at *
          generalize xs[i] = D at *
          have C1 : Kp _ := ⟨C.out wr hv (l - xs.length - T) (by omega) (by omega)⟩
          rw [e1] at C1
          clear e1 C
          go_wp2_with fail
          refine C1.out.mono ?_
          rintro e w1 ⟨rfl, hb1⟩
          go_wp2_with fail
          go_ret
          exact ⟨by rw [e.out]; rfl, bel_trans hB hb1⟩
        · have e1 : less (l - xs.length - insN (xs.take i)) (inN xs[i]) = l - xs.length - insN (xs.take (i + 1)) := by unfold less; rw [if_neg hlt2]; omega
          have q2 : ¬ l - xs.length - insN (xs.take (i + 1)) < 0 := by omega
          have q3 : insN (xs.take (i + 1)) ≤ l - xs.length := by omega
          clear hs htk H2 hc hlt2
          have C1 : Kp _ := ⟨C.out wr hv (l - xs.length - insN (xs.take i)) (by omega) (by omega)⟩
          rw [e1] at C1
          clear e1 C nn
          generalize hT2 : insN (xs.take (i + 1)) = T2 at *
          generalize insN (xs.take i) = T at *
          generalize xs[i] = D at *
          have HT2 : Kp _ := ⟨hT2⟩
          clear hT2
          go_wp2_with fail
          refine C1.out.mono ?_
          rintro e w1 ⟨rfl, hb1⟩
          go_wp2_with fail
          refine ⟨⟨i + 1, by omega, by go_num, ?_, ?_, bel_trans hB hb1⟩, by simp [intOf]; omega⟩
          · rw [HT2.out]
          · rw [HT2.out]; exact q3
      · have e0 : i = xs.length := by omega
        have et : insN (xs.take i) = insN xs := by rw [e0, List.take_length]
        have e : Kp (less l (blN xs) = l - xs.length - insN xs) := ⟨by unfold less blN; rw [if_neg (by omega)]; omega⟩
        rw [et]
        clear et h2 hc hle n0
        generalize insN xs = T at *
        go_wp2_with fail
        go_ret
        exact ⟨by rw [e.out]; rfl, hB⟩
end Go.Proofs.Ytbfpfjkjeekbdaa
