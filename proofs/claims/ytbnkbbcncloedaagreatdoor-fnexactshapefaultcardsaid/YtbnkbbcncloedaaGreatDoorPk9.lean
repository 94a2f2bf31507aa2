/- The packed texts Sf0, Ix, Sf1, Bnd. -/
import Derived.Test.YtbnkbbcncloedaaGreatDoorRows
import Derived.WalkKit
import Derived.ProofKit
import Derived.OpenShut
import Derived.WalkLawsBesides
import Derived.Below
import Derived.BigQuiet
import Derived.Lib.QuietBelow
import Derived.Lib.AtoiErrMem
import Derived.Deep.OwnRows
import Derived.Deep.DeepCutAuto
import Derived.RangeFuncNested
import Derived.RangeFuncBound
import Derived.RangeFuncCalls
import Derived.RangeFuncLeaves
import Derived.OwnWalkIn
import Derived.TacticsInMore
import Derived.LoopNIn
import Derived.LoopIn
import Derived.Shelf.Abstract
import Derived.Maps.AppendAt
import Derived.OwnWalk
import Derived.Lib.LaidTab
import Derived.Laws.BitsAllLaws
import Derived.Laws.Closers25b
import Derived.Test.YtbnkbbcncloedaaGreatDoorPk1
import Derived.Test.YtbnkbbcncloedaaGreatDoorPk3
import Derived.Test.YtbnkbbcncloedaaGreatDoorPk4
import Derived.Test.YtbnkbbcncloedaaGreatDoorPk5
import Derived.Test.YtbnkbbcncloedaaGreatDoorPk6
import Derived.Test.YtbnkbbcncloedaaGreatDoorPk7
import Derived.Test.YtbnkbbcncloedaaGreatDoorPk8
namespace Go.Proofs.YtbnkbbcncloedaaGreatDoor
section
set_option linter.unusedVariables false

set_option linter.unusedSimpArgs false

def firstF {α : Type} (p : Nat → Option α) : Nat → Option α
  | 0 => none
  | n + 1 => (firstF p n).or (p n)

theorem firstF_none {α : Type} {p : Nat → Option α} {n : Nat} (h : ∀ j, j < n → p j = none) : firstF p n = none := by
  induction n with
  | zero => rfl
  | succ n ih => rw [firstF, ih (fun j hj => h j (by omega)), h n (by omega)]; rfl

theorem firstF_hit {α : Type} {p : Nat → Option α} {n i : Nat} {v : α} (hi : i < n) (h : ∀ j, j < i → p j = none) (hv : p i = some v) : firstF p n = some v := by
  induction n with
  | zero => omega
  | succ n ih =>
    by_cases e : i = n
    · subst e; rw [firstF, firstF_none h, hv]; rfl
    · rw [firstF, ih (by omega)]; rfl

def opB (ng : Nat) (ts : List Int) (o : OpD) : Bool :=
  if o.k = 1 then decide (o.i = 0) && isW o.t o.w
  else if o.k = 2 then decide (o.t = 65) && decide (o.i = 0) && decide (o.w = 0)
  else if o.k = 3 then decide (o.i = 0) && decide (o.w = 0) && vtB o.t
  else if o.k = 4 then decide (o.w = 0) && (decide (0 ≤ o.i) && (decide (o.i < ts.length) && decide (ts.getD o.i.toNat 0 = o.t)))
  else if o.k = 5 then decide (o.w = 0) && decide (o.t = 65) && (decide (0 ≤ o.i) && decide (o.i < ng))
  else false

def tabB (op : Int) : Bool := decide (1 ≤ op ∧ op ≤ 18) || decide (20 ≤ op ∧ op ≤ 31)

def flgs (op : Int) : Int :=
  if op = 1 ∨ op = 2 ∨ op = 3 ∨ op = 8 then 3
  else if op = 4 ∨ op = 5 ∨ op = 9 ∨ op = 10 then 4
  else 0

def calD (fs : List FnD) (c : Int) : FnD := fs.getD c.toNat ⟨ByteArray.empty, 0, [], 0, []⟩

def difB : List Int → Bool
  | [] => true
  | x :: r => !r.contains x && difB r

def ownB (fs : List FnD) (bk : Int) (x : InD) : Bool :=
  if x.op ≤ 13 then vw x.ty
  else if x.op = 14 then decide (x.ty = 1) && (decide (1 ≤ x.pr) && decide (x.pr ≤ 10))
  else if x.op = 15 then vtB x.ty
  else if x.op ≤ 18 then vw x.ty
  else if x.op = 20 then vtB x.ty
  else if x.op = 21 then decide (x.ty = 65) && (decide (1 ≤ x.sz) && (decide (x.sz ≤ 256) && decide (bk = 0)))
  else if x.op = 22 then vtB x.ty
  else if x.op = 24 then decide (x.ty = 65)
  else if x.op = 25 then decide (0 ≤ x.ca) && (decide (x.ca < fs.length) && decide (x.ty = (calD fs x.ca).res))
  else if x.op = 29 then decide (x.ws.length ≤ 12) && (difB x.ws && decide (x.ty = 0))
  else decide (x.ty = 0)

def hdB (fs : List FnD) (bk : Int) (x : InD) : Bool :=
  decide (0 ≤ x.fl) && (decide (bits .andNot .i64 x.fl (flgs x.op) = 0) && ((decide (x.op = 14) || decide (x.pr = 0)) && ((decide (x.op = 25) || decide (x.ca = 0)) && ((decide (x.op = 21) || decide (x.sz = 0)) && ((decide (x.op = 29) || decide (x.ws.length = 0)) && ownB fs bk x)))))

def cntA (fs : List FnD) (f : FnD) (x : InD) : Int :=
  if x.op ≤ 14 then 2 else if x.op = 24 then 2 else if x.op = 23 then 2
  else if x.op = 15 then 3 else if x.op = 20 then -1 else if x.op = 21 then 0 else if x.op = 31 then 0
  else if x.op = 25 then ((calD fs x.ca).params.length : Int)
  else if x.op = 27 then 0 else if x.op = 28 then 1 else if x.op = 29 then 1
  else if x.op = 30 then (if f.res = 0 then 0 else 1)
  else 1

def cntT (x : InD) : Int :=
  if x.op = 20 then -1 else if x.op = 27 then 1 else if x.op = 28 then 2 else if x.op = 29 then (x.ws.length : Int) + 1 else 0

def cntB (fs : List FnD) (f : FnD) (x : InD) : Bool :=
  if x.op = 20 then decide (0 < x.args.length) && decide (x.args.length = x.bl.length)
  else decide ((x.args.length : Int) = cntA fs f x) && decide ((x.bl.length : Int) = cntT x)

def tgtB (f : FnD) (x : InD) : Bool := x.bl.all fun b => decide (0 ≤ b) && decide (b < f.blocks.length)

def wanB (fs : List FnD) (f : FnD) (x : InD) (k : Nat) (t : Int) : Bool :=
  if x.op = 14 then decide (t = (x.args.getD 0 default).t) && (vw t || (decide (t = 65) && decide (x.pr ≤ 2)))
  else if x.op = 15 then (decide (k = 0) && decide (t = 1)) || (decide (0 < k) && decide (t = x.ty))
  else if x.op = 16 then vw t && decide (t < x.ty)
  else if x.op = 17 then vw t && decide (t < x.ty)
  else if x.op = 18 then vw t && decide (x.ty < t)
  else if x.op = 22 then decide (t = 65)
  else if x.op = 23 then (decide (k = 0) && vtB t) || (decide (k = 1) && decide (t = 65))
  else if x.op = 24 then (decide (k = 0) && decide (t = 65)) || (decide (k = 1) && decide (t = 64))
  else if x.op = 25 then decide (t = (calD fs x.ca).params.getD k 0)
  else if x.op = 26 then decide (t = 64)
  else if x.op = 28 then decide (t = 1)
  else if x.op = 29 then vw t
  else if x.op = 30 then decide (t = f.res)
  else decide (t = x.ty)

def argB (ng : Nat) (ts : List Int) (fs : List FnD) (f : FnD) (x : InD) : Bool :=
  (List.range x.args.length).all fun k => opB ng ts (x.args.getD k default) && wanB fs f x k (x.args.getD k default).t

def casB (x : InD) : Bool := x.ws.all fun v => isW (x.args.getD 0 default).t v

def inF (ng : Nat) (ts : List Int) (fs : List FnD) (f : FnD) (bk : Int) (pre : List InD) (x : InD) : Int :=
  if tabB x.op = false then 5
  else if hdB fs bk x = false then 6
  else if cntB fs f x = false then 6
  else if tgtB f x = false then 7
  else if argB ng ts fs f x = false then 8
  else if casB x = false then 8
  else if (decide (x.op = 20) && pre.any fun y => decide (y.op ≠ 20)) = true then 9
  else 0

def atF (ng : Nat) (ts : List Int) (fs : List FnD) (f : FnD) (bk : Int) (xs : List InD) (i : Nat) : Int :=
  if endB (xs.getD i default).op = decide (i + 1 = xs.length) then inF ng ts fs f bk (xs.take i) (xs.getD i default) else 4

abbrev FtD := Int × Int × Int × Int

def blF (ng : Nat) (ts : List Int) (fs : List FnD) (f : FnD) (fn : Nat) (bk : Nat) (xs : List InD) : Option FtD :=
  if xs.length = 0 then some (4, fn, bk, -1)
  else firstF (fun i => if atF ng ts fs f bk xs i = 0 then none else some (atF ng ts fs f bk xs i, fn, bk, i)) xs.length

def tysD (f : FnD) : List Int := f.params ++ tysOf (blPl 0 f.blocks)

def boF (ng : Nat) (fs : List FnD) (f : FnD) (fn : Nat) : Option FtD :=
  firstF (fun b => blF ng (tysD f) fs f fn b (f.blocks.getD b [])) f.blocks.length

def alS (x : InD) : Int := if x.op = 21 ∧ 0 < x.sz then x.sz else 0

def smB (f : FnD) : Bool := decide (f.blocks.length ≤ 40) && (decide (f.blocks.flatten.length ≤ 256) && decide ((f.blocks.flatten.map alS).sum ≤ 512))

def gloB (gs : List GlD) (k : Nat) : Bool :=
  let g := gs.getD k ⟨ByteArray.empty, 0, false, 0, []⟩
  nmB g.name && (((gs.take k).all fun h => decide (h.name ≠ g.name)) && (decide (0 ≤ g.link) && (decide (g.link ≤ 3) && (decide (1 ≤ g.size) && (decide (g.size ≤ 256) && (decide ((g.bytes.length : Int) ≤ g.size) && (decide (g.link ≠ 0) || decide (g.bytes.length = 0))))))))

def sigB (f : FnD) : Bool := decide (f.params.length ≤ 6) && ((f.params.all vtB) && (decide (f.res = 0) || vtB f.res))

def heaB (gs : List GlD) (fs : List FnD) (k : Nat) : Bool :=
  let f := calD fs k
  nmB f.name && ((gs.all fun h => decide (h.name ≠ f.name)) && (((fs.take k).all fun h => decide (h.name ≠ f.name)) && (decide (0 ≤ f.link) && (decide (f.link ≤ 3) && (sigB f && (decide (decide (f.link = 0) = decide (f.blocks.length = 0)) && smB f))))))

def shF (gs : List GlD) (fs : List FnD) : FtD :=
  if 12 < gs.length ∨ 12 < fs.length then (1, -1, -1, -1)
  else ((firstF (fun i => if gloB gs i = true then none else some (2, -1, -1, (i : Int))) gs.length).or
    (firstF (fun k => if heaB gs fs k = true then boF gs.length fs (calD fs k) k else some (3, (k : Int), -1, -1)) fs.length)).getD (0, 0, 0, 0)
end
section
open Go.ChangeShapes Go.WideShapes Go.ChangeAt Go.RowKit

set_option linter.unusedVariables false

set_option linter.unusedSimpArgs false

def isIx (n : Int) (m : Nat) : Bool := decide (0 ≤ n) && decide (n < m)

set_option maxHeartbeats 1000000 in
theorem isIx_e (n : Int) (m : Nat) (w : World) (hm : m ≤ 140737488355328) :
    Calls Tryz.prog 55 #[.int .i64 n, .int .i64 m] w fun e w' => e = .returned (.bool (isIx n m)) ∧ w' = w := by
  have g1 : (m : Int) ≤ 140737488355328 := by omega
  unfold isIx
  by_cases h0 : 0 ≤ n
  · by_cases h1 : n < m
    · go_enter Tryz.func55, Tryz.ntmps55
      go_wp2_with fail
      go_ret
      exact ⟨by simp [h0, h1], rfl⟩
    · go_enter Tryz.func55, Tryz.ntmps55
      go_wp2_with fail
      go_ret
      exact ⟨by simp [h0, h1], rfl⟩
  · go_enter Tryz.func55, Tryz.ntmps55
    go_wp2_with fail
    go_ret
    exact ⟨by simp; omega, rfl⟩

theorem isIx_c (n : Int) (m : Nat) (w : World) (hm : m ≤ 140737488355328) :
    Calls Tryz.prog 55 #[.int .i64 n, .int .i64 m] w fun e w' => e = .returned (.bool (isIx n m)) ∧ Below w.heap.size w w' :=
  (isIx_e n m w hm).mono (fun _ _ h => ⟨h.1, by rw [h.2]; exact Below.refl _ _⟩)
end
section
open Go.ChangeShapes Go.WideShapes Go.ChangeAt Go.RowKit

set_option linter.unusedVariables false

set_option linter.unusedSimpArgs false

theorem nb {x k : Int} (h : ¬ x = k) : (x == k) = false := beq_eq_false_iff_ne.2 h

set_option maxHeartbeats 1000000 in
theorem flgsS (x : Int) (w : World) :
    Calls Tryz.prog 181 #[.int .i64 x] w fun e w' => e = .returned (.int .i64 (flgs x)) ∧ w' = w := by
  by_cases h : x = 1 ∨ x = 2 ∨ x = 3 ∨ x = 8 ∨ x = 4 ∨ x = 5 ∨ x = 9 ∨ x = 10
  · rcases h with rfl | rfl | rfl | rfl | rfl | rfl | rfl | rfl
    all_goals
      go_enter Tryz.func181, Tryz.ntmps181
      go_wp2
      go_ret
      exact ⟨rfl, rfl⟩
  · have G : Kp (flgs x = 0) := ⟨by unfold flgs; rw [if_neg (by omega), if_neg (by omega)]⟩
    have e1 := nb (x := x) (k := 1) (by omega)
    have e2 := nb (x := x) (k := 2) (by omega)
    have e3 := nb (x := x) (k := 3) (by omega)
    have e4 := nb (x := x) (k := 4) (by omega)
    have e5 := nb (x := x) (k := 5) (by omega)
    have e8 := nb (x := x) (k := 8) (by omega)
    have e9 := nb (x := x) (k := 9) (by omega)
    have e10 := nb (x := x) (k := 10) (by omega)
    clear h
    go_enter Tryz.func181, Tryz.ntmps181
    go_wp2
    go_ret
    exact ⟨ret_int G.out.symm, rfl⟩

def famN (x : Int) : Int :=
  if x = 1 ∨ x = 2 ∨ x = 3 then 1 else if x = 4 ∨ x = 6 then 2 else if x = 5 ∨ x = 7 then 3 else if x = 8 then 4 else if x = 9 ∨ x = 10 then 5 else if x = 11 ∨ x = 12 ∨ x = 13 then 6 else 0

set_option maxHeartbeats 1000000 in
theorem famI (x : Int) (w : World) :
    Calls Tryz.prog 188 #[.int .i64 x] w fun e w' => e = .returned (.int .i64 (famN x)) ∧ w' = w := by
  by_cases h : 1 ≤ x ∧ x ≤ 13
  · have h' : x = 1 ∨ x = 2 ∨ x = 3 ∨ x = 4 ∨ x = 5 ∨ x = 6 ∨ x = 7 ∨ x = 8 ∨ x = 9 ∨ x = 10 ∨ x = 11 ∨ x = 12 ∨ x = 13 := by omega
    clear h
    rcases h' with rfl | rfl | rfl | rfl | rfl | rfl | rfl | rfl | rfl | rfl | rfl | rfl | rfl
    all_goals
      go_enter Tryz.func188, Tryz.ntmps188
      go_wp2
      go_ret
      exact ⟨rfl, rfl⟩
  · have G : Kp (famN x = 0) := ⟨by unfold famN; repeat rw [if_neg (by omega)]⟩
    have e1 := nb (x := x) (k := 1) (by omega)
    have e2 := nb (x := x) (k := 2) (by omega)
    have e3 := nb (x := x) (k := 3) (by omega)
    have e4 := nb (x := x) (k := 4) (by omega)
    have e5 := nb (x := x) (k := 5) (by omega)
    have e6 := nb (x := x) (k := 6) (by omega)
    have e7 := nb (x := x) (k := 7) (by omega)
    have e8 := nb (x := x) (k := 8) (by omega)
    have e9 := nb (x := x) (k := 9) (by omega)
    have e10 := nb (x := x) (k := 10) (by omega)
    have e11 := nb (x := x) (k := 11) (by omega)
    have e12 := nb (x := x) (k := 12) (by omega)
    have e13 := nb (x := x) (k := 13) (by omega)
    clear h
    go_enter Tryz.func188, Tryz.ntmps188
    go_wp2
    go_ret
    exact ⟨ret_int G.out.symm, rfl⟩

set_option maxHeartbeats 1000000 in
theorem remI (x : Int) (w : World) :
    Calls Tryz.prog 291 #[.int .i64 x] w fun e w' => e = .returned (.bool (decide (x = 6) || decide (x = 7))) ∧ w' = w := by
  by_cases h6 : x = 6
  · subst h6
    go_enter Tryz.func291, Tryz.ntmps291
    go_wp2
    go_ret
    exact ⟨rfl, rfl⟩
  · by_cases h7 : x = 7
    · subst h7
      go_enter Tryz.func291, Tryz.ntmps291
      go_wp2
      go_ret
      exact ⟨rfl, rfl⟩
    · have e6 := nb h6
      have e7 := nb h7
      have G : Kp ((decide (x = 6) || decide (x = 7)) = false) := ⟨by simp [h6, h7]⟩
      clear h6 h7
      rw [G.out]
      go_enter Tryz.func291, Tryz.ntmps291
      go_wp2
      go_ret
      exact ⟨rfl, rfl⟩

set_option maxHeartbeats 1000000 in
theorem flgsI (x : Int) (w : World) :
    Calls Tryz.prog 290 #[.int .i64 x] w fun e w' => e = .returned (.int .i64 (flgs x)) ∧ w' = w := by
  by_cases h : 1 ≤ x ∧ x ≤ 13
  · have h' : x = 1 ∨ x = 2 ∨ x = 3 ∨ x = 4 ∨ x = 5 ∨ x = 6 ∨ x = 7 ∨ x = 8 ∨ x = 9 ∨ x = 10 ∨ x = 11 ∨ x = 12 ∨ x = 13 := by omega
    clear h
    rcases h' with rfl | rfl | rfl | rfl | rfl | rfl | rfl | rfl | rfl | rfl | rfl | rfl | rfl
    all_goals
      go_enter Tryz.func290, Tryz.ntmps290
      go_wp2_with (first | (go_at_call 188; refine (famI _ _).mono ?_; rintro e w' ⟨rfl, rfl⟩) | (go_at_call 291; refine (remI _ _).mono ?_; rintro e w' ⟨rfl, rfl⟩))
      go_ret
      exact ⟨rfl, rfl⟩
  · have G : Kp (flgs x = 0) := ⟨by unfold flgs; repeat rw [if_neg (by omega)]⟩
    have F : Kp (∀ w, Calls Tryz.prog 188 #[.int .i64 x] w fun e w' => e = .returned (.int .i64 0) ∧ w' = w) := ⟨fun w => by
      have q := famI x w
      rwa [show famN x = 0 by unfold famN; repeat rw [if_neg (by omega)]] at q⟩
    clear h
    go_enter Tryz.func290, Tryz.ntmps290
    go_wp2_with (first | (go_at_call 188; refine (F.out _).mono ?_; rintro e w' ⟨rfl, rfl⟩))
    go_ret
    exact ⟨ret_int G.out.symm, rfl⟩

set_option maxHeartbeats 1000000 in
theorem tabS (x : Int) (w : World) :
    Calls Tryz.prog 129 #[.int .i64 x] w fun e w' => e = .returned (.bool (tabB x)) ∧ w' = w := by
  go_enter Tryz.func129, Tryz.ntmps129
  go_wp2
  all_goals
    go_ret
    refine ⟨ret_bool ?_, rfl⟩
    rw [Bool.eq_iff_iff]
    simp [tabB] <;> omega

def swpN (x : Int) : Int := if x = 1 ∨ x = 2 then x else if x = 3 then 5 else if x = 4 then 6 else if x = 5 then 3 else if x = 6 then 4 else if x = 7 then 9 else if x = 8 then 10 else if x = 9 then 7 else if x = 10 then 8 else 0

theorem swpN_ne (x : Int) : decide (swpN x ≠ 0) = (decide (1 ≤ x) && decide (x ≤ 10)) := by
  rw [Bool.eq_iff_iff]
  simp only [decide_eq_true_eq, Bool.and_eq_true]
  constructor
  · intro h
    by_cases q : 1 ≤ x ∧ x ≤ 10
    · exact q
    · exact absurd (by unfold swpN; repeat rw [if_neg (by omega)]) h
  · rintro ⟨h1, h2⟩
    have h' : x = 1 ∨ x = 2 ∨ x = 3 ∨ x = 4 ∨ x = 5 ∨ x = 6 ∨ x = 7 ∨ x = 8 ∨ x = 9 ∨ x = 10 := by omega
    rcases h' with rfl | rfl | rfl | rfl | rfl | rfl | rfl | rfl | rfl | rfl <;> decide

set_option maxHeartbeats 1000000 in
theorem swpI (x : Int) (w : World) :
    Calls Tryz.prog 270 #[.int .i64 x] w fun e w' => e = .returned (.int .i64 (swpN x)) ∧ w' = w := by
  by_cases h : 1 ≤ x ∧ x ≤ 10
  · have h' : x = 1 ∨ x = 2 ∨ x = 3 ∨ x = 4 ∨ x = 5 ∨ x = 6 ∨ x = 7 ∨ x = 8 ∨ x = 9 ∨ x = 10 := by omega
    clear h
    rcases h' with rfl | rfl | rfl | rfl | rfl | rfl | rfl | rfl | rfl | rfl
    all_goals
      go_enter Tryz.func270, Tryz.ntmps270
      go_wp2
      go_ret
      exact ⟨rfl, rfl⟩
  · have G : Kp (swpN x = 0) := ⟨by unfold swpN; repeat rw [if_neg (by omega)]⟩
    have e1 := nb (x := x) (k := 1) (by omega)
    have e2 := nb (x := x) (k := 2) (by omega)
    have e3 := nb (x := x) (k := 3) (by omega)
    have e4 := nb (x := x) (k := 4) (by omega)
    have e5 := nb (x := x) (k := 5) (by omega)
    have e6 := nb (x := x) (k := 6) (by omega)
    have e7 := nb (x := x) (k := 7) (by omega)
    have e8 := nb (x := x) (k := 8) (by omega)
    have e9 := nb (x := x) (k := 9) (by omega)
    have e10 := nb (x := x) (k := 10) (by omega)
    clear h
    go_enter Tryz.func270, Tryz.ntmps270
    go_wp2
    go_ret
    exact ⟨ret_int G.out.symm, rfl⟩

theorem isS_any (x v : Int) (w : World) (h0 : 0 ≤ v) (h1 : v ≤ 18446744073709551615) :
    Calls Tryz.prog 134 #[.int .i64 x, .int .u64 v] w fun e w' => e = .returned (.bool (isW x v)) ∧ w' = w := by
  cases h : isW x v with
  | true => exact isS_yes x v w h0 h1 h
  | false => exact isS_no x v w h0 h1 h

theorem isWord_any (x v : Int) (w : World) (hw : Wid w) (h0 : 0 ≤ v) (h1 : v ≤ 18446744073709551615) :
    Calls Tryz.prog 206 #[.int .i64 x, .int .u64 v] w fun e w' => e = .returned (.bool (isW x v)) ∧ w' = w := by
  cases h : isW x v with
  | true => exact isWord_yes x v w hw h0 h1 h
  | false => exact isWord_no x v w hw h0 h1 h

theorem vwS_any (x : Int) (w : World) :
    Calls Tryz.prog 128 #[.int .i64 x] w fun e w' => e = .returned (.bool (vw x)) ∧ w' = w := by
  cases h : vw x with
  | true => exact vwS_yes x w h
  | false => exact vwS_no x w h
end
section
set_option linter.unusedVariables false

structure I64 (z : Int) : Prop where
  a : -9223372036854775808 ≤ z
  b : z ≤ 9223372036854775807

structure OpB (q : OpD) : Prop where
  i0 : -9223372036854775808 ≤ q.i
  i1 : q.i ≤ 9223372036854775807
  w0 : 0 ≤ q.w
  w1 : q.w ≤ 18446744073709551615

structure InB (x : InD) : Prop where
  fl : I64 x.fl
  sz : I64 x.sz
  a : ∀ q ∈ x.args, OpB q
  b : ∀ z ∈ x.bl, I64 z
  c : ∀ z ∈ x.ws, 0 ≤ z ∧ z ≤ 18446744073709551615

structure FnB (f : FnD) : Prop where
  b : ∀ xs ∈ f.blocks, ∀ x ∈ xs, InB x

structure GlB (g : GlD) : Prop where
  s : I64 g.size
  y : ∀ z ∈ g.bytes, 0 ≤ z ∧ z ≤ 255

structure MoB (gs : List GlD) (fs : List FnD) : Prop where
  g : ∀ g ∈ gs, GlB g
  f : ∀ f ∈ fs, FnB f
end
end Go.Proofs.YtbnkbbcncloedaaGreatDoor
