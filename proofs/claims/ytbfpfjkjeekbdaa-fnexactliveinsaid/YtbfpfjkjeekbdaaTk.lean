/- Several operations of a region that draws its order, taken one behind the other in one step; their values are found. -/
import Derived.Test.YtbfpfjkjeekbdaaRows
import Derived.WalkKit
import Derived.Deep.RegionHeld3
namespace Go.Proofs.Ytbfpfjkjeekbdaa
open Go.ChangeShapes
set_option linter.unusedVariables false
set_option linter.unusedSimpArgs false
section
variable {P : Program} {md : Region.Mode} {ops : Array Oper} {Q : Exit → Act → World → Prop} {S : World → Prop}
/-- Each of them yields its value. -/
def TkY (P : Program) (ops : Array Oper) (S : World → Prop) : List Nat → List Value → Act → Prop
  | [], vs, _ => vs = []
  | i :: r, vs, a => ∃ o v us, vs = v :: us ∧ ops[i]? = some o ∧ YieldsIf P ops S o v a ∧ TkY P ops S r us (a.put o.dst v)
theorem tkn {a : Act} : TkY P ops S [] [] a := rfl
theorem tkc {i : Nat} {r : List Nat} {o : Oper} {v : Value} {us : List Value} {a : Act} (ho : ops[i]? = some o) (hy : YieldsIf P ops S o v a) (hr : TkY P ops S r us (a.put o.dst v)) : TkY P ops S (i :: r) (v :: us) a := ⟨o, v, us, rfl, ho, hy, hr⟩
/-- What is behind them. -/
def TkA (ops : Array Oper) : List Nat → List Value → Act → Act
  | i :: r, v :: us, a => TkA ops r us (a.put ((ops[i]?).bind (·.dst)) v)
  | _, _, a => a
def tkL : List Nat → Array Bool → Array Bool
  | [], l => l
  | i :: r, l => tkL r (l.setIfInBounds i true)
def tkB (md : Region.Mode) (ops : Array Oper) : List Nat → Array Bool → Bool
  | [], _ => true
  | i :: r, l => Region.free md ops l i && (Region.ready md ops l).contains i && tkB md ops r (l.setIfInBounds i true)
theorem tks0 (hs : Region.noSelect ops = true) (hQ : ∀ (d : Nat) v c a w, Q (.panic c) (a.put (some d) v) w → Q (.panic c) a w) {w : World} (hS : S w) {fuel : Nat} :
    ∀ (l : List Nat) (vs : List Value) (listed : Array Bool) (a : Act), tkB md ops l listed = true → TkY P ops S l vs a → wpAnyH P md ops Q S fuel (tkL l listed) (TkA ops l vs a) w → wpAnyH P md ops Q S (fuel + l.length) listed a w
  | [], vs, _, _, _, hv, h => by
    cases vs with
    | nil => exact h
    | cons v r => cases hv
  | i :: r, vs, listed, a, hb, ⟨o, v, us, hv, ho, hy, hr⟩, h => by
    subst hv
    simp only [tkB, Bool.and_eq_true] at hb
    have e : (ops[i]?).bind (·.dst) = o.dst := by rw [ho]; rfl
    have h' : wpAnyH P md ops Q S fuel (tkL r (listed.setIfInBounds i true)) (TkA ops r us (a.put o.dst v)) w := by rw [← e]; exact h
    exact wpAnyH_take (fuel := fuel + r.length) ho hs hb.1.1 hb.1.2 (fun c a w hp => by
      cases hd : o.dst with
      | none => rw [hd] at hp; exact hp
      | some d => rw [hd] at hp; exact hQ d v c a w hp) hy hS (tks0 hs hQ hS r us _ _ hb.2 hr h')
theorem tkP : (∀ (l : List Oper) (i : Nat) (v : Value) (r : List Nat) (us : List Value) (a : Act), TkA l.toArray (i :: r) (v :: us) a = TkA l.toArray r us (a.put ((l[i]?).bind (·.dst)) v)) ∧ (∀ (p : Array Oper) (vs : List Value) (a : Act), TkA p [] vs a = a) ∧
    (∀ (i : Nat) (r : List Nat) (l : Array Bool), tkL (i :: r) l = tkL r (l.setIfInBounds i true)) ∧ (∀ l : Array Bool, tkL [] l = l) ∧
    (∀ (x : Oper) (l : List Oper), (x :: l)[0]? = some x) ∧ (∀ (x : Oper) (l : List Oper) (i : Nat), (x :: l)[i + 1]? = l[i]?) ∧ (∀ (x : Oper) (f : Oper → Option Nat), (some x).bind f = f x) ∧
    (∀ (t : Array Value) (D : List Deferred) (d : Nat) (v : Value), (Act.mk t D).put (some d) v = ⟨t.setIfInBounds d v, D⟩) ∧ (∀ (a : Act) (v : Value), a.put none v = a) ∧
    (∀ (l : List Value) (i : Nat) (v : Value), l.toArray.setIfInBounds i v = (l.set i v).toArray) ∧ (∀ (l : List Bool) (i : Nat) (v : Bool), l.toArray.setIfInBounds i v = (l.set i v).toArray) ∧
    (∀ (x v : Value) (l : List Value), (x :: l).set 0 v = v :: l) ∧ (∀ (x v : Value) (l : List Value) (i : Nat), (x :: l).set (i + 1) v = x :: l.set i v) ∧
    (∀ (x v : Bool) (l : List Bool), (x :: l).set 0 v = v :: l) ∧ (∀ (x v : Bool) (l : List Bool) (i : Nat), (x :: l).set (i + 1) v = x :: l.set i v) :=
  ⟨fun _ _ _ _ _ _ => by simp [TkA], fun _ _ _ => by simp [TkA], fun _ _ _ => rfl, fun _ => rfl, fun _ _ => rfl, fun _ _ _ => rfl, fun _ _ => rfl, fun _ _ _ _ => rfl, fun _ _ => rfl, fun _ _ _ => by simp, fun _ _ _ => by simp, fun _ _ _ => rfl, fun _ _ _ _ => rfl, fun _ _ _ => rfl, fun _ _ _ _ => rfl⟩
theorem tks (k : Nat) (l : List Nat) {vs : List Value} {w : World} (hS : S w) {fuel : Nat} {listed : Array Bool} {a : Act}
    (h : wpAnyH P md ops Q S fuel (tkL l listed) (TkA ops l vs a) w)
    (hk : l.length = k := by rfl) (hs : Region.noSelect ops = true := by kernel_rfl) (hb : tkB md ops l listed = true := by kernel_rfl)
    (hQ : ∀ (d : Nat) v c a w, Q (.panic c) (a.put (some d) v) w → Q (.panic c) a w := by exact fun _ _ _ _ _ h => h)
    (hy : TkY P ops S l vs a := by repeat (first | exact tkn | (apply tkc rfl; focus (first | exact Or.inr ⟨by rfl, rfl⟩ | (refine Or.inl ⟨by rfl, fun wq hSw => ?_⟩; (try dsimp only at hSw); (go_simp) <;> with_reducible rfl)); (try simp only [tkP])))) :
    wpAnyH P md ops Q S (fuel + k) listed a w := by
  subst hk
  exact tks0 hs hQ hS l vs _ _ hb hy h
/-- The one that may come up. -/
theorem rdy (i : Nat) {o : Oper} {fuel : Nat} {listed : Array Bool} {a : Act} {w : World}
    (h : ∀ K' : Act → World → Prop, Shut (∀ a w, S w → (S w → wpAnyH P md ops Q S fuel (listed.setIfInBounds i true) a w) → K' a w) → if Region.wanted o (yielded ops a.tmps) = true then Oper.wp P o a w K' Q else K' (a.put o.dst undef) w)
    (hr : Region.ready md ops listed = [i] := by kernel_rfl) (ho : ops[i]? = some o := by rfl) : wpAnyH P md ops Q S (fuel + 1) listed a w :=
  wpAnyH_ready hr (by simp) (AllReadyH.cons ho h AllReadyH.nil)
end
end Go.Proofs.Ytbfpfjkjeekbdaa
