/- Texts of one claim. -/
import Derived.Test.YtgdcgjlmkmdklaaGreatDoorPk7
import Derived.Test.YtgdcgjlmkmdklaaGreatDoorPk20
import Derived.Test.YtgdcgjlmkmdklaaGreatDoorPk25
import Derived.Test.YtgdcgjlmkmdklaaGreatDoorPk27
import Derived.Test.YtgdcgjlmkmdklaaGreatDoorPk28
import Derived.Test.YtgdcgjlmkmdklaaGreatDoorRows
import Derived.WalkKit
import Derived.Deep.RegionHeld3
namespace Go.Proofs.YtgdcgjlmkmdklaaGreatDoor
open Go.ChangeShapes Go.WideShapes Go.ChangeAt Go.RowKit
set_option linter.unusedVariables false
theorem bv_kept (X F : BitVec 64) (h : X &&& ~~~F = 0) : X = X &&& F := by
 apply BitVec.eq_of_getLsbD_eq
 intro i hi
 have e := congrArg (fun z : BitVec 64 => z.getLsbD i) h
 simp [hi] at e
 simp only [BitVec.getLsbD_and]
 cases hx : X.getLsbD i <;> simp_all
theorem andNot_kept (fl : Int) (N : Nat) (hN : N < 18446744073709551616) (h0 : -9223372036854775808 ≤ fl) (h1 : fl ≤ 9223372036854775807) (h : (bits .andNot .i64 fl (N : Int) != 0) = false) :
  (fl % 18446744073709551616).toNat = (fl % 18446744073709551616).toNat &&& N := by
 have hz : bits .andNot .i64 fl (N : Int) = 0 := by simpa using h
 clear h
 have hb : (BitVec.ofInt 64 fl &&& ~~~ BitVec.ofInt 64 (N : Int)) = 0 := by
  have ht : IntKind.i64.wrap ((BitVec.ofInt 64 fl &&& ~~~ BitVec.ofInt 64 (N : Int)).toNat : Int) = 0 := hz
  generalize BitVec.ofInt 64 fl &&& ~~~ BitVec.ofInt 64 (N : Int) = r at ht ⊢
  have hr := r.isLt
  rw [IntKind.wrap_i64] at ht
  apply BitVec.eq_of_toNat_eq
  simp
  omega
 have hk := congrArg BitVec.toNat (bv_kept _ _ hb)
 rw [BitVec.toNat_and, BitVec.toNat_ofInt, BitVec.toNat_ofInt] at hk
 have e1 : ((2 ^ 64 : Nat) : Int) = 18446744073709551616 := by decide
 rw [e1] at hk
 have e2 : ((N : Int) % 18446744073709551616).toNat = N := by omega
 rw [e2] at hk
 exact hk
theorem flags_0 (fl : Int) (h0 : -9223372036854775808 ≤ fl) (h1 : fl ≤ 9223372036854775807) (h : (bits .andNot .i64 fl 0 != 0) = false) : fl = 0 := by
 have k := andNot_kept fl 0 (by decide) h0 h1 h
 rw [Nat.and_zero] at k
 omega
theorem flags_3 (fl : Int) (h0 : -9223372036854775808 ≤ fl) (h1 : fl ≤ 9223372036854775807) (h : (bits .andNot .i64 fl 3 != 0) = false) : fl = 0 ∨ fl = 1 ∨ fl = 2 ∨ fl = 3 := by
 have k := andNot_kept fl 3 (by decide) h0 h1 h
 have := Nat.and_le_right (n := (fl % 18446744073709551616).toNat) (m := 3)
 omega
theorem flags_4 (fl : Int) (h0 : -9223372036854775808 ≤ fl) (h1 : fl ≤ 9223372036854775807) (h : (bits .andNot .i64 fl 4 != 0) = false) : fl = 0 ∨ fl = 4 := by
 have k := andNot_kept fl 4 (by decide) h0 h1 h
 have q := Nat.and_le_right (n := (fl % 18446744073709551616).toNat) (m := 4)
 rw [← k] at q
 have c : (fl % 18446744073709551616).toNat = 0 ∨ (fl % 18446744073709551616).toNat = 1 ∨ (fl % 18446744073709551616).toNat = 2 ∨ (fl % 18446744073709551616).toNat = 3 ∨ (fl % 18446744073709551616).toNat = 4 := by omega
 rcases c with c | c | c | c | c <;> rw [c] at k <;> first | omega | (exfalso; revert k; decide)
end Go.Proofs.YtgdcgjlmkmdklaaGreatDoor

namespace Go.Proofs.YtgdcgjlmkmdklaaGreatDoor
open Go.ChangeShapes Go.WideShapes Go.ChangeAt Go.RowKit
set_option linter.unusedVariables false
set_option linter.unusedSimpArgs false
theorem an0 {fl : Int} (h : I64 fl) : bits .andNot .i64 fl 0 = 0 ↔ fl = 0 := by
 constructor
 ·intro q
  exact flags_0 fl h.a h.b (by simp [q])
 ·rintro rfl
  decide
theorem an_nn {fl : Int} (h : I64 fl) {F : Int} (hF : F = 0 ∨ F = 3 ∨ F = 4) (q : bits .andNot .i64 fl F = 0) : 0 ≤ fl := by
 rcases hF with rfl | rfl | rfl
 ·have := (an0 h).1 q; omega
 ·have := flags_3 fl h.a h.b (by simp [q]); omega
 ·have := flags_4 fl h.a h.b (by simp [q]); omega
theorem flgs_is (op : Int) : flgs op = 0 ∨ flgs op = 3 ∨ flgs op = 4 := by
 unfold flgs
 split
 ·exact .inr (.inl rfl)
 ·split
  ·exact .inr (.inr rfl)
  ·exact .inl rfl
theorem flgs_no {op : Int} (h : 11 ≤ op) : flgs op = 0 := by
 unfold flgs
 rw [if_neg (by omega), if_neg (by omega)]
set_option maxHeartbeats 4000000 in
theorem eqHd (fs : List FnD) (f : FnD) (bk op ty fl pr ca sz : Int) (args : List OpD) (bl ws : List Int) (hfl : I64 fl) (ho : op = 15 ∨ op = 16 ∨ op = 17 ∨ op = 18 ∨ op = 22 ∨ op = 23 ∨ op = 24 ∨ op = 26 ∨ op = 30 ∨ op = 31) :
  (nmrB fl pr ca sz 0 0 0 0 bl.length ws.length 0 0 && (true && (resB op ty && decide ((wanH op ty args f.res).length = args.length)))) = (hdB fs bk ⟨op, ty, fl, pr, ca, sz, args, bl, ws⟩ && cntB fs f ⟨op, ty, fl, pr, ca, sz, args, bl, ws⟩) := by
 have q := an0 hfl
 rcases ho with rfl | rfl | rfl | rfl | rfl | rfl | rfl | rfl | rfl | rfl
 all_goals
  rw [Bool.eq_iff_iff]
  simp [nmrB, resB, wanH, hdB, ownB, cntB, cntA, cntT, flgs, q]
  grind
set_option maxHeartbeats 4000000 in
theorem eqAr (fs : List FnD) (f : FnD) (bk op ty fl pr ca sz : Int) (args : List OpD) (bl ws : List Int) (hfl : I64 fl) (ho : 1 ≤ op ∧ op ≤ 13) :
  (nmrB fl pr ca sz fl 0 0 0 bl.length ws.length 0 0 && ((decide (bits .andNot .i64 fl (flgs op) = 0)) && ((vw ty) && decide (([ty, ty]).length = args.length)))) = (hdB fs bk ⟨op, ty, fl, pr, ca, sz, args, bl, ws⟩ && cntB fs f ⟨op, ty, fl, pr, ca, sz, args, bl, ws⟩) := by
 have q := fun h => an_nn hfl (flgs_is op) h
 have e : ¬ op = 20 := by omega
 have e1 : ¬ op = 14 := by omega
 have e2 : ¬ op = 25 := by omega
 have e3 : ¬ op = 21 := by omega
 have e4 : ¬ op = 29 := by omega
 have e5 : op ≤ 13 := ho.2
 have e6 : op ≤ 14 := by omega
 have e7 : ¬ op = 27 := by omega
 have e8 : ¬ op = 28 := by omega
 rw [Bool.eq_iff_iff]
 simp [nmrB, hdB, ownB, cntB, cntA, cntT, e, e1, e2, e3, e4, e5, e6, e7, e8]
 grind
set_option maxHeartbeats 4000000 in
theorem eqCm (fs : List FnD) (f : FnD) (bk op ty fl pr ca sz : Int) (args : List OpD) (bl ws : List Int) (hfl : I64 fl) (ho : op = 14) :
  (nmrB fl pr ca sz 0 pr 0 0 bl.length ws.length 0 0 && ((decide (swpN pr ≠ 0)) && ((decide (ty = 1)) && decide (([cmF pr args, cmF pr args]).length = args.length)))) = (hdB fs bk ⟨op, ty, fl, pr, ca, sz, args, bl, ws⟩ && cntB fs f ⟨op, ty, fl, pr, ca, sz, args, bl, ws⟩) := by
 have q := an0 hfl
 subst ho
 rw [swpN_ne, Bool.eq_iff_iff]
 simp [nmrB, hdB, ownB, cntB, cntA, cntT, flgs, q]
 grind
set_option maxHeartbeats 4000000 in
theorem eqAl (fs : List FnD) (f : FnD) (bk op ty fl pr ca sz : Int) (args : List OpD) (bl ws : List Int) (hfl : I64 fl) (ho : op = 21) :
  (nmrB fl pr ca sz 0 0 0 sz bl.length ws.length 0 0 && ((decide (bk = 0) && (decide (1 ≤ sz) && decide (sz ≤ 256))) && ((resB op ty) && decide ((wanH op ty args f.res).length = args.length)))) = (hdB fs bk ⟨op, ty, fl, pr, ca, sz, args, bl, ws⟩ && cntB fs f ⟨op, ty, fl, pr, ca, sz, args, bl, ws⟩) := by
 have q := an0 hfl
 subst ho
 rw [Bool.eq_iff_iff]
 simp [nmrB, resB, wanH, hdB, ownB, cntB, cntA, cntT, flgs, q]
 grind
set_option maxHeartbeats 4000000 in
theorem eqInv (fs : List FnD) (f : FnD) (bk op ty fl pr ca sz : Int) (args : List OpD) (bl ws : List Int) (hfl : I64 fl) (ho : op = 25) :
  (nmrB fl pr ca sz 0 0 ca 0 bl.length ws.length 0 0 && ((isIx ca fs.length) && ((isIx ca fs.length && decide (ty = (calD fs ca).res)) && decide (((if isIx ca fs.length = true then (calD fs ca).params else [])).length = args.length)))) = (hdB fs bk ⟨op, ty, fl, pr, ca, sz, args, bl, ws⟩ && cntB fs f ⟨op, ty, fl, pr, ca, sz, args, bl, ws⟩) := by
 have q := an0 hfl
 subst ho
 rw [Bool.eq_iff_iff]
 simp [nmrB, isIx, hdB, ownB, cntB, cntA, cntT, flgs, q]
 grind
set_option maxHeartbeats 4000000 in
theorem eqJn (fs : List FnD) (f : FnD) (bk op ty fl pr ca sz : Int) (args : List OpD) (bl ws : List Int) (hfl : I64 fl) (ho : op = 20 ∨ op = 27 ∨ op = 28) :
  (nmrB fl pr ca sz 0 0 0 0 bl.length ws.length bl.length 0 && ((jnB op args.length bl.length) && ((resB op ty) && decide ((wanJ op ty args.length).length = args.length)))) = (hdB fs bk ⟨op, ty, fl, pr, ca, sz, args, bl, ws⟩ && cntB fs f ⟨op, ty, fl, pr, ca, sz, args, bl, ws⟩) := by
 have q := an0 hfl
 rcases ho with rfl | rfl | rfl
 all_goals
  rw [Bool.eq_iff_iff]
  simp [nmrB, jnB, wanJ, resB, hdB, ownB, cntB, cntA, cntT, flgs, q]
  grind
set_option maxHeartbeats 4000000 in
theorem eqDi (fs : List FnD) (f : FnD) (bk op ty fl pr ca sz : Int) (args : List OpD) (bl ws : List Int) (hfl : I64 fl) (ho : op = 29) :
  (nmrB fl pr ca sz 0 0 0 0 bl.length ws.length bl.length ws.length && ((diB ws bl.length) && ((resB op ty) && decide (([fwd args]).length = args.length)))) = (hdB fs bk ⟨op, ty, fl, pr, ca, sz, args, bl, ws⟩ && cntB fs f ⟨op, ty, fl, pr, ca, sz, args, bl, ws⟩) := by
 have q := an0 hfl
 subst ho
 rw [Bool.eq_iff_iff]
 simp [nmrB, diB, resB, hdB, ownB, cntB, cntA, cntT, flgs, q]
 grind
theorem opB_t {ng : Nat} {ts : List Int} {o : OpD} (h : opB ng ts o = true) (hts : ∀ t ∈ ts, t ≠ 0) : o.t ≠ 0 := by
 intro e
 unfold opB at h
 rw [e] at h
 split at h
 ·simp [isW, vw] at h
 ·split at h
  ·simp at h
  ·split at h
   ·simp [vtB, vw] at h
   ·split at h
    ·simp at h
     obtain ⟨-, h1, h2, h3⟩ := h
     have hlt : o.i.toNat < ts.length := by omega
     rw [List.getElem?_eq_getElem hlt] at h3
     exact hts _ (List.getElem_mem hlt) (by simpa using h3)
    ·split at h
     ·simp at h
     ·cases h
theorem same_args {ng : Nat} {ts : List Int} {fs : List FnD} {f : FnD} {x : InD} {wan : List Int} (hts : ∀ t ∈ ts, t ≠ 0) (h : ∀ k, k < x.args.length → (x.args.getD k default).t ≠ 0 → ((x.args.getD k default).t = wan.getD k 0 ↔ wanB fs f x k (x.args.getD k default).t = true)) : agB ng ts x.args wan = argB ng ts fs f x := by
 rw [Bool.eq_iff_iff, agB_iff, argB_iff]
 constructor
 ·intro q k hk
  obtain ⟨a, b⟩ := q k hk
  exact ⟨b, (h k hk (opB_t b hts)).1 a⟩
 ·intro q k hk
  obtain ⟨a, b⟩ := q k hk
  exact ⟨(h k hk (opB_t a hts)).2 b, a⟩
set_option maxHeartbeats 4000000 in
theorem pwHd (fs : List FnD) (f : FnD) (op ty fl pr ca sz : Int) (args : List OpD) (bl ws : List Int) (ho : op = 15 ∨ op = 16 ∨ op = 17 ∨ op = 18 ∨ op = 22 ∨ op = 23 ∨ op = 24 ∨ op = 26 ∨ op = 30 ∨ op = 31) (hl : (args.length : Int) = cntA fs f ⟨op, ty, fl, pr, ca, sz, args, bl, ws⟩) (k : Nat) (hk : k < args.length) (hz : (args.getD k default).t ≠ 0) :
  (args.getD k default).t = (wanH op ty args f.res).getD k 0 ↔ wanB fs f ⟨op, ty, fl, pr, ca, sz, args, bl, ws⟩ k (args.getD k default).t = true := by
 rcases ho with rfl | rfl | rfl | rfl | rfl | rfl | rfl | rfl | rfl | rfl
 all_goals
  have h3 : (args.length : Int) ≤ 3 := by rw [hl]; simp [cntA]; try (split <;> omega)
  have hk3 : k = 0 ∨ k = 1 ∨ k = 2 := by omega
  simp [cntA] at hl
  rcases hk3 with rfl | rfl | rfl
  all_goals
   first
    | (simp [wanH, wanB, cty, fwd, fty]; done)
    | (simp [wanH, wanB, cty, fwd, fty]; grind [vtB, vw])
    | grind
set_option maxHeartbeats 4000000 in
theorem pwCm (fs : List FnD) (f : FnD) (ty fl pr ca sz : Int) (args : List OpD) (bl ws : List Int) (hp : 1 ≤ pr) (hl : args.length = 2) (k : Nat) (hk : k < args.length) (hz : (args.getD k default).t ≠ 0) :
  (args.getD k default).t = [cmF pr args, cmF pr args].getD k 0 ↔ wanB fs f ⟨14, ty, fl, pr, ca, sz, args, bl, ws⟩ k (args.getD k default).t = true := by
 have hk3 : k = 0 ∨ k = 1 := by omega
 rcases hk3 with rfl | rfl
 all_goals
  simp [wanB, cmF, fwd, fty]
  grind [vtB, vw]
theorem pwAr (fs : List FnD) (f : FnD) (op ty fl pr ca sz : Int) (args : List OpD) (bl ws : List Int) (ho : 1 ≤ op ∧ op ≤ 13) (hl : args.length = 2) (k : Nat) (hk : k < args.length) :
  (args.getD k default).t = [ty, ty].getD k 0 ↔ wanB fs f ⟨op, ty, fl, pr, ca, sz, args, bl, ws⟩ k (args.getD k default).t = true := by
 have hk3 : k = 0 ∨ k = 1 := by omega
 unfold wanB
 dsimp only
 repeat rw [if_neg (by omega)]
 rcases hk3 with rfl | rfl <;> simp
theorem pwIn (fs : List FnD) (f : FnD) (ty fl pr ca sz : Int) (args : List OpD) (bl ws : List Int) (hi : isIx ca fs.length = true) (k : Nat) :
  (args.getD k default).t = (if isIx ca fs.length = true then (calD fs ca).params else []).getD k 0 ↔ wanB fs f ⟨25, ty, fl, pr, ca, sz, args, bl, ws⟩ k (args.getD k default).t = true := by
 rw [if_pos hi]
 simp [wanB]
theorem pwJn (fs : List FnD) (f : FnD) (op ty fl pr ca sz : Int) (args : List OpD) (bl ws : List Int) (ho : op = 20 ∨ op = 27 ∨ op = 28) (hl : ¬ op = 20 → (args.length : Int) = cntA fs f ⟨op, ty, fl, pr, ca, sz, args, bl, ws⟩) (k : Nat) (hk : k < args.length) :
  (args.getD k default).t = (wanJ op ty args.length).getD k 0 ↔ wanB fs f ⟨op, ty, fl, pr, ca, sz, args, bl, ws⟩ k (args.getD k default).t = true := by
 rcases ho with rfl | rfl | rfl
 ·simp [wanJ, wanB, List.getD_eq_getElem?_getD, List.getElem?_replicate, hk]
 ·have := hl (by omega)
  simp [cntA] at this
  rw [this] at hk
  simp at hk
 ·have := hl (by omega)
  simp [cntA] at this
  obtain rfl : k = 0 := by omega
  simp [wanJ, wanB]
theorem pwDi (fs : List FnD) (f : FnD) (ty fl pr ca sz : Int) (args : List OpD) (bl ws : List Int) (hl : args.length = 1) (k : Nat) (hk : k < args.length) (hz : (args.getD k default).t ≠ 0) :
  (args.getD k default).t = [fwd args].getD k 0 ↔ wanB fs f ⟨29, ty, fl, pr, ca, sz, args, bl, ws⟩ k (args.getD k default).t = true := by
 obtain rfl : k = 0 := by omega
 simp [wanB, fwd, fty]
 grind [vtB, vw]
end Go.Proofs.YtgdcgjlmkmdklaaGreatDoor

namespace Go.Proofs.YtgdcgjlmkmdklaaGreatDoor
open Go.ChangeShapes
set_option linter.unusedVariables false
set_option linter.unusedSimpArgs false
section
variable {P : Program} {md : Region.Mode} {ops : Array Oper} {Q : Exit → Act → World → Prop} {S : World → Prop}
def TkY (P : Program) (ops : Array Oper) (S : World → Prop) : List Nat → List Value → Act → Prop
 | [], vs, _ => vs = []
 | i :: r, vs, a => ∃ o v us, vs = v :: us ∧ ops[i]? = some o ∧ YieldsIf P ops S o v a ∧ TkY P ops S r us (a.put o.dst v)
theorem tkn {a : Act} : TkY P ops S [] [] a := rfl
theorem tkc {i : Nat} {r : List Nat} {o : Oper} {v : Value} {us : List Value} {a : Act} (ho : ops[i]? = some o) (hy : YieldsIf P ops S o v a) (hr : TkY P ops S r us (a.put o.dst v)) : TkY P ops S (i :: r) (v :: us) a := ⟨o, v, us, rfl, ho, hy, hr⟩
def TkA (ops : Array Oper) : List Nat → List Value → Act → Act
 | i :: r, v :: us, a => TkA ops r us (a.put ((ops[i]?).bind (·.dst)) v)
 | _, _, a => a
def tkL : List Nat → Array Bool → Array Bool
 | [], l => l
 | i :: r, l => tkL r (l.setIfInBounds i true)
def tkB (md : Region.Mode) (ops : Array Oper) : List Nat → Array Bool → Bool
 | [], _ => true
 | i :: r, l => Region.free md ops l i && (Region.ready md ops l).contains i && tkB md ops r (l.setIfInBounds i true)
theorem tks0 (hs : Region.noSelect ops = true) (hQ : ∀ (d : Nat) v c a w, Q (.panic c) (a.put (some d) v) w → Q (.panic c) a w) {w : World} (hS : S w) {fuel : Nat} :
  ∀ (l : List Nat) (vs : List Value) (listed : Array Bool) (a : Act), tkB md ops l listed = true → TkY P ops S l vs a → wpAnyH P md ops Q S fuel (tkL l listed) (TkA ops l vs a) w → wpAnyH P md ops Q S (fuel + l.length) listed a w
 | [], vs, _, _, _, hv, h => by
  cases vs with
  | nil => exact h
  | cons v r => cases hv
 | i :: r, vs, listed, a, hb, ⟨o, v, us, hv, ho, hy, hr⟩, h => by
  subst hv
  simp only [tkB, Bool.and_eq_true] at hb
  have e : (ops[i]?).bind (·.dst) = o.dst := by rw [ho]; rfl
  have h' : wpAnyH P md ops Q S fuel (tkL r (listed.setIfInBounds i true)) (TkA ops r us (a.put o.dst v)) w := by rw [← e]; exact h
  exact wpAnyH_take (fuel := fuel + r.length) ho hs hb.1.1 hb.1.2 (fun c a w hp => by
   cases hd : o.dst with
   | none => rw [hd] at hp; exact hp
   | some d => rw [hd] at hp; exact hQ d v c a w hp) hy hS (tks0 hs hQ hS r us _ _ hb.2 hr h')
theorem tkP : (∀ (l : List Oper) (i : Nat) (v : Value) (r : List Nat) (us : List Value) (a : Act), TkA l.toArray (i :: r) (v :: us) a = TkA l.toArray r us (a.put ((l[i]?).bind (·.dst)) v)) ∧ (∀ (p : Array Oper) (vs : List Value) (a : Act), TkA p [] vs a = a) ∧
  (∀ (i : Nat) (r : List Nat) (l : Array Bool), tkL (i :: r) l = tkL r (l.setIfInBounds i true)) ∧ (∀ l : Array Bool, tkL [] l = l) ∧
  (∀ (x : Oper) (l : List Oper), (x :: l)[0]? = some x) ∧ (∀ (x : Oper) (l : List Oper) (i : Nat), (x :: l)[i + 1]? = l[i]?) ∧ (∀ (x : Oper) (f : Oper → Option Nat), (some x).bind f = f x) ∧
  (∀ (t : Array Value) (D : List Deferred) (d : Nat) (v : Value), (Act.mk t D).put (some d) v = ⟨t.setIfInBounds d v, D⟩) ∧ (∀ (a : Act) (v : Value), a.put none v = a) ∧
  (∀ (l : List Value) (i : Nat) (v : Value), l.toArray.setIfInBounds i v = (l.set i v).toArray) ∧ (∀ (l : List Bool) (i : Nat) (v : Bool), l.toArray.setIfInBounds i v = (l.set i v).toArray) ∧
  (∀ (x v : Value) (l : List Value), (x :: l).set 0 v = v :: l) ∧ (∀ (x v : Value) (l : List Value) (i : Nat), (x :: l).set (i + 1) v = x :: l.set i v) ∧
  (∀ (x v : Bool) (l : List Bool), (x :: l).set 0 v = v :: l) ∧ (∀ (x v : Bool) (l : List Bool) (i : Nat), (x :: l).set (i + 1) v = x :: l.set i v) :=
 ⟨fun _ _ _ _ _ _ => by simp [TkA], fun _ _ _ => by simp [TkA], fun _ _ _ => rfl, fun _ => rfl, fun _ _ => rfl, fun _ _ _ => rfl, fun _ _ => rfl, fun _ _ _ _ => rfl, fun _ _ => rfl, fun _ _ _ => by simp, fun _ _ _ => by simp, fun _ _ _ => rfl, fun _ _ _ _ => rfl, fun _ _ _ => rfl, fun _ _ _ _ => rfl⟩
theorem tks (k : Nat) (l : List Nat) {vs : List Value} {w : World} (hS : S w) {fuel : Nat} {listed : Array Bool} {a : Act}
  (h : wpAnyH P md ops Q S fuel (tkL l listed) (TkA ops l vs a) w)
  (hk : l.length = k := by rfl) (hs : Region.noSelect ops = true := by kernel_rfl) (hb : tkB md ops l listed = true := by kernel_rfl)
  (hQ : ∀ (d : Nat) v c a w, Q (.panic c) (a.put (some d) v) w → Q (.panic c) a w := by exact fun _ _ _ _ _ h => h)
  (hy : TkY P ops S l vs a := by repeat (first | exact tkn | (apply tkc rfl; focus (first | exact Or.inr ⟨by rfl, rfl⟩ | (refine Or.inl ⟨by rfl, fun wq hSw => ?_⟩; (try dsimp only at hSw); (go_simp) <;> with_reducible rfl)); (try simp only [tkP])))) :
  wpAnyH P md ops Q S (fuel + k) listed a w := by
 subst hk
 exact tks0 hs hQ hS l vs _ _ hb hy h
theorem rdy (i : Nat) {o : Oper} {fuel : Nat} {listed : Array Bool} {a : Act} {w : World}
  (h : ∀ K' : Act → World → Prop, Shut (∀ a w, S w → (S w → wpAnyH P md ops Q S fuel (listed.setIfInBounds i true) a w) → K' a w) → if Region.wanted o (yielded ops a.tmps) = true then Oper.wp P o a w K' Q else K' (a.put o.dst undef) w)
  (hr : Region.ready md ops listed = [i] := by kernel_rfl) (ho : ops[i]? = some o := by rfl) : wpAnyH P md ops Q S (fuel + 1) listed a w :=
 wpAnyH_ready hr (by simp) (AllReadyH.cons ho h AllReadyH.nil)
end
end Go.Proofs.YtgdcgjlmkmdklaaGreatDoor
