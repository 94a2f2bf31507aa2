/- Texts of one claim. -/
import Derived.Test.YtgdcgjlmkmdklaaGreatDoorPk1
import Derived.WalkKit
import Derived.ProofKit
import Derived.Below
import Derived.Maps.RangeWalk
import Derived.Test.YtgdcgjlmkmdklaaGreatDoorPk0
import Derived.Maps.AppendAt
import Derived.Great.BuildSlice
namespace Go.Proofs.YtgdcgjlmkmdklaaGreatDoor
open Go.ChangeShapes Go.WideShapes Go.ChangeAt Go.RowKit Go.Maps
set_option linter.unusedVariables false
set_option linter.unusedSimpArgs false
abbrev litS {H : Type} (s : ByteArray) : DataW H := .lit (.string s.data.toList)
abbrev litI {H : Type} (c : Int) : DataW H := .lit (.int .i64 c)
abbrev keyS (s : ByteArray) : Lit := .string s.data.toList
def spellElem {H : Type} : Value → Option (DataW H × List MemPlace)
 | .agg ⟨[.string s]⟩ => some (litS s, [])
 | _ => none
theorem spell_mk {H : Type} (s : ByteArray) : spellElem (H := H) (.agg #[.string s]) = some (litS s, []) := rfl
theorem spell_inv {H : Type} {v : Value} {z : DataW H × List MemPlace} (h : spellElem v = some z) : ∃ s, v = .agg #[.string s] ∧ z = (litS s, []) := by
 unfold spellElem at h
 split at h
 ·cases h; exact ⟨_, rfl, rfl⟩
 ·cases h
theorem keyS_inj {a b : ByteArray} (h : keyS a = keyS b) : a = b := by
 cases a; cases b
 simp only [keyS, Lit.string.injEq] at h
 rename_i x y
 cases x; cases y
 simp at h
 rw [h]
theorem keyOf_string_inv {P : Program} {k : TypeId} (hk : P.underlying k = some .string) {key : Value} {kl : Lit} (h : keyOf P k key = some kl) : ∃ s, key = .string s ∧ kl = keyS s := by
 cases key <;> simp [keyOf, hk, mapKey] at h
 obtain ⟨_, rfl⟩ := h
 exact ⟨_, rfl, rfl⟩
def numD {H : Type} (L : List (ByteArray × Int)) : DataW H := L.foldl (fun m p => m.put (keyS p.1) (litI p.2)) (.map [])
theorem numD_snoc {H : Type} (L : List (ByteArray × Int)) (p : ByteArray × Int) : numD (H := H) (L ++ [p]) = (numD L).put (keyS p.1) (litI p.2) := by simp [numD, List.foldl_append]
theorem keyS_isKey (s : ByteArray) : WideAt.IsKeyLit (keyS s) := trivial
def nameOf (L : List (ByteArray × Int)) (c : Int) : Option ByteArray := (L.find? fun p => p.2 == c).map (·.1)
def numOf (L : List (ByteArray × Int)) (s : ByteArray) : Option Int := (L.find? fun p => decide (p.1 = s)).map (·.2)
def apartB (L : List (ByteArray × Int)) : Bool := L.all fun p => decide (nameOf L p.2 = some p.1) && decide (numOf L p.1 = some p.2)
theorem nameOf_mem {L : List (ByteArray × Int)} {c : Int} {s : ByteArray} (h : nameOf L c = some s) : (s, c) ∈ L := by
 unfold nameOf at h
 cases hf : L.find? (fun p => p.2 == c) with
 | none => rw [hf] at h; cases h
 | some p =>
  rw [hf] at h
  cases h
  have h1 := List.mem_of_find?_eq_some hf
  have h2 := List.find?_some hf
  have : p.2 = c := by simpa using h2
  rw [← this]; exact h1
theorem numOf_mem {L : List (ByteArray × Int)} {c : Int} {s : ByteArray} (h : numOf L s = some c) : (s, c) ∈ L := by
 unfold numOf at h
 cases hf : L.find? (fun p => decide (p.1 = s)) with
 | none => rw [hf] at h; cases h
 | some p =>
  rw [hf] at h
  cases h
  have h1 := List.mem_of_find?_eq_some hf
  have h2 := List.find?_some hf
  have : p.1 = s := by simpa using h2
  rw [← this]; exact h1
theorem apart_name {L : List (ByteArray × Int)} (h : apartB L = true) {s : ByteArray} {c : Int} (hm : (s, c) ∈ L) : nameOf L c = some s := by
 have := List.all_eq_true.1 h _ hm
 simp only [Bool.and_eq_true, decide_eq_true_eq] at this
 exact this.1
theorem apart_num {L : List (ByteArray × Int)} (h : apartB L = true) {s : ByteArray} {c : Int} (hm : (s, c) ∈ L) : numOf L s = some c := by
 have := List.all_eq_true.1 h _ hm
 simp only [Bool.and_eq_true, decide_eq_true_eq] at this
 exact this.2
theorem isMap_numD {H : Type} (L : List (ByteArray × Int)) : IsMap (numD (H := H) L) := by
 unfold numD
 generalize hm : (DataW.map [] : DataW H) = m
 have h : IsMap m := hm ▸ isMap_empty
 clear hm
 induction L generalizing m with
 | nil => exact h
 | cons p r ih => exact ih _ (h.put _ _)
theorem fold_at {H : Type} (k : Lit) : ∀ (L : List (ByteArray × Int)) (m : DataW H), IsMap m →
  (((∀ zd, (L.foldl (fun m p => m.put (keyS p.1) (litI p.2)) m).atKey k zd = m.atKey k zd) ∧ has (L.foldl (fun m p => m.put (keyS p.1) (litI p.2)) m) k = has m k ∧ (∀ p ∈ L, keyS p.1 ≠ k)) ∨
   ∃ p ∈ L, keyS p.1 = k ∧ has (L.foldl (fun m p => m.put (keyS p.1) (litI p.2)) m) k = true ∧ ∀ zd, (L.foldl (fun m p => m.put (keyS p.1) (litI p.2)) m).atKey k zd = litI p.2)
 | [], m, _ => .inl ⟨fun _ => rfl, rfl, by simp⟩
 | p :: r, m, hm => by
  rw [List.foldl_cons]
  rcases fold_at k r (m.put (keyS p.1) (litI p.2)) (hm.put _ _) with ⟨h1, h2, h3⟩ | ⟨q, h1, h2, h3, h4⟩
  ·by_cases e : keyS p.1 = k
   ·subst e
    exact .inr ⟨p, by simp, rfl, by rw [h2]; exact has_put_same hm (keyS_isKey _) _, fun zd => by rw [h1]; exact atKey_put_same hm (keyS_isKey _) _ _⟩
   ·refine .inl ⟨fun zd => by rw [h1, atKey_put_other (fun h => e h.symm)], by rw [h2, has_put_other (fun h => e h.symm)], fun q hq => ?_⟩
    rcases List.mem_cons.1 hq with hq | hq
    ·rw [hq]; exact e
    ·exact h3 q hq
  ·exact .inr ⟨q, by simp [h1], h2, h3, h4⟩
theorem numD_at {H : Type} (L : List (ByteArray × Int)) (k : Lit) : ((∀ zd, (numD (H := H) L).atKey k zd = zd) ∧ has (numD (H := H) L) k = false ∧ (∀ p ∈ L, keyS p.1 ≠ k)) ∨ ∃ p ∈ L, keyS p.1 = k ∧ has (numD (H := H) L) k = true ∧ ∀ zd, (numD (H := H) L).atKey k zd = litI p.2 := by
 rcases fold_at (H := H) k L (.map []) isMap_empty with ⟨h1, h2, h3⟩ | h
 ·exact .inl ⟨h1, h2, h3⟩
 ·exact .inr h
theorem numD_name {H : Type} {L : List (ByteArray × Int)} (h : apartB L = true) {k : Lit} {c : Int} (hat : ∀ zd, (numD (H := H) L).atKey k zd = litI c) : ∃ s, k = keyS s ∧ nameOf L c = some s := by
 rcases numD_at (H := H) L k with ⟨h1, -, -⟩ | ⟨p, h1, h2, -, h4⟩
 ·have := hat .nil
  rw [h1] at this
  cases this
 ·have := (h4 .nil).symm.trans (hat .nil)
  simp only [litI, DataW.lit.injEq, Lit.int.injEq, true_and] at this
  exact ⟨p.1, h2.symm, apart_name h (by rw [← this]; exact h1)⟩
theorem numD_look {H : Type} {L : List (ByteArray × Int)} (h : apartB L = true) (s : ByteArray) (zd : DataW H) : (numD (H := H) L).atKey (keyS s) zd = (match numOf L s with | some c => litI c | none => zd) ∧ has (numD (H := H) L) (keyS s) = (numOf L s).isSome := by
 rcases numD_at (H := H) L (keyS s) with ⟨h1, h2, h3⟩ | ⟨p, h1, h2, h3, h4⟩
 ·have e : numOf L s = none := by
   cases hn : numOf L s with
   | none => rfl
   | some c => exact absurd rfl (h3 _ (numOf_mem hn))
  rw [e, h1, h2]; exact ⟨rfl, rfl⟩
 ·have e : numOf L s = some p.2 := by
   obtain rfl := keyS_inj h2
   exact apart_num h h1
  rw [e, h4, h3]; exact ⟨rfl, rfl⟩
def Half {H : Type} (L : List (ByteArray × Int)) (left : Lit → Bool) (D : DataW H) : Prop :=
 ∀ c zd, D.atKey (.int .i64 c) zd = match nameOf L c with | some s => if left (keyS s) then zd else litS s | none => zd
theorem half_start {H : Type} {L : List (ByteArray × Int)} : Half L (has (numD (H := H) L)) (.map [] : DataW H) := by
 intro c zd
 cases hn : nameOf L c with
 | none => rfl
 | some s =>
  rcases numD_at (H := H) L (keyS s) with ⟨h1, h2, h3⟩ | ⟨p, h1, h2, h3, h4⟩
  ·exact absurd rfl (h3 _ (nameOf_mem hn))
  ·show _ = if has (numD (H := H) L) (keyS s) = true then zd else litS s
   rw [h3]; rfl
theorem half_step {H : Type} {L : List (ByteArray × Int)} (ha : apartB L = true) {left : Lit → Bool} {D : DataW H} (hD : IsMap D) (h : Half L left D) {s : ByteArray} {c : Int} (hn : nameOf L c = some s) :
  Half L (fun z => left z && !z.sameKey (keyS s)) (D.put (.int .i64 c) (litS s)) := by
 intro c' zd
 by_cases e : c' = c
 ·subst e
  rw [hn, atKey_put_same hD (show WideAt.IsKeyLit (.int .i64 c') from trivial)]
  simp [WideAt.sameKey_self (keyS_isKey s)]
 ·rw [atKey_put_other (by intro q; cases q; exact e rfl), h c' zd]
  cases hn' : nameOf L c' with
  | none => rfl
  | some s' =>
   have : keyS s' ≠ keyS s := by
    intro q
    obtain rfl := keyS_inj q
    have q1 := apart_num ha (nameOf_mem hn')
    rw [apart_num ha (nameOf_mem hn)] at q1
    cases q1
    exact e rfl
   simp [sameKey_ne this]
def Full {H : Type} (L : List (ByteArray × Int)) (D : DataW H) : Prop := ∀ c zd, D.atKey (.int .i64 c) zd = match nameOf L c with | some s => litS s | none => zd
theorem half_end {H : Type} {L : List (ByteArray × Int)} {left : Lit → Bool} {D : DataW H} (h : Half L left D) (hl : ∀ k, left k = false) : Full L D := by
 intro c zd
 rw [h c zd]
 cases nameOf L c with
 | none => rfl
 | some s => simp [hl]
def nmOf (L : List (ByteArray × Int)) (c : Int) : ByteArray := (nameOf L c).getD ByteArray.empty
theorem full_at {H : Type} {L : List (ByteArray × Int)} {D : DataW H} (h : Full L D) (c : Int) : D.atKey (.int .i64 c) (litS ByteArray.empty) = litS (nmOf L c) := by
 rw [h]
 unfold nmOf
 cases nameOf L c <;> rfl
section
variable {H : Type} {P : Program} (w : World) {ops : Array Oper} {rest : List Oper} {o : Oper} {a : Act} {Q : Exit → Act → World → Prop}
theorem wpList_next_si (hg : o.guard = none) (it : Operand) (hop : o.op = Op.next it false) (k e : TypeId) (K : Keyed P k) (hk : P.underlying k = some .string) (he : P.underlying e = some (.int .i64))
  (b r n : Nat) (D : DataW H) (left : Lit → Bool) (cnt : Nat) (hit : a.eval it = .pointer (some ⟨r, 0, none⟩)) (h : w.ranges P k (plainElem P e) b r n D left cnt)
  (hDone : cnt = 0 → (∀ kl, left kl = false) → wpList P ops Q rest (a.put o.dst (.tuple #[.bool false])) w)
  (hMore : ∀ (s : ByteArray) (c : Int) (w' : World) (cnt' : Nat), (Lit.int .i64 c).wf = true → (∀ zd, D.atKey (keyS s) zd = litI c) → w'.ranges P k (plainElem P e) b r n D (fun z => left z && !z.sameKey (keyS s)) cnt' → cnt' < cnt →
   w.grownBy w' (some r) → w'.heap.size = w.heap.size → (Instr.entry (.pointer (some ⟨r, 0, none⟩))).run P w' = .ok (.tuple #[.string s, .int .i64 c]) w' → wpList P ops Q rest (a.put o.dst (.tuple #[.bool true, .string s, .int .i64 c])) w') :
  wpList P ops Q (o :: rest) a w :=
 wpList_next_ranges w hg it hop k K (plainElem P e) Value.string (Value.int .i64) (fun key kl hkey => by obtain ⟨s, rfl, _⟩ := keyOf_string_inv hk hkey; exact ⟨s, rfl⟩) (fun v y hv => by obtain ⟨c, rfl, _⟩ := plainElem_int_inv he hv; exact ⟨c, rfl⟩)
  b r n D left cnt hit h hDone (fun s c kl y w' cnt' hkey hlk hv hat hrg hlt hgr hsz hen => by
   obtain ⟨s', es, rfl⟩ := keyOf_string_inv hk hkey
   cases es
   obtain ⟨c', ec, rfl, hwc⟩ := plainElem_int_inv he hv
   cases ec
   exact hMore s c w' cnt' hwc hat hrg hlt hgr hsz hen)
theorem wpList_lookup_spell (hg : o.guard = none) (m x : Operand) (t : TypeId) (hop : o.op = Op.lookup t m x false)
  (k e : TypeId) (K : Keyed P k) (ht : P.underlying t = some (.map k e)) (hz : (zeroValue e).run P w = .ok (.agg #[.string ByteArray.empty]) w) (b n : Nat) (D : DataW H)
  (hm : a.eval m = .map (some b)) (hown : w.ownsMap P k spellElem b n D) (key : Value) (kl : Lit) (hx : a.eval x = key) (hkey : keyOf P k key = some kl)
  (hK : ∀ s : ByteArray, D.atKey kl (litS ByteArray.empty) = litS s → wpList P ops Q rest (a.put o.dst (.agg #[.string s])) w) :
  wpList P ops Q (o :: rest) a w := by
 refine wpList_plain hg fun K' hK' => ?_
 obtain ⟨v, ps, hrun, hv⟩ := hown.lookup K ht hz (spell_mk _) hkey
 obtain ⟨s, rfl, hs⟩ := spell_inv hv
 simp only [Prod.mk.injEq] at hs
 unfold Oper.wp
 simp [execOp, hop, hm, hx, hrun, Result.andThen]
 exact hK' _ _ (hK s hs.1)
end
end Go.Proofs.YtgdcgjlmkmdklaaGreatDoor

namespace Go.Proofs.YtgdcgjlmkmdklaaGreatDoor
open Go.ChangeShapes Go.WideShapes Go.ChangeAt Go.RowKit Go.Maps
set_option linter.unusedVariables false
set_option linter.unusedSimpArgs false
theorem lawS : Keyed Tryz.prog 9 := string_keyed Tryz.underlying9
theorem lawI : Keyed Tryz.prog 2 := int_keyed Tryz.underlying2
theorem zeroSp (w : World) : (zeroValue 166).run Tryz.prog w = .ok (.agg #[.string ByteArray.empty]) w := by kernel_rfl
theorem nameOf_c {H : Type} (L : List (ByteArray × Int)) (b n : Nat) (D : DataW H) (vm : Value) (c : Int) (wc : (Lit.int .i64 c).wf = true) (w : World) (h : w.ownsMap Tryz.prog 2 spellElem b n D) (hF : Full L D) :
  Calls Tryz.prog 79 #[.agg #[vm, .map (some b)], .int .i64 c] w fun e w' => e = .returned (.string (nmOf L c)) ∧ Below w.heap.size w w' := by
 have hfd : ∀ (v : Value) (w : World), (Instr.field 166 (.agg #[v]) 0).run Tryz.prog w = .ok v w := fun _ _ => by kernel_rfl
 go_enter Tryz.func79, Tryz.ntmps79
 go_wp2_with (first
  | (at_lookup; refine wpList_lookup_spell _ rfl _ _ 61 rfl 2 166 lawI Tryz.underlying61 (zeroSp _) b n D rfl (h.alloc _) _ _ rfl (keyOf_int_mk Tryz.underlying2 wc) ?_; intro s hs; rw [full_at hF] at hs; obtain rfl := keyS_inj (by simpa [litS] using hs); clear hs)
  | go_in)
 go_ret
 exact ⟨rfl, bel_alloc _ _⟩
set_option maxRecDepth 100000 in
theorem namingOf_c {H : Type} (L : List (ByteArray × Int)) (hL : apartB L = true) (b n : Nat) (w : World) (hown : w.ownsMap (H := H) Tryz.prog 9 (plainElem Tryz.prog 2) b n (numD L)) (hmax : Maps.size (numD (H := H) L) < maxLen) :
  Calls Tryz.prog 118 #[.map (some b)] w fun e w' => ∃ b2 n2 D, e = .returned (.agg #[.map (some b), .map (some b2)]) ∧ w'.ownsMap (H := H) Tryz.prog 9 (plainElem Tryz.prog 2) b n (numD L) ∧ w'.ownsMap Tryz.prog 2 spellElem b2 n2 D ∧ Full (H := H) L D ∧ w.heap.size ≤ b2 ∧ Below w.heap.size w w' := by
 have hmm := @run_makeMap Tryz.prog
 have hbl := hown.lt
 generalize hT : numD (H := H) L = DL at *
 have HT : Kp (DL = numD L) := ⟨hT.symm⟩
 clear hT
 go_enter Tryz.func118, Tryz.ntmps118
 go_wp2_with (first
  | (at_range; refine wpList_range_own _ rfl _ 60 rfl 9 2 lawS Tryz.underlying60 _ b n DL rfl ((hown.alloc _).alloc _) ?_; intro w0 hrg0 hg0 hs0)
  | go_in)
 go_frame
 have e1 : ((w.alloc (Go.Obj.cells #[Go.Value.map none, Go.Value.map none] 63)).alloc (Go.Obj.map #[] 0)).heap.size = w.heap.size + 2 := by simp
 have e2 : (w.alloc (Go.Obj.cells #[Go.Value.map none, Go.Value.map none] 63)).heap.size = w.heap.size + 1 := by simp
 have hst := (World.ownsMap_made (H := H) (w.alloc (Go.Obj.cells #[Go.Value.map none, Go.Value.map none] 63)) Tryz.prog 2 spellElem).kept hg0 (by simp)
 have hb0 := ((bel_alloc w (Go.Obj.cells #[Go.Value.map none, Go.Value.map none] 63)).alloc (by simp) (Go.Obj.map #[] 0)).grown hg0 (by simp only [e1]; omega) (fun j hj => by cases hj)
 have hr0 : w0.heap[w.heap.size]? = some (Go.Obj.cells #[Go.Value.map none, Go.Value.map none] 63 (0, 0)) := by
  rw [hg0.block w.heap.size (by rw [e1]; omega) (by simp)]
  rw [(MapKept.heap_alloc (w.alloc _) _).2 w.heap.size (by rw [e2]; omega)]
  exact (MapKept.heap_alloc w _).1
 rw [e2] at hst
 rw [e1] at hrg0 hs0 ⊢
 clear e1 e2 hg0 hown
 go_loopw [4] (fun _ wr => ∃ (left : Lit → Bool) (cnt : Nat) (D2 : DataW H), wr.ranges Tryz.prog 9 (plainElem Tryz.prog 2) b (w.heap.size + 2) n DL left cnt ∧ cnt ≤ Maps.size DL ∧
   wr.ownsMap Tryz.prog 2 spellElem (w.heap.size + 1) (Maps.size DL - cnt) D2 ∧ Half L left D2 ∧ wr.heap[w.heap.size]? = some (Go.Obj.cells #[Go.Value.map none, Go.Value.map none] 63 (0, 0)) ∧ Below w.heap.size w wr)
  (fun _ wr => wr.rangeLeft b (w.heap.size + 2))
 case atStart =>
  refine ⟨_, _, .map [], hrg0, Nat.le_refl _, hst.mono (Nat.zero_le _), ?_, hr0, hb0⟩
  rw [HT.out]; exact half_start
 case round =>
  obtain ⟨left, cnt, D2, hrg, hcs, hout, hA, hr, hnx⟩ := hrel
  have hfz : ∀ k, wr.frozen? ⟨w.heap.size, k, none⟩ = false := by
   intro k
   simp [World.frozen?, hr]
  have hca : wr.cell? ⟨w.heap.size, 0, none⟩ = some (.map none) := by simp [World.cell?, hr]
  have hcb : wr.cell? ⟨w.heap.size, 1, none⟩ = some (.map none) := by simp [World.cell?, hr]
  go_wp2_with (first
   | (at_next; refine wpList_next_si _ rfl _ rfl 9 2 lawS Tryz.underlying9 Tryz.underlying2 b (w.heap.size + 2) n _ _ _ rfl hrg ?_ ?_)
   | go_in)
  ·intro hc0 hl0
   have hne1 := hrg.owns.lt
   have hbb : b ≠ w.heap.size := by omega
   have hL1 := ((hrg.owns.setCell (a := ⟨w.heap.size, 0, none⟩) hbb (.map (some b))).setCell (a := ⟨w.heap.size, 1, none⟩) hbb (.map (some (w.heap.size + 1))))
   have hL2 := ((hout.setCell (a := ⟨w.heap.size, 0, none⟩) (by simp) (.map (some b))).setCell (a := ⟨w.heap.size, 1, none⟩) (by simp) (.map (some (w.heap.size + 1))))
   have hL3 := (hnx.setCell (p := ⟨w.heap.size, 0, none⟩) (by simp) (.map (some b))).setCell (p := ⟨w.heap.size, 1, none⟩) (by simp) (.map (some (w.heap.size + 1)))
   have q1 := half_end hA hl0
   go_wp2
   refine bodyPost_ret (v := .agg #[.map (some b), .map (some (w.heap.size + 1))]) (by simp [results, Tryz.results118, go_sem, hca, hcb]) rfl ⟨w.heap.size + 1, _, D2, rfl, hL1, hL2, q1, by omega, hL3⟩
  ·intro x c w1 cnt1 hwc hat hrg1 hlt hg1 hs1 hen
   have hout1 := hout.kept hg1 (by simp)
   have hr1 : w1.heap[w.heap.size]? = some (Go.Obj.cells #[Go.Value.map none, Go.Value.map none] 63 (0, 0)) := by
    rw [hg1.block w.heap.size (by have := hout.lt; omega) (by simp)]; exact hr
   rw [HT.out] at hat
   obtain ⟨x', hx, hnm⟩ := numD_name hL hat
   obtain rfl := keyS_inj hx
   go_wp2_with (first
    | (at_mapUpdate; refine wpList_mapUpdate_own _ rfl _ _ _ 61 rfl 2 166 lawI Tryz.underlying61 _ (w.heap.size + 1) _ _ rfl hout1 (by omega) _ _ _ rfl rfl (keyOf_int_mk Tryz.underlying2 hwc) _ [] (spell_mk x) ?_; intro w2 hout2 hg2; go_frame)
    | go_in)
   have hrg2 := hrg1.kept hg2 (fun e => by have := Option.some.inj e; omega) (fun e => by have := Option.some.inj e; omega)
   go_roundw
   case rel =>
    exact ⟨_, cnt1, _, hrg2, by omega, hout2.mono (by omega), half_step hL hout.isMap hA hnm, by rw [hg2.block w.heap.size (by have := hout1.lt; omega) (by simp)]; exact hr1,
     (hnx.grown hg1 hnx.size (fun j hj => by cases hj; omega)).grown hg2 (by have := hnx.size; omega) (fun j hj => by cases hj; omega)⟩
   case measure => rw [hrg2.left_eq, hrg.left_eq]; exact hlt
end Go.Proofs.YtgdcgjlmkmdklaaGreatDoor

namespace Go.Proofs.YtgdcgjlmkmdklaaGreatDoor
open Go.ChangeShapes Go.WideShapes Go.ChangeAt Go.RowKit Go.Maps
set_option linter.unusedVariables false
set_option linter.unusedSimpArgs false
theorem wpList_inserts {H : Type} {P : Program} {ops : Array Oper} {Q : Exit → Act → World → Prop} (t k e : TypeId) (K : Keyed P k) (hk : P.underlying k = some .string) (ht : P.underlying t = some (.map k e)) (he : P.underlying e = some (.int .i64)) (m : Operand) (b : Nat) :
  ∀ (L : List (ByteArray × Int)) (l : List Oper) (a : Act) (w : World) (n : Nat) (D : DataW H),
   (l.take L.length).map (fun o => (o.guard, o.dst, o.op)) = L.map (fun p => (none, none, Op.insert t m (.const (.string p.1)) (.const (.int .i64 p.2)))) →
   n + L.length < maxLen → (∀ p ∈ L, p.1.size ≤ maxLen ∧ (Lit.int .i64 p.2).wf = true) → a.eval m = .map (some b) → w.ownsMap P k (plainElem P e) b n D →
   (∀ w', w'.ownsMap P k (plainElem P e) b (n + L.length) (L.foldl (fun m p => m.put (keyS p.1) (litI p.2)) D) → w.grownBy w' (some b) → wpList P ops Q (l.drop L.length) a w') → wpList P ops Q l a w
 | [], l, a, w, n, D, _, _, _, _, hown, hK => hK w hown ⟨rfl, rfl, rfl, Nat.le_refl _, fun _ _ _ => rfl⟩
 | p :: r, [], a, w, n, D, h, _, _, _, _, _ => by simp at h
 | p :: r, o :: l, a, w, n, D, h, hn, hp, hm, hown, hK => by
  simp only [List.length_cons, List.take_succ_cons, List.map_cons, List.cons.injEq, Prod.mk.injEq] at h hn
  obtain ⟨⟨hg, hd, hop⟩, hr⟩ := h
  refine wpList_plain hg fun K' hK' => ?_
  have hp0 := hp p (by simp)
  obtain ⟨w', hrun, r1, r2⟩ := hown.update K ht (by omega) (WideMaps.keyOf_string_mk hk hp0.1) (plainElem_int he hp0.2)
  have hev : ∀ v, a.eval (.const v) = v := fun _ => rfl
  unfold Oper.wp
  simp [execOp, hop, hm, hev, hrun, Result.andThen]
  refine hK' _ _ ?_
  rw [hd]
  refine (wpList_inserts t k e K hk ht he m b r l a w' (n + 1) _ hr (by omega) (fun q hq => hp q (by simp [hq])) hm r1 (fun w2 h1 h2 => ?_))
  have h3 := hK w2 (by simpa [Nat.add_assoc, Nat.add_comm 1] using h1) (r2.trans h2)
  simpa using h3
abbrev typesL : List (ByteArray × Int) := [(⟨#[118, 111, 105, 100]⟩, 0), (⟨#[105, 49]⟩, 1), (⟨#[105, 56]⟩, 8), (⟨#[105, 49, 54]⟩, 16), (⟨#[105, 51, 50]⟩, 32), (⟨#[105, 54, 52]⟩, 64), (⟨#[112, 116, 114]⟩, 65)]
theorem typesL_ok : apartB typesL = true := by kernel_rfl
theorem typeNaming_c {H : Type} (w : World) :
  Calls Tryz.prog 64 #[] w fun e w' => ∃ b n b2 n2 D, e = .returned (.agg #[.map (some b), .map (some b2)]) ∧ w'.ownsMap (H := H) Tryz.prog 9 (plainElem Tryz.prog 2) b n (numD typesL) ∧ w'.ownsMap Tryz.prog 2 spellElem b2 n2 D ∧ Full (H := H) typesL D ∧ w.heap.size ≤ b ∧ w.heap.size ≤ b2 ∧ Below w.heap.size w w' := by
 have hmm := @run_makeMap Tryz.prog
 have e2 : (w.alloc (Go.Obj.cells #[Go.Value.map none, Go.Value.map none] 63)).heap.size = w.heap.size + 1 := by simp
 go_enter Tryz.func64, Tryz.ntmps64
 go_wp2_with (first
  | (refine wpList_inserts (H := H) 60 9 2 lawS Tryz.underlying9 Tryz.underlying60 Tryz.underlying2 (.tmp 1) (w.heap.size + 1) typesL _ _ _ 0 (.map []) rfl (by decide) (by decide) rfl ?_ ?_)
  | go_in)
 ·rw [← e2]; exact World.ownsMap_made _ _ _ _
 ·intro w1 hown1 hg1
  simp only [typesL, List.length_cons, List.length_nil, Nat.zero_add, Nat.reduceAdd, List.drop_succ_cons, List.drop_zero]
  have hB : Below w.heap.size w w1 := ((bel_alloc w (Go.Obj.cells #[Go.Value.map none, Go.Value.map none] 63)).alloc (by simp) (Go.Obj.map #[] 0)).grown hg1 (by simp; omega) (fun j hj => by cases hj; omega)
  have C := namingOf_c (H := H) typesL typesL_ok (w.heap.size + 1) _ w1 hown1 (Nat.lt_of_le_of_lt hown1.size_le (by decide))
  have hr1 : w1.heap[w.heap.size]? = some (Go.Obj.cells #[Go.Value.map none, Go.Value.map none] 63 (0, 0)) := by
   exact tl50
  clear hg1
  go_wp2_with fail
  refine C.mono ?_
  rintro e w2 ⟨b2, n2, D, rfl, hA, hN, hF, hb2, hB2⟩
  have hr2 : w2.heap[w.heap.size]? = some (Go.Obj.cells #[Go.Value.map none, Go.Value.map none] 63 (0, 0)) := by
   rw [hB2.block _ (by have := hown1.lt; omega)]; exact hr1
  have hfz : ∀ k, w2.frozen? ⟨w.heap.size, k, none⟩ = false := by
   intro k
   simp [World.frozen?, hr2]
  have hca : w2.cell? ⟨w.heap.size, 0, none⟩ = some (.map none) := by simp [World.cell?, hr2]
  have hcb : w2.cell? ⟨w.heap.size, 1, none⟩ = some (.map none) := by simp [World.cell?, hr2]
  have hlt := hown1.lt
  have hL1 := ((hA.setCell (a := ⟨w.heap.size, 0, none⟩) (by simp) (.map (some (w.heap.size + 1)))).setCell (a := ⟨w.heap.size, 1, none⟩) (by simp) (.map (some b2)))
  have hL2 := ((hN.setCell (a := ⟨w.heap.size, 0, none⟩) (by simp; omega) (.map (some (w.heap.size + 1)))).setCell (a := ⟨w.heap.size, 1, none⟩) (by simp; omega) (.map (some b2)))
  have hL3 := ((bel_trans hB hB2).setCell (p := ⟨w.heap.size, 0, none⟩) (by simp) (.map (some (w.heap.size + 1)))).setCell (p := ⟨w.heap.size, 1, none⟩) (by simp) (.map (some b2))
  go_wp2
  refine bodyPost_ret (v := .agg #[.map (some (w.heap.size + 1)), .map (some b2)]) (by simp [results, Tryz.results64, go_sem, hca, hcb]) rfl ⟨_, _, _, _, D, rfl, hL1, hL2, hF, by omega, by omega, hL3⟩
abbrev opsL : List (ByteArray × Int) := [(⟨#[97, 100, 100]⟩, 1), (⟨#[115, 117, 98]⟩, 2), (⟨#[109, 117, 108]⟩, 3), (⟨#[117, 100, 105, 118]⟩, 4), (⟨#[115, 100, 105, 118]⟩, 5), (⟨#[117, 114, 101, 109]⟩, 6), (⟨#[115, 114, 101, 109]⟩, 7), (⟨#[115, 104, 108]⟩, 8), (⟨#[108, 115, 104, 114]⟩, 9), (⟨#[97, 115, 104, 114]⟩, 10), (⟨#[97, 110, 100]⟩, 11), (⟨#[111, 114]⟩, 12), (⟨#[120, 111, 114]⟩, 13), (⟨#[99, 109, 112]⟩, 14), (⟨#[115, 101, 108, 101, 99, 116]⟩, 15), (⟨#[122, 101, 120, 116]⟩, 16), (⟨#[115, 101, 120, 116]⟩, 17), (⟨#[116, 114, 117, 110, 99]⟩, 18), (⟨#[112, 104, 105]⟩, 20), (⟨#[97, 108, 108, 111, 99, 97]⟩, 21), (⟨#[108, 111, 97, 100]⟩, 22), (⟨#[115, 116, 111, 114, 101]⟩, 23), (⟨#[111, 102, 102, 115, 101, 116]⟩, 24), (⟨#[99, 97, 108, 108]⟩, 25), (⟨#[112, 114, 105, 110, 116]⟩, 26), (⟨#[106, 117, 109, 112]⟩, 27), (⟨#[98, 114, 97, 110, 99, 104]⟩, 28), (⟨#[115, 119, 105, 116, 99, 104]⟩, 29), (⟨#[114, 101, 116, 117, 114, 110]⟩, 30), (⟨#[116, 114, 97, 112]⟩, 31)]
theorem opsL_ok : apartB opsL = true := by kernel_rfl
theorem opNaming_c {H : Type} (w : World) :
  Calls Tryz.prog 65 #[] w fun e w' => ∃ b n b2 n2 D, e = .returned (.agg #[.map (some b), .map (some b2)]) ∧ w'.ownsMap (H := H) Tryz.prog 9 (plainElem Tryz.prog 2) b n (numD opsL) ∧ w'.ownsMap Tryz.prog 2 spellElem b2 n2 D ∧ Full (H := H) opsL D ∧ w.heap.size ≤ b ∧ w.heap.size ≤ b2 ∧ Below w.heap.size w w' := by
 have hmm := @run_makeMap Tryz.prog
 have e2 : (w.alloc (Go.Obj.cells #[Go.Value.map none, Go.Value.map none] 63)).heap.size = w.heap.size + 1 := by simp
 go_enter Tryz.func65, Tryz.ntmps65
 go_wp2_with (first
  | (refine wpList_inserts (H := H) 60 9 2 lawS Tryz.underlying9 Tryz.underlying60 Tryz.underlying2 (.tmp 1) (w.heap.size + 1) opsL _ _ _ 0 (.map []) rfl (by decide) (by decide) rfl ?_ ?_)
  | go_in)
 ·rw [← e2]; exact World.ownsMap_made _ _ _ _
 ·intro w1 hown1 hg1
  simp only [opsL, List.length_cons, List.length_nil, Nat.zero_add, Nat.reduceAdd, List.drop_succ_cons, List.drop_zero]
  have hB : Below w.heap.size w w1 := ((bel_alloc w (Go.Obj.cells #[Go.Value.map none, Go.Value.map none] 63)).alloc (by simp) (Go.Obj.map #[] 0)).grown hg1 (by simp; omega) (fun j hj => by cases hj; omega)
  have C := namingOf_c (H := H) opsL opsL_ok (w.heap.size + 1) _ w1 hown1 (Nat.lt_of_le_of_lt hown1.size_le (by decide))
  have hr1 : w1.heap[w.heap.size]? = some (Go.Obj.cells #[Go.Value.map none, Go.Value.map none] 63 (0, 0)) := by
   exact tl50
  clear hg1
  go_wp2_with fail
  refine C.mono ?_
  rintro e w2 ⟨b2, n2, D, rfl, hA, hN, hF, hb2, hB2⟩
  have hr2 : w2.heap[w.heap.size]? = some (Go.Obj.cells #[Go.Value.map none, Go.Value.map none] 63 (0, 0)) := by
   rw [hB2.block _ (by have := hown1.lt; omega)]; exact hr1
  have hfz : ∀ k, w2.frozen? ⟨w.heap.size, k, none⟩ = false := by
   intro k
   simp [World.frozen?, hr2]
  have hca : w2.cell? ⟨w.heap.size, 0, none⟩ = some (.map none) := by simp [World.cell?, hr2]
  have hcb : w2.cell? ⟨w.heap.size, 1, none⟩ = some (.map none) := by simp [World.cell?, hr2]
  have hlt := hown1.lt
  have hL1 := ((hA.setCell (a := ⟨w.heap.size, 0, none⟩) (by simp) (.map (some (w.heap.size + 1)))).setCell (a := ⟨w.heap.size, 1, none⟩) (by simp) (.map (some b2)))
  have hL2 := ((hN.setCell (a := ⟨w.heap.size, 0, none⟩) (by simp; omega) (.map (some (w.heap.size + 1)))).setCell (a := ⟨w.heap.size, 1, none⟩) (by simp; omega) (.map (some b2)))
  have hL3 := ((bel_trans hB hB2).setCell (p := ⟨w.heap.size, 0, none⟩) (by simp) (.map (some (w.heap.size + 1)))).setCell (p := ⟨w.heap.size, 1, none⟩) (by simp) (.map (some b2))
  go_wp2
  refine bodyPost_ret (v := .agg #[.map (some (w.heap.size + 1)), .map (some b2)]) (by simp [results, Tryz.results65, go_sem, hca, hcb]) rfl ⟨_, _, _, _, D, rfl, hL1, hL2, hF, by omega, by omega, hL3⟩
abbrev predsL : List (ByteArray × Int) := [(⟨#[101, 113]⟩, 1), (⟨#[110, 101]⟩, 2), (⟨#[117, 108, 116]⟩, 3), (⟨#[117, 108, 101]⟩, 4), (⟨#[117, 103, 116]⟩, 5), (⟨#[117, 103, 101]⟩, 6), (⟨#[115, 108, 116]⟩, 7), (⟨#[115, 108, 101]⟩, 8), (⟨#[115, 103, 116]⟩, 9), (⟨#[115, 103, 101]⟩, 10)]
theorem predsL_ok : apartB predsL = true := by kernel_rfl
theorem predNaming_c {H : Type} (w : World) :
  Calls Tryz.prog 66 #[] w fun e w' => ∃ b n b2 n2 D, e = .returned (.agg #[.map (some b), .map (some b2)]) ∧ w'.ownsMap (H := H) Tryz.prog 9 (plainElem Tryz.prog 2) b n (numD predsL) ∧ w'.ownsMap Tryz.prog 2 spellElem b2 n2 D ∧ Full (H := H) predsL D ∧ w.heap.size ≤ b ∧ w.heap.size ≤ b2 ∧ Below w.heap.size w w' := by
 have hmm := @run_makeMap Tryz.prog
 have e2 : (w.alloc (Go.Obj.cells #[Go.Value.map none, Go.Value.map none] 63)).heap.size = w.heap.size + 1 := by simp
 go_enter Tryz.func66, Tryz.ntmps66
 go_wp2_with (first
  | (refine wpList_inserts (H := H) 60 9 2 lawS Tryz.underlying9 Tryz.underlying60 Tryz.underlying2 (.tmp 1) (w.heap.size + 1) predsL _ _ _ 0 (.map []) rfl (by decide) (by decide) rfl ?_ ?_)
  | go_in)
 ·rw [← e2]; exact World.ownsMap_made _ _ _ _
 ·intro w1 hown1 hg1
  simp only [predsL, List.length_cons, List.length_nil, Nat.zero_add, Nat.reduceAdd, List.drop_succ_cons, List.drop_zero]
  have hB : Below w.heap.size w w1 := ((bel_alloc w (Go.Obj.cells #[Go.Value.map none, Go.Value.map none] 63)).alloc (by simp) (Go.Obj.map #[] 0)).grown hg1 (by simp; omega) (fun j hj => by cases hj; omega)
  have C := namingOf_c (H := H) predsL predsL_ok (w.heap.size + 1) _ w1 hown1 (Nat.lt_of_le_of_lt hown1.size_le (by decide))
  have hr1 : w1.heap[w.heap.size]? = some (Go.Obj.cells #[Go.Value.map none, Go.Value.map none] 63 (0, 0)) := by
   exact tl50
  clear hg1
  go_wp2_with fail
  refine C.mono ?_
  rintro e w2 ⟨b2, n2, D, rfl, hA, hN, hF, hb2, hB2⟩
  have hr2 : w2.heap[w.heap.size]? = some (Go.Obj.cells #[Go.Value.map none, Go.Value.map none] 63 (0, 0)) := by
   rw [hB2.block _ (by have := hown1.lt; omega)]; exact hr1
  have hfz : ∀ k, w2.frozen? ⟨w.heap.size, k, none⟩ = false := by
   intro k
   simp [World.frozen?, hr2]
  have hca : w2.cell? ⟨w.heap.size, 0, none⟩ = some (.map none) := by simp [World.cell?, hr2]
  have hcb : w2.cell? ⟨w.heap.size, 1, none⟩ = some (.map none) := by simp [World.cell?, hr2]
  have hlt := hown1.lt
  have hL1 := ((hA.setCell (a := ⟨w.heap.size, 0, none⟩) (by simp) (.map (some (w.heap.size + 1)))).setCell (a := ⟨w.heap.size, 1, none⟩) (by simp) (.map (some b2)))
  have hL2 := ((hN.setCell (a := ⟨w.heap.size, 0, none⟩) (by simp; omega) (.map (some (w.heap.size + 1)))).setCell (a := ⟨w.heap.size, 1, none⟩) (by simp; omega) (.map (some b2)))
  have hL3 := ((bel_trans hB hB2).setCell (p := ⟨w.heap.size, 0, none⟩) (by simp) (.map (some (w.heap.size + 1)))).setCell (p := ⟨w.heap.size, 1, none⟩) (by simp) (.map (some b2))
  go_wp2
  refine bodyPost_ret (v := .agg #[.map (some (w.heap.size + 1)), .map (some b2)]) (by simp [results, Tryz.results66, go_sem, hca, hcb]) rfl ⟨_, _, _, _, D, rfl, hL1, hL2, hF, by omega, by omega, hL3⟩
abbrev linksL : List (ByteArray × Int) := [(⟨#[101, 120, 116, 101, 114, 110]⟩, 0), (⟨#[115, 116, 114, 111, 110, 103]⟩, 1), (⟨#[119, 101, 97, 107]⟩, 2), (⟨#[108, 111, 99, 97, 108]⟩, 3)]
theorem linksL_ok : apartB linksL = true := by kernel_rfl
theorem linkNaming_c {H : Type} (w : World) :
  Calls Tryz.prog 67 #[] w fun e w' => ∃ b n b2 n2 D, e = .returned (.agg #[.map (some b), .map (some b2)]) ∧ w'.ownsMap (H := H) Tryz.prog 9 (plainElem Tryz.prog 2) b n (numD linksL) ∧ w'.ownsMap Tryz.prog 2 spellElem b2 n2 D ∧ Full (H := H) linksL D ∧ w.heap.size ≤ b ∧ w.heap.size ≤ b2 ∧ Below w.heap.size w w' := by
 have hmm := @run_makeMap Tryz.prog
 have e2 : (w.alloc (Go.Obj.cells #[Go.Value.map none, Go.Value.map none] 63)).heap.size = w.heap.size + 1 := by simp
 go_enter Tryz.func67, Tryz.ntmps67
 go_wp2_with (first
  | (refine wpList_inserts (H := H) 60 9 2 lawS Tryz.underlying9 Tryz.underlying60 Tryz.underlying2 (.tmp 1) (w.heap.size + 1) linksL _ _ _ 0 (.map []) rfl (by decide) (by decide) rfl ?_ ?_)
  | go_in)
 ·rw [← e2]; exact World.ownsMap_made _ _ _ _
 ·intro w1 hown1 hg1
  simp only [linksL, List.length_cons, List.length_nil, Nat.zero_add, Nat.reduceAdd, List.drop_succ_cons, List.drop_zero]
  have hB : Below w.heap.size w w1 := ((bel_alloc w (Go.Obj.cells #[Go.Value.map none, Go.Value.map none] 63)).alloc (by simp) (Go.Obj.map #[] 0)).grown hg1 (by simp; omega) (fun j hj => by cases hj; omega)
  have C := namingOf_c (H := H) linksL linksL_ok (w.heap.size + 1) _ w1 hown1 (Nat.lt_of_le_of_lt hown1.size_le (by decide))
  have hr1 : w1.heap[w.heap.size]? = some (Go.Obj.cells #[Go.Value.map none, Go.Value.map none] 63 (0, 0)) := by
   exact tl50
  clear hg1
  go_wp2_with fail
  refine C.mono ?_
  rintro e w2 ⟨b2, n2, D, rfl, hA, hN, hF, hb2, hB2⟩
  have hr2 : w2.heap[w.heap.size]? = some (Go.Obj.cells #[Go.Value.map none, Go.Value.map none] 63 (0, 0)) := by
   rw [hB2.block _ (by have := hown1.lt; omega)]; exact hr1
  have hfz : ∀ k, w2.frozen? ⟨w.heap.size, k, none⟩ = false := by
   intro k
   simp [World.frozen?, hr2]
  have hca : w2.cell? ⟨w.heap.size, 0, none⟩ = some (.map none) := by simp [World.cell?, hr2]
  have hcb : w2.cell? ⟨w.heap.size, 1, none⟩ = some (.map none) := by simp [World.cell?, hr2]
  have hlt := hown1.lt
  have hL1 := ((hA.setCell (a := ⟨w.heap.size, 0, none⟩) (by simp) (.map (some (w.heap.size + 1)))).setCell (a := ⟨w.heap.size, 1, none⟩) (by simp) (.map (some b2)))
  have hL2 := ((hN.setCell (a := ⟨w.heap.size, 0, none⟩) (by simp; omega) (.map (some (w.heap.size + 1)))).setCell (a := ⟨w.heap.size, 1, none⟩) (by simp; omega) (.map (some b2)))
  have hL3 := ((bel_trans hB hB2).setCell (p := ⟨w.heap.size, 0, none⟩) (by simp) (.map (some (w.heap.size + 1)))).setCell (p := ⟨w.heap.size, 1, none⟩) (by simp) (.map (some b2))
  go_wp2
  refine bodyPost_ret (v := .agg #[.map (some (w.heap.size + 1)), .map (some b2)]) (by simp [results, Tryz.results67, go_sem, hca, hcb]) rfl ⟨_, _, _, _, D, rfl, hL1, hL2, hF, by omega, by omega, hL3⟩
abbrev flagsL : List (ByteArray × Int) := [(⟨#[110, 117, 119]⟩, 2), (⟨#[110, 115, 119]⟩, 1), (⟨#[101, 120, 97, 99, 116]⟩, 4)]
theorem flagsL_ok : apartB flagsL = true := by kernel_rfl
theorem flagNaming_c {H : Type} (w : World) :
  Calls Tryz.prog 68 #[] w fun e w' => ∃ b n b2 n2 D, e = .returned (.agg #[.map (some b), .map (some b2)]) ∧ w'.ownsMap (H := H) Tryz.prog 9 (plainElem Tryz.prog 2) b n (numD flagsL) ∧ w'.ownsMap Tryz.prog 2 spellElem b2 n2 D ∧ Full (H := H) flagsL D ∧ w.heap.size ≤ b ∧ w.heap.size ≤ b2 ∧ Below w.heap.size w w' := by
 have hmm := @run_makeMap Tryz.prog
 have e2 : (w.alloc (Go.Obj.cells #[Go.Value.map none, Go.Value.map none] 63)).heap.size = w.heap.size + 1 := by simp
 go_enter Tryz.func68, Tryz.ntmps68
 go_wp2_with (first
  | (refine wpList_inserts (H := H) 60 9 2 lawS Tryz.underlying9 Tryz.underlying60 Tryz.underlying2 (.tmp 1) (w.heap.size + 1) flagsL _ _ _ 0 (.map []) rfl (by decide) (by decide) rfl ?_ ?_)
  | go_in)
 ·rw [← e2]; exact World.ownsMap_made _ _ _ _
 ·intro w1 hown1 hg1
  simp only [flagsL, List.length_cons, List.length_nil, Nat.zero_add, Nat.reduceAdd, List.drop_succ_cons, List.drop_zero]
  have hB : Below w.heap.size w w1 := ((bel_alloc w (Go.Obj.cells #[Go.Value.map none, Go.Value.map none] 63)).alloc (by simp) (Go.Obj.map #[] 0)).grown hg1 (by simp; omega) (fun j hj => by cases hj; omega)
  have C := namingOf_c (H := H) flagsL flagsL_ok (w.heap.size + 1) _ w1 hown1 (Nat.lt_of_le_of_lt hown1.size_le (by decide))
  have hr1 : w1.heap[w.heap.size]? = some (Go.Obj.cells #[Go.Value.map none, Go.Value.map none] 63 (0, 0)) := by
   exact tl50
  clear hg1
  go_wp2_with fail
  refine C.mono ?_
  rintro e w2 ⟨b2, n2, D, rfl, hA, hN, hF, hb2, hB2⟩
  have hr2 : w2.heap[w.heap.size]? = some (Go.Obj.cells #[Go.Value.map none, Go.Value.map none] 63 (0, 0)) := by
   rw [hB2.block _ (by have := hown1.lt; omega)]; exact hr1
  have hfz : ∀ k, w2.frozen? ⟨w.heap.size, k, none⟩ = false := by
   intro k
   simp [World.frozen?, hr2]
  have hca : w2.cell? ⟨w.heap.size, 0, none⟩ = some (.map none) := by simp [World.cell?, hr2]
  have hcb : w2.cell? ⟨w.heap.size, 1, none⟩ = some (.map none) := by simp [World.cell?, hr2]
  have hlt := hown1.lt
  have hL1 := ((hA.setCell (a := ⟨w.heap.size, 0, none⟩) (by simp) (.map (some (w.heap.size + 1)))).setCell (a := ⟨w.heap.size, 1, none⟩) (by simp) (.map (some b2)))
  have hL2 := ((hN.setCell (a := ⟨w.heap.size, 0, none⟩) (by simp; omega) (.map (some (w.heap.size + 1)))).setCell (a := ⟨w.heap.size, 1, none⟩) (by simp; omega) (.map (some b2)))
  have hL3 := ((bel_trans hB hB2).setCell (p := ⟨w.heap.size, 0, none⟩) (by simp) (.map (some (w.heap.size + 1)))).setCell (p := ⟨w.heap.size, 1, none⟩) (by simp) (.map (some b2))
  go_wp2
  refine bodyPost_ret (v := .agg #[.map (some (w.heap.size + 1)), .map (some b2)]) (by simp [results, Tryz.results68, go_sem, hca, hcb]) rfl ⟨_, _, _, _, D, rfl, hL1, hL2, hF, by omega, by omega, hL3⟩
end Go.Proofs.YtgdcgjlmkmdklaaGreatDoor

namespace Go.Proofs.YtgdcgjlmkmdklaaGreatDoor
open Go.ChangeShapes Go.WideShapes Go.ChangeAt Go.RowKit Go.Maps
set_option linter.unusedVariables false
set_option linter.unusedSimpArgs false
theorem wpList_buildStrs {P : Program} {ops : Array Oper} {rest : List Oper} {o : Oper} {a : Act} {w : World} {Q : Exit → Act → World → Prop} (hg : o.guard = none) (t e : TypeId) (len : Nat) (parts : Array (Nat × Operand)) (ho : o.op = .buildSlice t len parts)
  (ss : List ByteArray) (hu : P.underlying t = some (.slice e)) (hsz : (P.info? e).map (·.size) = some 1) (hz : ((P.info? e).bind (·.zero)).isSome = true)
  (hlen : len = ss.length) (hpos : 0 < len) (hsmall : len ≤ 2 ^ 24)
  (hparts : parts.toList = (ss.zipIdx 0).map fun x => (x.2, Operand.const (Value.string x.1)))
  (h : ∀ w', Below w.heap.size w w' → (∀ k (hk : k < ss.length), w'.cell? ⟨w.heap.size, k, none⟩ = some (.string ss[k])) → wpList P ops Q rest (a.put o.dst (.slice (some ⟨w.heap.size, 0, none⟩) len len)) w') : wpList P ops Q (o :: rest) a w := by
 cases hie : P.info? e with
 | none => simp [hie] at hsz
 | some ie =>
  simp only [hie, Option.map_some, Option.some.injEq, Option.bind_some] at hsz hz
  obtain ⟨z, hzz⟩ := Option.isSome_iff_exists.1 hz
  refine wpList_buildSlice hg t e len parts ho _ ie z hu hie hzz (by rw [hsz]; omega) (by rw [hsz]; omega) ?_ (h (w.alloc (.cells (ss.map Value.string).toArray e)) (bel_alloc _ _) fun k hk => ?_)
  ·have e1 : (parts.map fun (i, x) => (i, a.eval x)).toList = ((ss.map Value.string).zipIdx 0).map fun x => (x.2, x.1) := by
    rw [Array.toList_map, hparts, List.zipIdx_map, List.map_map, List.map_map]
    rfl
   exact tl119
  ·unfold World.cell?
   simp only [(MapKept.heap_alloc w _).1]
   simp [hk]
theorem infoS : (Tryz.prog.info? 9).map (·.size) = some 1 := by kernel_rfl
theorem infoZ : ((Tryz.prog.info? 9).bind (·.zero)).isSome = true := by kernel_rfl
abbrev predT : List ByteArray := ByteArray.empty :: predsL.map (·.1)
abbrev opT1 : List ByteArray := ByteArray.empty :: (opsL.take 18).map (·.1)
abbrev opT2 : List ByteArray := (opsL.drop 18).map (·.1)
theorem pred_cell {w1 : World} {B : Nat} (c : Int) (h1 : ¬ c < 1) (h2 : ¬ 10 < c) (h : ∀ k (hk : k < predT.length), w1.cell? ⟨B, k, none⟩ = some (.string predT[k])) : w1.cell? ⟨B, c.toNat, none⟩ = some (.string (nmOf predsL c)) := by
 have e : ((List.range 11).all fun k => decide (predT.getD k ByteArray.empty = nmOf predsL k)) = true := by kernel_rfl
 have hk : c.toNat < predT.length := by show c.toNat < 11; omega
 exact tl88
theorem op1_cell {w1 : World} {B : Nat} (c : Int) (h1 : 1 ≤ c) (h2 : c ≤ 18) (h : ∀ k (hk : k < opT1.length), w1.cell? ⟨B, k, none⟩ = some (.string opT1[k])) : w1.cell? ⟨B, c.toNat, none⟩ = some (.string (nmOf opsL c)) := by
 have e : ((List.range 19).all fun k => decide (opT1.getD k ByteArray.empty = nmOf opsL k)) = true := by kernel_rfl
 have hk : c.toNat < opT1.length := by show c.toNat < 19; omega
 exact tl88
theorem op2_cell {w1 : World} {B : Nat} (c : Int) (h1 : 20 ≤ c) (h2 : c ≤ 31) (h : ∀ k (hk : k < opT2.length), w1.cell? ⟨B, k, none⟩ = some (.string opT2[k])) : w1.cell? ⟨B, (c - 20).toNat, none⟩ = some (.string (nmOf opsL c)) := by
 have e : ((List.range 12).all fun k => decide (opT2.getD k ByteArray.empty = nmOf opsL (k + 20))) = true := by kernel_rfl
 have hk : (c - 20).toNat < opT2.length := by show (c - 20).toNat < 12; omega
 have := List.all_eq_true.1 e (c - 20).toNat (by simp; omega)
 rw [h (c - 20).toNat hk]
 simp only [decide_eq_true_eq, List.getD_eq_getElem?_getD, List.getElem?_eq_getElem hk, Option.getD_some] at this
 rw [this, show (((c - 20).toNat : Nat) : Int) + 20 = c by omega]
theorem nm_none {L : List (ByteArray × Int)} {c : Int} (h : (L.all fun p => !(p.2 == c)) = true) : nmOf L c = ByteArray.empty := by
 unfold nmOf nameOf
 rw [List.find?_eq_none.2 (fun p hp => by simpa using List.all_eq_true.1 h p hp)]
 rfl
theorem PredNameS (c : Int) (w : World) :
  Calls Tryz.prog 115 #[.int .i64 c] w fun e w' => e = .returned (.string (nmOf predsL c)) ∧ Below w.heap.size w w' := by
 by_cases h1 : c < 1
 ·exact tl99
 by_cases h2 : 10 < c
 ·exact tl99
 have X : Kp _ := ⟨fun w1 => pred_cell (w1 := w1) (B := w.heap.size) c h1 h2⟩
 generalize nmOf predsL c = N at *
 go_enter Tryz.func115, Tryz.ntmps115
 go_wp2_with (first
  | (refine wpList_buildStrs rfl 122 9 11 _ rfl predT Tryz.underlying122 infoS infoZ rfl (by decide) (by decide) rfl ?_; intro w1 hb1 hc1; replace hc1 := X.out _ hc1)
  | go_in)
 go_ret
 exact ⟨rfl, hb1⟩
theorem OpNameS (c : Int) (w : World) :
  Calls Tryz.prog 113 #[.int .i64 c] w fun e w' => e = .returned (.string (nmOf opsL c)) ∧ Below w.heap.size w w' := by
 by_cases hA : 1 ≤ c ∧ c ≤ 18
 ·obtain ⟨h1, h2⟩ := hA
  have X : Kp _ := ⟨fun w1 => op1_cell (w1 := w1) (B := w.heap.size) c h1 h2⟩
  generalize nmOf opsL c = N at *
  go_enter Tryz.func113, Tryz.ntmps113
  go_wp2_with (first
   | (refine wpList_buildStrs rfl 122 9 19 _ rfl opT1 Tryz.underlying122 infoS infoZ rfl (by decide) (by decide) rfl ?_; intro w1 hb1 hc1; replace hc1 := X.out _ hc1)
   | go_in)
  go_ret
  exact ⟨rfl, hb1⟩
 by_cases hB : 20 ≤ c ∧ c ≤ 31
 ·obtain ⟨h1, h2⟩ := hB
  have h3 : ¬ c ≤ 18 := by omega
  have X : Kp _ := ⟨fun w1 => op2_cell (w1 := w1) (B := w.heap.size) c h1 h2⟩
  generalize nmOf opsL c = N at *
  clear hA
  go_enter Tryz.func113, Tryz.ntmps113
  go_wp2_with (first
   | (refine wpList_buildStrs rfl 122 9 12 _ rfl opT2 Tryz.underlying122 infoS infoZ rfl (by decide) (by decide) rfl ?_; intro w1 hb1 hc1; replace hc1 := X.out _ hc1)
   | go_in)
  go_ret
  exact ⟨rfl, hb1⟩
 have he : Kp (nmOf opsL c = ByteArray.empty) := ⟨nm_none (by simp; omega)⟩
 have h3 : c < 1 ∨ c = 19 ∨ 31 < c := by omega
 clear hA hB
 rcases h3 with h | rfl | h
 all_goals
  go_enter Tryz.func113, Tryz.ntmps113
  go_wp2
  go_ret
  exact ⟨by rw [he.out]; rfl, Below.refl _ _⟩
end Go.Proofs.YtgdcgjlmkmdklaaGreatDoor

namespace Go.Proofs.YtgdcgjlmkmdklaaGreatDoor
open Go.ChangeShapes Go.WideShapes Go.ChangeAt Go.RowKit Go.Maps
set_option linter.unusedVariables false
set_option linter.unusedSimpArgs false
set_option maxHeartbeats 1000000 in
theorem TypeNameS (c : Int) (w : World) :
  Calls Tryz.prog 74 #[.int .i64 c] w fun e w' => e = .returned (.string (nmOf typesL c)) ∧ Below w.heap.size w w' := by
 by_cases h0 : c = 0
 ·subst h0
  as_aux_lemma =>
   exact tl53
 by_cases h1 : c = 1
 ·clear h0
  subst h1
  as_aux_lemma =>
   exact tl53
 by_cases h8 : c = 8
 ·clear h0 h1
  subst h8
  as_aux_lemma =>
   exact tl53
 by_cases h16 : c = 16
 ·clear h0 h1 h8
  subst h16
  as_aux_lemma =>
   exact tl53
 by_cases h32 : c = 32
 ·clear h0 h1 h8 h16
  subst h32
  as_aux_lemma =>
   exact tl53
 by_cases h64 : c = 64
 ·clear h0 h1 h8 h16 h32
  subst h64
  as_aux_lemma =>
   exact tl53
 by_cases h65 : c = 65
 ·clear h0 h1 h8 h16 h32 h64
  subst h65
  as_aux_lemma =>
   exact tl53
 have he : Kp (nmOf typesL c = ByteArray.empty) := ⟨nm_none (by simp [typesL]; omega)⟩
 go_enter Tryz.func74, Tryz.ntmps74
 go_wp2
 all_goals first | (exfalso; omega) | skip
 all_goals
  go_ret
  exact ⟨by rw [he.out]; rfl, Below.refl _ _⟩
end Go.Proofs.YtgdcgjlmkmdklaaGreatDoor
