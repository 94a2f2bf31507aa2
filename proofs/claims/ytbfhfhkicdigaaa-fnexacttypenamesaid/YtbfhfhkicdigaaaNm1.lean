/- Maps of names and numbers: what they read as, and the operations on them. -/
import Derived.Test.YtbfhfhkicdigaaaRows
import Derived.WalkKit
import Derived.ProofKit
import Derived.Below
import Derived.Maps.RangeWalk
namespace Go.Proofs.Ytbfhfhkicdigaaa
open Go.ChangeShapes Go.WideShapes Go.ChangeAt Go.RowKit Go.Maps
set_option linter.unusedVariables false
set_option linter.unusedSimpArgs false
structure Kp (p : Prop) : Prop where
  out : p
theorem bel_alloc (w : World) (o : Obj) : Below w.heap.size w (w.alloc o) := (Below.refl _ _).alloc (Nat.le_refl _) o
theorem bel_trans {a b c : World} (h : Below a.heap.size a b) (k : Below b.heap.size b c) : Below a.heap.size a c := h.trans (k.mono h.size)
theorem ret_str {a b : ByteArray} (h : a = b) : Ending.returned (.string a) = .returned (.string b) := by rw [h]
abbrev litS {H : Type} (s : ByteArray) : DataW H := .lit (.string s.data.toList)
abbrev litI {H : Type} (c : Int) : DataW H := .lit (.int .i64 c)
abbrev keyS (s : ByteArray) : Lit := .string s.data.toList
/-- A struct of one text, as it reads. -/
def spellElem {H : Type} : Value → Option (DataW H × List MemPlace)
  | .agg ⟨[.string s]⟩ => some (litS s, [])
  | _ => none
theorem spell_mk {H : Type} (s : ByteArray) : spellElem (H := H) (.agg #[.string s]) = some (litS s, []) := rfl
theorem spell_inv {H : Type} {v : Value} {z : DataW H × List MemPlace} (h : spellElem v = some z) : ∃ s, v = .agg #[.string s] ∧ z = (litS s, []) := by
  unfold spellElem at h
  split at h
  · cases h; exact ⟨_, rfl, rfl⟩
  · cases h
theorem keyS_inj {a b : ByteArray} (h : keyS a = keyS b) : a = b := by
  cases a; cases b
  simp only [keyS, Lit.string.injEq] at h
  rename_i x y
  cases x; cases y
  simp at h
  rw [h]
theorem keyOf_string_inv {P : Program} {k : TypeId} (hk : P.underlying k = some .string) {key : Value} {kl : Lit} (h : keyOf P k key = some kl) : ∃ s, key = .string s ∧ kl = keyS s := by
  cases key <;> simp [keyOf, hk, mapKey] at h
  obtain ⟨_, rfl⟩ := h
  exact ⟨_, rfl, rfl⟩
/-- Names to numbers, laid one after the other. -/
def numD {H : Type} (L : List (ByteArray × Int)) : DataW H := L.foldl (fun m p => m.put (keyS p.1) (litI p.2)) (.map [])
theorem numD_snoc {H : Type} (L : List (ByteArray × Int)) (p : ByteArray × Int) : numD (H := H) (L ++ [p]) = (numD L).put (keyS p.1) (litI p.2) := by simp [numD, List.foldl_append]
theorem keyS_isKey (s : ByteArray) : WideAt.IsKeyLit (keyS s) := trivial
/-- What a list of names and numbers, no name and no number twice, says of a number. -/
def nameOf (L : List (ByteArray × Int)) (c : Int) : Option ByteArray := (L.find? fun p => p.2 == c).map (·.1)
def numOf (L : List (ByteArray × Int)) (s : ByteArray) : Option Int := (L.find? fun p => decide (p.1 = s)).map (·.2)
def apartB (L : List (ByteArray × Int)) : Bool := L.all fun p => decide (nameOf L p.2 = some p.1) && decide (numOf L p.1 = some p.2)
theorem nameOf_mem {L : List (ByteArray × Int)} {c : Int} {s : ByteArray} (h : nameOf L c = some s) : (s, c) ∈ L := by
  unfold nameOf at h
  cases hf : L.find? (fun p => p.2 == c) with
  | none => rw [hf] at h; cases h
  | some p =>
    rw [hf] at h
    cases h
    have h1 := List.mem_of_find?_eq_some hf
    have h2 := List.find?_some hf
    have : p.2 = c := by simpa using h2
    rw [← this]; exact h1
theorem numOf_mem {L : List (ByteArray × Int)} {c : Int} {s : ByteArray} (h : numOf L s = some c) : (s, c) ∈ L := by
  unfold numOf at h
  cases hf : L.find? (fun p => decide (p.1 = s)) with
  | none => rw [hf] at h; cases h
  | some p =>
    rw [hf] at h
    cases h
    have h1 := List.mem_of_find?_eq_some hf
    have h2 := List.find?_some hf
    have : p.1 = s := by simpa using h2
    rw [← this]; exact h1
theorem apart_name {L : List (ByteArray × Int)} (h : apartB L = true) {s : ByteArray} {c : Int} (hm : (s, c) ∈ L) : nameOf L c = some s := by
  have := List.all_eq_true.1 h _ hm
  simp only [Bool.and_eq_true, decide_eq_true_eq] at this
  exact this.1
theorem apart_num {L : List (ByteArray × Int)} (h : apartB L = true) {s : ByteArray} {c : Int} (hm : (s, c) ∈ L) : numOf L s = some c := by
  have := List.all_eq_true.1 h _ hm
  simp only [Bool.and_eq_true, decide_eq_true_eq] at this
  exact this.2
theorem isMap_numD {H : Type} (L : List (ByteArray × Int)) : IsMap (numD (H := H) L) := by
  unfold numD
  generalize hm : (DataW.map [] : DataW H) = m
  have h : IsMap m := hm ▸ isMap_empty
  clear hm
  induction L generalizing m with
  | nil => exact h
  | cons p r ih => exact ih _ (h.put _ _)
theorem fold_at {H : Type} (k : Lit) : ∀ (L : List (ByteArray × Int)) (m : DataW H), IsMap m →
    (((∀ zd, (L.foldl (fun m p => m.put (keyS p.1) (litI p.2)) m).atKey k zd = m.atKey k zd) ∧ has (L.foldl (fun m p => m.put (keyS p.1) (litI p.2)) m) k = has m k ∧ (∀ p ∈ L, keyS p.1 ≠ k)) ∨
      ∃ p ∈ L, keyS p.1 = k ∧ has (L.foldl (fun m p => m.put (keyS p.1) (litI p.2)) m) k = true ∧ ∀ zd, (L.foldl (fun m p => m.put (keyS p.1) (litI p.2)) m).atKey k zd = litI p.2)
  | [], m, _ => .inl ⟨fun _ => rfl, rfl, by simp⟩
  | p :: r, m, hm => by
    rw [List.foldl_cons]
    rcases fold_at k r (m.put (keyS p.1) (litI p.2)) (hm.put _ _) with ⟨h1, h2, h3⟩ | ⟨q, h1, h2, h3, h4⟩
    · by_cases e : keyS p.1 = k
      · subst e
        exact .inr ⟨p, by simp, rfl, by rw [h2]; exact has_put_same hm (keyS_isKey _) _, fun zd => by rw [h1]; exact atKey_put_same hm (keyS_isKey _) _ _⟩
      · refine .inl ⟨fun zd => by rw [h1, atKey_put_other (fun h => e h.symm)], by rw [h2, has_put_other (fun h => e h.symm)], fun q hq => ?_⟩
        rcases List.mem_cons.1 hq with hq | hq
        · rw [hq]; exact e
        · exact h3 q hq
    · exact .inr ⟨q, by simp [h1], h2, h3, h4⟩
/-- What the map of names reads as at a key: the number that was laid there last, else nothing. -/
theorem numD_at {H : Type} (L : List (ByteArray × Int)) (k : Lit) : ((∀ zd, (numD (H := H) L).atKey k zd = zd) ∧ has (numD (H := H) L) k = false ∧ (∀ p ∈ L, keyS p.1 ≠ k)) ∨ ∃ p ∈ L, keyS p.1 = k ∧ has (numD (H := H) L) k = true ∧ ∀ zd, (numD (H := H) L).atKey k zd = litI p.2 := by
  rcases fold_at (H := H) k L (.map []) isMap_empty with ⟨h1, h2, h3⟩ | h
  · exact .inl ⟨h1, h2, h3⟩
  · exact .inr h
theorem numD_name {H : Type} {L : List (ByteArray × Int)} (h : apartB L = true) {k : Lit} {c : Int} (hat : ∀ zd, (numD (H := H) L).atKey k zd = litI c) : ∃ s, k = keyS s ∧ nameOf L c = some s := by
  rcases numD_at (H := H) L k with ⟨h1, -, -⟩ | ⟨p, h1, h2, -, h4⟩
  · have := hat .nil
    rw [h1] at this
    cases this
  · have := (h4 .nil).symm.trans (hat .nil)
    simp only [litI, DataW.lit.injEq, Lit.int.injEq, true_and] at this
    exact ⟨p.1, h2.symm, apart_name h (by rw [← this]; exact h1)⟩
theorem numD_look {H : Type} {L : List (ByteArray × Int)} (h : apartB L = true) (s : ByteArray) (zd : DataW H) : (numD (H := H) L).atKey (keyS s) zd = (match numOf L s with | some c => litI c | none => zd) ∧ has (numD (H := H) L) (keyS s) = (numOf L s).isSome := by
  rcases numD_at (H := H) L (keyS s) with ⟨h1, h2, h3⟩ | ⟨p, h1, h2, h3, h4⟩
  · have e : numOf L s = none := by
      cases hn : numOf L s with
      | none => rfl
      | some c => exact absurd rfl (h3 _ (numOf_mem hn))
    rw [e, h1, h2]; exact ⟨rfl, rfl⟩
  · have e : numOf L s = some p.2 := by
      obtain rfl := keyS_inj h2
      exact apart_num h h1
    rw [e, h4, h3]; exact ⟨rfl, rfl⟩
/-- Numbers to names: just those names that are no longer to come. -/
def Half {H : Type} (L : List (ByteArray × Int)) (left : Lit → Bool) (D : DataW H) : Prop :=
  ∀ c zd, D.atKey (.int .i64 c) zd = match nameOf L c with | some s => if left (keyS s) then zd else litS s | none => zd
theorem half_start {H : Type} {L : List (ByteArray × Int)} : Half L (has (numD (H := H) L)) (.map [] : DataW H) := by
  intro c zd
  cases hn : nameOf L c with
  | none => rfl
  | some s =>
    rcases numD_at (H := H) L (keyS s) with ⟨h1, h2, h3⟩ | ⟨p, h1, h2, h3, h4⟩
    · exact absurd rfl (h3 _ (nameOf_mem hn))
    · show _ = if has (numD (H := H) L) (keyS s) = true then zd else litS s
      rw [h3]; rfl
theorem half_step {H : Type} {L : List (ByteArray × Int)} (ha : apartB L = true) {left : Lit → Bool} {D : DataW H} (hD : IsMap D) (h : Half L left D) {s : ByteArray} {c : Int} (hn : nameOf L c = some s) :
    Half L (fun z => left z && !z.sameKey (keyS s)) (D.put (.int .i64 c) (litS s)) := by
  intro c' zd
  by_cases e : c' = c
  · subst e
    rw [hn, atKey_put_same hD (show WideAt.IsKeyLit (.int .i64 c') from trivial)]
    simp [WideAt.sameKey_self (keyS_isKey s)]
  · rw [atKey_put_other (by intro q; cases q; exact e rfl), h c' zd]
    cases hn' : nameOf L c' with
    | none => rfl
    | some s' =>
      have : keyS s' ≠ keyS s := by
        intro q
        obtain rfl := keyS_inj q
        have q1 := apart_num ha (nameOf_mem hn')
        rw [apart_num ha (nameOf_mem hn)] at q1
        cases q1
        exact e rfl
      simp [sameKey_ne this]
/-- All names are in: what the map of numbers reads as. -/
def Full {H : Type} (L : List (ByteArray × Int)) (D : DataW H) : Prop := ∀ c zd, D.atKey (.int .i64 c) zd = match nameOf L c with | some s => litS s | none => zd
theorem half_end {H : Type} {L : List (ByteArray × Int)} {left : Lit → Bool} {D : DataW H} (h : Half L left D) (hl : ∀ k, left k = false) : Full L D := by
  intro c zd
  rw [h c zd]
  cases nameOf L c with
  | none => rfl
  | some s => simp [hl]
/-- The text that stands for a number; the empty one of others. -/
def nmOf (L : List (ByteArray × Int)) (c : Int) : ByteArray := (nameOf L c).getD ByteArray.empty
theorem full_at {H : Type} {L : List (ByteArray × Int)} {D : DataW H} (h : Full L D) (c : Int) : D.atKey (.int .i64 c) (litS ByteArray.empty) = litS (nmOf L c) := by
  rw [h]
  unfold nmOf
  cases nameOf L c <;> rfl
section
variable {H : Type} {P : Program} (w : World) {ops : Array Oper} {rest : List Oper} {o : Oper} {a : Act} {Q : Exit → Act → World → Prop}
/-- The step over a map of texts and numbers. -/
theorem wpList_next_si (hg : o.guard = none) (it : Operand) (hop : o.op = Op.next it false) (k e : TypeId) (K : Keyed P k) (hk : P.underlying k = some .string) (he : P.underlying e = some (.int .i64))
    (b r n : Nat) (D : DataW H) (left : Lit → Bool) (cnt : Nat) (hit : a.eval it = .pointer (some ⟨r, 0, none⟩)) (h : w.ranges P k (plainElem P e) b r n D left cnt)
    (hDone : cnt = 0 → (∀ kl, left kl = false) → wpList P ops Q rest (a.put o.dst (.tuple #[.bool false])) w)
    (hMore : ∀ (s : ByteArray) (c : Int) (w' : World) (cnt' : Nat), (Lit.int .i64 c).wf = true → (∀ zd, D.atKey (keyS s) zd = litI c) → w'.ranges P k (plainElem P e) b r n D (fun z => left z && !z.sameKey (keyS s)) cnt' → cnt' < cnt →
      w.grownBy w' (some r) → w'.heap.size = w.heap.size → (Instr.entry (.pointer (some ⟨r, 0, none⟩))).run P w' = .ok (.tuple #[.string s, .int .i64 c]) w' → wpList P ops Q rest (a.put o.dst (.tuple #[.bool true, .string s, .int .i64 c])) w') :
    wpList P ops Q (o :: rest) a w :=
  wpList_next_ranges w hg it hop k K (plainElem P e) Value.string (Value.int .i64) (fun key kl hkey => by obtain ⟨s, rfl, _⟩ := keyOf_string_inv hk hkey; exact ⟨s, rfl⟩) (fun v y hv => by obtain ⟨c, rfl, _⟩ := plainElem_int_inv he hv; exact ⟨c, rfl⟩)
    b r n D left cnt hit h hDone (fun s c kl y w' cnt' hkey hlk hv hat hrg hlt hgr hsz hen => by
      obtain ⟨s', es, rfl⟩ := keyOf_string_inv hk hkey
      cases es
      obtain ⟨c', ec, rfl, hwc⟩ := plainElem_int_inv he hv
      cases ec
      exact hMore s c w' cnt' hwc hat hrg hlt hgr hsz hen)
/-- A look-up in a map of structs of one text. -/
theorem wpList_lookup_spell (hg : o.guard = none) (m x : Operand) (t : TypeId) (hop : o.op = Op.lookup t m x false)
    (k e : TypeId) (K : Keyed P k) (ht : P.underlying t = some (.map k e)) (hz : (zeroValue e).run P w = .ok (.agg #[.string ByteArray.empty]) w) (b n : Nat) (D : DataW H)
    (hm : a.eval m = .map (some b)) (hown : w.ownsMap P k spellElem b n D) (key : Value) (kl : Lit) (hx : a.eval x = key) (hkey : keyOf P k key = some kl)
    (hK : ∀ s : ByteArray, D.atKey kl (litS ByteArray.empty) = litS s → wpList P ops Q rest (a.put o.dst (.agg #[.string s])) w) :
    wpList P ops Q (o :: rest) a w := by
  refine wpList_plain hg fun K' hK' => ?_
  obtain ⟨v, ps, hrun, hv⟩ := hown.lookup K ht hz (spell_mk _) hkey
  obtain ⟨s, rfl, hs⟩ := spell_inv hv
  simp only [Prod.mk.injEq] at hs
  unfold Oper.wp
  simp [execOp, hop, hm, hx, hrun, Result.andThen]
  exact hK' _ _ (hK s hs.1)
end
end Go.Proofs.Ytbfhfhkicdigaaa
