/- Texts of one claim. -/
import Derived.Test.YtgdcgjlmkmdklaaGreatDoorPk0
import Derived.Test.YtgdcgjlmkmdklaaGreatDoorPk44
import Derived.Test.YtgdcgjlmkmdklaaGreatDoorPk9
namespace Go.Proofs.YtgdcgjlmkmdklaaGreatDoor
open Go.ChangeShapes Go.WideShapes Go.ChangeAt Go.RowKit
open Go.Lib
set_option linter.unusedVariables false
set_option linter.unusedSimpArgs false
def opWs (gs : List GlD) (fs : List FnD) (x : InD) : List ByteArray :=
 if x.op = 14 then [nmOf opsL x.op, nmOf predsL x.pr, ftTx x, jn (x.args.map (txO gs)) ⟨#[44, 32]⟩]
 else if x.op = 16 ∨ x.op = 17 ∨ x.op = 18 then [nmOf opsL x.op, ftTx x, jn (x.args.map (txO gs)) ⟨#[44, 32]⟩, ⟨#[116, 111]⟩, nmOf typesL x.ty]
 else if x.op = 20 then [nmOf opsL x.op, nmOf typesL x.ty, jn (srL (x.args.map (txO gs)) x.bl (x.args.map (txO gs)).length) ⟨#[44, 32]⟩]
 else if x.op = 21 then [nmOf opsL x.op, dTx x.sz]
 else if x.op = 23 ∨ x.op = 30 then [nmOf opsL x.op, ftTx x, jn (x.args.map (txO gs)) ⟨#[44, 32]⟩]
 else if x.op = 25 then [nmOf opsL x.op, nmOf typesL x.ty, ⟨#[64]⟩ ++ (calD fs x.ca).name ++ ⟨#[40]⟩ ++ jn (x.args.map (txO gs)) ⟨#[44, 32]⟩ ++ ⟨#[41]⟩]
 else if x.op = 29 then [nmOf opsL x.op, ftTx x, jn (x.args.map (txO gs) ++ swL (x.args.getD 0 default).t x.bl x.ws x.ws.length) ⟨#[44, 32]⟩]
 else if x.op = 24 ∨ x.op = 26 ∨ x.op = 27 ∨ x.op = 28 ∨ x.op = 31 then [nmOf opsL x.op, jn (x.args.map (txO gs) ++ x.bl.map dTx) ⟨#[44, 32]⟩]
 else [nmOf opsL x.op, jn (full (flL x.fl 3)) ⟨#[32]⟩, nmOf typesL x.ty, jn (x.args.map (txO gs)) ⟨#[44, 32]⟩]
structure InG (fs : List FnD) (x : InD) : Prop where
 wo : (Lit.int .i64 x.op).wf = true
 wt : (Lit.int .i64 x.ty).wf = true
 wp : (Lit.int .i64 x.pr).wf = true
 wq : ∀ q ∈ x.args, (Lit.int .i64 q.t).wf = true
 ph : x.op = 20 → x.args.length ≤ x.bl.length
 ca : x.op = 25 → ∃ c : Nat, x.ca = c ∧ c < fs.length
 sw : x.op = 29 → 0 < x.args.length ∧ x.ws.length + 1 ≤ x.bl.length
 b : InB x
 n : x.args.length + x.bl.length + x.ws.length + 1 ≤ 1048576
structure StLs (xs : List ByteArray) : Prop where
 n : xs.length ≤ 1048576
 z : (jn xs ⟨#[44, 32]⟩).size ≤ 2199023255552
theorem nm_len {L : List (ByteArray × Int)} (c : Int) (h : ∀ p ∈ L, p.1.size ≤ 100) : (nmOf L c).size ≤ 100 := by
 unfold nmOf nameOf
 cases e : L.find? (fun p => p.2 == c) with
 | none => decide
 | some p => exact h p (List.mem_of_find?_eq_some e)
theorem nmOp_len (c : Int) : (nmOf opsL c).size ≤ 100 := nm_len c (by decide +kernel)
theorem nmPr_len (c : Int) : (nmOf predsL c).size ≤ 100 := nm_len c (by decide +kernel)
theorem ftTx_len (x : InD) : (ftTx x).size ≤ 100 := by
 unfold ftTx
 split
 ·decide
 ·exact nmTy_len _
theorem srL_sz (A : List ByteArray) (bl : List Int) (hA : ∀ a ∈ A, a.size ≤ 1048676) (hb : ∀ n ∈ bl, -9223372036854775808 ≤ n ∧ n ≤ 9223372036854775807) : ∀ a ∈ srL A bl A.length, a.size ≤ 1048900 := by
 intro a ha
 obtain ⟨i, hi, rfl⟩ := List.mem_map.1 ha
 have hi' : i < A.length := by simpa using hi
 have h1 : (A.getD i ⟨#[]⟩).size ≤ 1048676 := by simp only [List.getD_eq_getElem?_getD, List.getElem?_eq_getElem hi', Option.getD_some]; exact hA _ (List.getElem_mem hi')
 have h2 : (dTx (bl.getD i 0)).size ≤ 100 := by
  by_cases h : i < bl.length
  ·simp only [List.getD_eq_getElem?_getD, List.getElem?_eq_getElem h, Option.getD_some]
   exact dTx_len _ (hb _ (List.getElem_mem h)).1 (hb _ (List.getElem_mem h)).2
  ·simp only [List.getD_eq_getElem?_getD, List.getElem?_eq_none (Nat.le_of_not_lt h), Option.getD_none]
   exact dTx_len 0 (by omega) (by omega)
 exact tl90
theorem jn_full_le (xs : List ByteArray) (sep : ByteArray) (B : Nat) (h : ∀ x ∈ xs, x.size ≤ B) : (jn (full xs) sep).size ≤ (B + sep.size) * xs.length :=
 Nat.le_trans (jn_le_all _ _ B fun x hx => h x (List.mem_filter.1 hx).1) (Nat.mul_le_mul_left _ (full_len xs))
theorem own_lst (ss : List ByteArray) (w : World) : StL (w.alloc (Go.Obj.cells (ss.map Value.string).toArray 9)) (.slice (some ⟨w.heap.size, 0, none⟩) ss.length ss.length) ss :=
 ⟨_, _, rfl, Nat.le_refl _, .inr ⟨w.heap.size, 0, rfl, by simp, fun j x hj => at_cells (MapKept.heap_alloc w _).1 (by simp [hj])⟩⟩
theorem spW (ss : List ByteArray) (w : World) (hn : ss.length ≤ 10) (hB : ∀ s ∈ ss, s.size ≤ 8796093022208) :
  Calls Tryz.prog 78 #[.slice (some ⟨w.heap.size, 0, none⟩) ss.length ss.length] (w.alloc (Go.Obj.cells (ss.map Value.string).toArray 9)) fun e w' => e = .returned (.string (jn (full ss) ⟨#[32]⟩)) ∧ Below w.heap.size w w' := by
 have hj := jn_full_le ss ⟨#[32]⟩ _ hB
 have h1 : (⟨#[32]⟩ : ByteArray).size = 1 := rfl
 rw [h1] at hj
 have : (8796093022208 + 1) * ss.length ≤ (8796093022208 + 1) * 10 := Nat.mul_le_mul_left _ hn
 refine (spacedI _ ss _ (own_lst ss w) (by omega) (by omega)).mono ?_
 rintro e w' ⟨rfl, hb⟩
 exact ⟨rfl, bel_trans (bel_alloc _ _) hb⟩
theorem apT {w : World} {base : Nat} {v v2 : Value} {xs ys : List ByteArray} (h : OwnT w base v xs) (h2 : StL w v2 ys) (hn : xs.length ≤ 2097152) (hm : ys.length ≤ 2097152) (hb : base ≤ w.heap.size) :
  ∃ v' w', (Builtin.append_ #[122, 122] 122 #[v, v2]).run Tryz.prog w = .ok v' w' ∧ OwnT w' base v' (xs ++ ys) ∧ (∀ w0, Below base w0 w → Below base w0 w') ∧ base ≤ w'.heap.size := by
 obtain ⟨i0, hi0, hz0, hz1, hz2⟩ := info_parts infoT
 obtain ⟨a, c, rfl, hc, hy⟩ := h2.ex
 have h3 : ∃ b o, (0 < ys.length → a = some ⟨b, o, none⟩) ∧ ∀ j (hj : j < (ys.map Value.string).length), At w b (o + j) (ys.map Value.string)[j] := by
  rcases hy with rfl | ⟨b, o, rfl, -, q⟩
  ·exact ⟨0, 0, (fun h => nomatch h), (fun j hj => nomatch hj)⟩
  ·exact ⟨b, o, fun _ => rfl, fun j hj => by
    have hj' : j < ys.length := by simpa using hj
    have := q j ys[j] (List.getElem?_eq_getElem hj')
    simpa using this⟩
 obtain ⟨b, o, ha, hq⟩ := h3
 obtain ⟨v', w', hr, ho, hg⟩ := run_append_vals (P := Tryz.prog) w base 122 122 9 i0 (.string ⟨#[]⟩) 1 16 Tryz.underlying122 hi0 hz0 hz1 hz2 rfl (by decide) v xs.length _ h.r a b o ys.length c (ys.map Value.string) ha (by simp) hq (fun u hu => by obtain ⟨n, _, rfl⟩ := List.mem_map.1 hu; rfl) (by unfold maxLen; omega) (by omega) hb
 exact ⟨v', w', hr, ⟨by simpa using ho⟩, fun w0 h0 => own_bel h0 h.r hg hb, Nat.le_trans hb hg.size⟩
theorem wpList_append_run {P : Program} (w : World) {ops : Array Oper} {rest : List Oper} {op : Oper} {ac : Act} {Q : Exit → Act → World → Prop} (hgd : op.guard = none) (s x : Operand) (t : TypeId)
  (ho : op.op = .call { callee := .builtin .append, args := #[s, x], argTypes := #[t, t] }) {v v2 v' : Value} {w' : World} (hs : ac.eval s = v) (hx : ac.eval x = v2)
  (hr : (Builtin.append_ #[t, t] op.type #[v, v2]).run P w = .ok v' w') (h : wpList P ops Q rest (ac.put op.dst v') w') : wpList P ops Q (op :: rest) ac w := by
 refine wpList_plain hgd fun K hK => ?_
 unfold Oper.wp execOp
 simp only [ho, resolve, invoke, builtin, Sem.run_bind, Sem.run_pure, Result.andThen_ok, List.map_toArray, List.map_cons, List.map_nil, hs, hx, hr]
 exact hK _ _ h
theorem wpList_buildRow {P : Program} {ops : Array Oper} {rest : List Oper} {o : Oper} {a : Act} {w : World} {Q : Exit → Act → World → Prop} (hg : o.guard = none) (t e : TypeId) (len : Nat) (parts : Array (Nat × Operand)) (ho : o.op = .buildSlice t len parts)
  (ss : List ByteArray) (hu : P.underlying t = some (.slice e)) (hsz : (P.info? e).map (·.size) = some 1) (hz : ((P.info? e).bind (·.zero)).isSome = true)
  (hlen : len = ss.length) (hpos : 0 < len) (hsmall : len ≤ 2 ^ 24)
  (hparts : (parts.map fun (i, x) => (i, a.eval x)).toList = (ss.zipIdx 0).map fun x => (x.2, Value.string x.1))
  (h : wpList P ops Q rest (a.put o.dst (.slice (some ⟨w.heap.size, 0, none⟩) len len)) (w.alloc (Go.Obj.cells (ss.map Value.string).toArray e))) : wpList P ops Q (o :: rest) a w := by
 cases hie : P.info? e with
 | none => simp [hie] at hsz
 | some ie =>
  simp only [hie, Option.map_some, Option.some.injEq, Option.bind_some] at hsz hz
  obtain ⟨z, hzz⟩ := Option.isSome_iff_exists.1 hz
  refine wpList_buildSlice hg t e len parts ho _ ie z hu hie hzz (by rw [hsz]; omega) (by rw [hsz]; omega) ?_ h
  have e1 : (parts.map fun (i, x) => (i, a.eval x)).toList = ((ss.map Value.string).zipIdx 0).map fun x => (x.2, x.1) := by
   rw [hparts, List.zipIdx_map, List.map_map]
   rfl
  exact tl119
end Go.Proofs.YtgdcgjlmkmdklaaGreatDoor

namespace Go.Proofs.YtgdcgjlmkmdklaaGreatDoor
open Go.ChangeShapes Go.WideShapes Go.ChangeAt Go.RowKit
open Go.Lib
set_option linter.unusedVariables false
set_option linter.unusedSimpArgs false
theorem ne_sz {b : ByteArray} (h : 0 < b.size) : b ≠ ⟨#[]⟩ := fun e => by rw [e] at h; exact absurd h (by decide)
theorem sz_ne {b : ByteArray} (h : b ≠ ⟨#[]⟩) : 0 < b.size := by
 obtain ⟨⟨l⟩⟩ := b
 cases l with
 | nil => exact absurd rfl h
 | cons a r => simp [ByteArray.size]
theorem full_cons {a : ByteArray} (r : List ByteArray) (h : a ≠ ⟨#[]⟩) : full (a :: r) = a :: full r := by simp [full, h]
theorem full_skip (r : List ByteArray) : full (⟨#[]⟩ :: r) = full r := by simp [full]
theorem full_nil : full [] = [] := rfl
theorem jn_cons (a : ByteArray) (r : List ByteArray) (sep : ByteArray) (h : r ≠ []) : jn (a :: r) sep = a ++ sep ++ jn r sep := by
 cases r with
 | nil => exact absurd rfl h
 | cons b r =>
  have e : Lib.join ((a :: b :: r).map (·.data.toList)) sep.data.toList = a.data.toList ++ sep.data.toList ++ Lib.join ((b :: r).map (·.data.toList)) sep.data.toList := by
   rw [List.map_cons, List.map_cons, Lib.join_cons, Lib.join_cons]
   unfold Lib.joinTail
   simp only [List.map_cons, List.flatten_cons, List.append_assoc]
  exact tl108
theorem jn_ne (xs : List ByteArray) (sep : ByteArray) (h : xs ≠ []) (h0 : ∀ x ∈ xs, x ≠ ⟨#[]⟩) : jn xs sep ≠ ⟨#[]⟩ := by
 cases xs with
 | nil => exact absurd rfl h
 | cons a r =>
  by_cases e : r = []
  ·subst e; rw [jn_one]; exact h0 a (by simp)
  ·rw [jn_cons _ _ _ e]
   apply ne_sz
   rw [ByteArray.size_append, ByteArray.size_append]
   have := sz_ne (h0 a (by simp))
   omega
theorem full_two {a b : ByteArray} (ha : a ≠ ⟨#[]⟩) (hb : b ≠ ⟨#[]⟩) : jn (full [a, b]) ⟨#[32]⟩ = a ++ ⟨#[32]⟩ ++ b := by
 rw [full_cons _ ha, full_cons _ hb, full_nil, jn_cons _ _ _ (by simp), jn_one]
theorem full_three {a b c : ByteArray} (ha : a ≠ ⟨#[]⟩) (hb : b ≠ ⟨#[]⟩) (hc : c ≠ ⟨#[]⟩) : jn (full [a, b, c]) ⟨#[32]⟩ = a ++ ⟨#[32]⟩ ++ b ++ ⟨#[32]⟩ ++ c := by
 rw [full_cons _ ha, full_cons _ hb, full_cons _ hc, full_nil, jn_cons _ _ _ (by simp), jn_cons _ _ _ (by simp), jn_one]
 simp only [ByteArray.append_assoc]
theorem full_four {a b c d : ByteArray} (ha : a ≠ ⟨#[]⟩) (hb : b ≠ ⟨#[]⟩) (hc : c ≠ ⟨#[]⟩) (hd : d ≠ ⟨#[]⟩) : jn (full [a, b, c, d]) ⟨#[32]⟩ = a ++ ⟨#[32]⟩ ++ b ++ ⟨#[32]⟩ ++ c ++ ⟨#[32]⟩ ++ d := by
 rw [full_cons _ ha, full_cons _ hb, full_cons _ hc, full_cons _ hd, full_nil, jn_cons _ _ _ (by simp), jn_cons _ _ _ (by simp), jn_cons _ _ _ (by simp), jn_one]
 simp only [ByteArray.append_assoc]
theorem full_five {a b c d e : ByteArray} (ha : a ≠ ⟨#[]⟩) (hb : b ≠ ⟨#[]⟩) (hc : c ≠ ⟨#[]⟩) (hd : d ≠ ⟨#[]⟩) (he : e ≠ ⟨#[]⟩) : jn (full [a, b, c, d, e]) ⟨#[32]⟩ = a ++ ⟨#[32]⟩ ++ b ++ ⟨#[32]⟩ ++ c ++ ⟨#[32]⟩ ++ d ++ ⟨#[32]⟩ ++ e := by
 rw [full_cons _ ha, full_cons _ hb, full_cons _ hc, full_cons _ hd, full_cons _ he, full_nil, jn_cons _ _ _ (by simp), jn_cons _ _ _ (by simp), jn_cons _ _ _ (by simp), jn_cons _ _ _ (by simp), jn_one]
 simp only [ByteArray.append_assoc]
def nmf (nm : ByteArray) (a b c : Bool) : ByteArray :=
 let n1 := if a then nm else nm ++ ⟨#[32, 110, 117, 119]⟩
 let n2 := if b then n1 else n1 ++ ⟨#[32, 110, 115, 119]⟩
 if c then n2 else n2 ++ ⟨#[32, 101, 120, 97, 99, 116]⟩
def fjn (a b c : Bool) : ByteArray := jn (full ((if a then [] else [nmOf flagsL 2]) ++ ((if b then [] else [nmOf flagsL 1]) ++ (if c then [] else [nmOf flagsL 4])))) ⟨#[32]⟩
theorem fjn_eq (fl : Int) : jn (full (flL fl 3)) ⟨#[32]⟩ = fjn (decide (bits BinOp.and IntKind.i64 fl 2 = 0)) (decide (bits BinOp.and IntKind.i64 fl 1 = 0)) (decide (bits BinOp.and IntKind.i64 fl 4 = 0)) := by simp [flL, fjn]
theorem nmf_eq (nm rs A : ByteArray) (a b c : Bool) (hn : nm ≠ ⟨#[]⟩) (hr : rs ≠ ⟨#[]⟩) (hA : A ≠ ⟨#[]⟩) : jn (full [nm, fjn a b c, rs, A]) ⟨#[32]⟩ = nmf nm a b c ++ ⟨#[32]⟩ ++ rs ++ ⟨#[32]⟩ ++ A := by
 have q : ∀ a b c : Bool, (a && (b && c)) = false → fjn a b c ≠ ⟨#[]⟩ ∧ ∃ t, ⟨#[32]⟩ ++ fjn a b c = t ∧ ∀ nm, nmf nm a b c = nm ++ t := by
  intro a b c h
  refine ⟨?_, _, rfl, fun nm => ?_⟩
  ·revert h; revert a b c; decide +kernel
  ·cases a <;> cases b <;> cases c <;> first | (simp at h; done) | (simp only [nmf, Bool.false_eq_true, if_true, if_false, ite_true, ite_false, ↓reduceIte, ByteArray.append_assoc]; exact congrArg (fun t => nm ++ t) (by decide +kernel))
 by_cases h : (a && (b && c)) = true
 ·obtain ⟨rfl, rfl, rfl⟩ : a = true ∧ b = true ∧ c = true := by simpa using h
  rw [show fjn true true true = ⟨#[]⟩ from rfl, full_cons _ hn, full_skip, ← full_cons _ hn, full_three hn hr hA]
  rfl
 ·obtain ⟨h1, t, h2, h3⟩ := q a b c (by simpa using h)
  rw [full_four hn h1 hr hA, h3, ← h2]
  simp only [ByteArray.append_assoc]
end Go.Proofs.YtgdcgjlmkmdklaaGreatDoor

namespace Go.Proofs.YtgdcgjlmkmdklaaGreatDoor
open Go.ChangeShapes Go.WideShapes Go.ChangeAt Go.RowKit
open Go.Lib
set_option linter.unusedVariables false
set_option linter.unusedSimpArgs false
structure InS (gs : List GlD) (fs : List FnD) (x : InD) : Prop where
 lo : 1 ≤ x.op
 hi : x.op ≤ 31
 n19 : x.op ≠ 19
 a : ∀ q ∈ x.args, txO gs q ≠ ⟨#[]⟩
 rs : x.op ≤ 13 ∨ x.op = 15 ∨ x.op = 16 ∨ x.op = 17 ∨ x.op = 18 ∨ x.op = 20 ∨ x.op = 22 ∨ x.op = 25 → nmOf typesL x.ty ≠ ⟨#[]⟩
 ft : x.op = 14 ∨ x.op = 16 ∨ x.op = 17 ∨ x.op = 18 ∨ x.op = 23 ∨ x.op = 29 ∨ x.op = 30 → x.args ≠ [] → ftTx x ≠ ⟨#[]⟩
 pr : x.op = 14 → nmOf predsL x.pr ≠ ⟨#[]⟩
 fl : x.op = 15 ∨ x.op = 22 → x.fl = 0
 ne : x.op ≠ 21 → x.op ≠ 25 → x.op ≠ 27 → x.op ≠ 30 → x.op ≠ 31 → x.args ≠ []
 l29 : x.op = 29 → x.args.length = 1
 l27 : x.op = 27 ∨ x.op = 31 → x.args = []
 b0 : x.op = 24 ∨ x.op = 26 ∨ x.op = 31 → x.bl = []
 b1 : x.op = 27 → x.bl.length = 1
 b2 : x.op = 28 → x.bl.length = 2
theorem nmOp_ne (c : Int) (h1 : 1 ≤ c) (h2 : c ≤ 31) (h3 : c ≠ 19) : nmOf opsL c ≠ ⟨#[]⟩ := by
 have q : ∀ k : Fin 32, k.val = 0 ∨ k.val = 19 ∨ nmOf opsL (k.val : Int) ≠ ⟨#[]⟩ := by decide +kernel
 rcases q ⟨c.toNat, by omega⟩ with h | h | h
 ·simp at h; omega
 ·simp at h; omega
 ·simpa [show ((c.toNat : Nat) : Int) = c by omega] using h
theorem InS.nm {gs : List GlD} {fs : List FnD} {x : InD} (S : InS gs fs x) : nmOf opsL x.op ≠ ⟨#[]⟩ := nmOp_ne _ S.lo S.hi S.n19
theorem InS.A {gs : List GlD} {fs : List FnD} {x : InD} (S : InS gs fs x) (h : x.args ≠ []) : jn (x.args.map (txO gs)) ⟨#[44, 32]⟩ ≠ ⟨#[]⟩ :=
 jn_ne _ _ (by simpa using h) fun a ha => by obtain ⟨q, hq, rfl⟩ := List.mem_map.1 ha; exact S.a q hq
theorem itoa_ne (n : Int) : itoa n ≠ [] := by
 have q : ∀ u, decDigits u ≠ [] := fun u => by rw [decDigits]; split <;> simp
 unfold itoa
 split
 ·simp
 ·exact q _
theorem dTx_ne (n : Int) : dTx n ≠ ⟨#[]⟩ := by
 intro h
 have h2 : (itoa n) = [] := by
  have := congrArg (fun b : ByteArray => b.data.toList) h
  simpa [dTx] using this
 exact itoa_ne n h2
variable {gs : List GlD} {fs : List FnD} {x : InD}
theorem tA (S : InS gs fs x) (h : x.op ≤ 13) : jn (full (opWs gs fs x)) ⟨#[32]⟩ = nmf (nmOf opsL x.op) (decide (bits BinOp.and IntKind.i64 x.fl 2 = 0)) (decide (bits BinOp.and IntKind.i64 x.fl 1 = 0)) (decide (bits BinOp.and IntKind.i64 x.fl 4 = 0)) ++ ⟨#[32]⟩ ++ nmOf typesL x.ty ++ ⟨#[32]⟩ ++ jn (x.args.map (txO gs)) ⟨#[44, 32]⟩ := by
 rw [← nmf_eq _ _ _ _ _ _ S.nm (S.rs (.inl h)) (S.A (S.ne (by omega) (by omega) (by omega) (by omega) (by omega))), ← fjn_eq]
 unfold opWs
 repeat rw [if_neg (by omega)]
theorem t15 (S : InS gs fs x) (h : x.op = 15 ∨ x.op = 22) : jn (full (opWs gs fs x)) ⟨#[32]⟩ = nmOf opsL x.op ++ ⟨#[32]⟩ ++ nmOf typesL x.ty ++ ⟨#[32]⟩ ++ jn (x.args.map (txO gs)) ⟨#[44, 32]⟩ := by
 rw [← full_three S.nm (S.rs (by omega)) (S.A (S.ne (by omega) (by omega) (by omega) (by omega) (by omega)))]
 unfold opWs
 repeat rw [if_neg (by omega)]
 rw [S.fl h, show jn (full (flL 0 3)) ⟨#[32]⟩ = ⟨#[]⟩ by decide +kernel, full_cons _ S.nm, full_skip, ← full_cons _ S.nm]
theorem t14 (S : InS gs fs x) (h : x.op = 14) : jn (full (opWs gs fs x)) ⟨#[32]⟩ = ⟨#[99, 109, 112, 32]⟩ ++ nmOf predsL x.pr ++ ⟨#[32]⟩ ++ ftTx x ++ ⟨#[32]⟩ ++ jn (x.args.map (txO gs)) ⟨#[44, 32]⟩ := by
 have n := S.ne (by omega) (by omega) (by omega) (by omega) (by omega)
 unfold opWs
 rw [if_pos h, full_four S.nm (S.pr h) (S.ft (by omega) n) (S.A n), h, show (⟨#[99, 109, 112, 32]⟩ : ByteArray) = nmOf opsL 14 ++ ⟨#[32]⟩ by decide +kernel]
theorem t16 (S : InS gs fs x) (h : x.op = 16 ∨ x.op = 17 ∨ x.op = 18) : jn (full (opWs gs fs x)) ⟨#[32]⟩ = nmOf opsL x.op ++ ⟨#[32]⟩ ++ ftTx x ++ ⟨#[32]⟩ ++ jn (x.args.map (txO gs)) ⟨#[44, 32]⟩ ++ ⟨#[32, 116, 111, 32]⟩ ++ nmOf typesL x.ty := by
 have n := S.ne (by omega) (by omega) (by omega) (by omega) (by omega)
 unfold opWs
 rw [if_neg (by omega), if_pos h, full_five S.nm (S.ft (by omega) n) (S.A n) (by decide) (S.rs (by omega))]
 rw [show (⟨#[32, 116, 111, 32]⟩ : ByteArray) = ⟨#[32]⟩ ++ ⟨#[116, 111]⟩ ++ ⟨#[32]⟩ by decide +kernel]
 simp only [ByteArray.append_assoc]
theorem srT_ne (a : ByteArray) (n : Int) : srT a n ≠ ⟨#[]⟩ := by
 apply ne_sz
 unfold srT
 simp only [ByteArray.size_append]
 have e1 : (⟨#[91]⟩ : ByteArray).size = 1 := rfl
 omega
theorem t20 (S : InS gs fs x) (h : x.op = 20) : jn (full (opWs gs fs x)) ⟨#[32]⟩ = (⟨#[112, 104, 105, 32]⟩ ++ nmOf typesL x.ty ++ ⟨#[32]⟩) ++ jn (phL gs x) ⟨#[44, 32]⟩ := by
 have n := S.ne (by omega) (by omega) (by omega) (by omega) (by omega)
 have e : srL (x.args.map (txO gs)) x.bl (x.args.map (txO gs)).length = phL gs x := by simp [phL]
 have hp : jn (phL gs x) ⟨#[44, 32]⟩ ≠ ⟨#[]⟩ := jn_ne _ _ (fun h => n (List.length_eq_zero_iff.1 (by rw [← phL_len gs x, h]; rfl))) fun a ha => by
  obtain ⟨i, hi, rfl⟩ := List.mem_map.1 ha
  exact srT_ne _ _
 unfold opWs
 rw [if_neg (by omega), if_neg (by omega), if_pos h, e, full_three S.nm (S.rs (by omega)) hp, h, show (⟨#[112, 104, 105, 32]⟩ : ByteArray) = nmOf opsL 20 ++ ⟨#[32]⟩ by decide +kernel]
theorem t21 (S : InS gs fs x) (h : x.op = 21) : jn (full (opWs gs fs x)) ⟨#[32]⟩ = ⟨#[97, 108, 108, 111, 99, 97, 32]⟩ ++ dTx x.sz := by
 unfold opWs
 rw [if_neg (by omega), if_neg (by omega), if_neg (by omega), if_pos h, full_two S.nm (dTx_ne _), h, show (⟨#[97, 108, 108, 111, 99, 97, 32]⟩ : ByteArray) = nmOf opsL 21 ++ ⟨#[32]⟩ by decide +kernel]
theorem t23 (S : InS gs fs x) (h : x.op = 23) : jn (full (opWs gs fs x)) ⟨#[32]⟩ = ⟨#[115, 116, 111, 114, 101, 32]⟩ ++ ftTx x ++ ⟨#[32]⟩ ++ jn (x.args.map (txO gs)) ⟨#[44, 32]⟩ := by
 have n := S.ne (by omega) (by omega) (by omega) (by omega) (by omega)
 unfold opWs
 rw [if_neg (by omega), if_neg (by omega), if_neg (by omega), if_neg (by omega), if_pos (.inl h), full_three S.nm (S.ft (by omega) n) (S.A n), h, show (⟨#[115, 116, 111, 114, 101, 32]⟩ : ByteArray) = nmOf opsL 23 ++ ⟨#[32]⟩ by decide +kernel]
theorem t30 (S : InS gs fs x) (h : x.op = 30) (n : x.args ≠ []) : jn (full (opWs gs fs x)) ⟨#[32]⟩ = ⟨#[114, 101, 116, 117, 114, 110, 32]⟩ ++ ftTx x ++ ⟨#[32]⟩ ++ jn (x.args.map (txO gs)) ⟨#[44, 32]⟩ := by
 unfold opWs
 rw [if_neg (by omega), if_neg (by omega), if_neg (by omega), if_neg (by omega), if_pos (.inr h), full_three S.nm (S.ft (by omega) n) (S.A n), h, show (⟨#[114, 101, 116, 117, 114, 110, 32]⟩ : ByteArray) = nmOf opsL 30 ++ ⟨#[32]⟩ by decide +kernel]
theorem t30e (S : InS gs fs x) (h : x.op = 30) (n : x.args = []) : jn (full (opWs gs fs x)) ⟨#[32]⟩ = ⟨#[114, 101, 116, 117, 114, 110]⟩ := by
 unfold opWs
 rw [if_neg (by omega), if_neg (by omega), if_neg (by omega), if_neg (by omega), if_pos (.inr h), show ftTx x = ⟨#[]⟩ by unfold ftTx; rw [n], n, h, List.map_nil]
 decide +kernel
theorem t25 (S : InS gs fs x) (h : x.op = 25) : jn (full (opWs gs fs x)) ⟨#[32]⟩ = ⟨#[99, 97, 108, 108, 32]⟩ ++ nmOf typesL x.ty ++ ⟨#[32, 64]⟩ ++ (calD fs x.ca).name ++ ⟨#[40]⟩ ++ jn (x.args.map (txO gs)) ⟨#[44, 32]⟩ ++ ⟨#[41]⟩ := by
 unfold opWs
 rw [if_neg (by omega), if_neg (by omega), if_neg (by omega), if_neg (by omega), if_neg (by omega), if_pos h, full_three S.nm (S.rs (by omega)) (ne_sz (by simp only [ByteArray.size_append]; have e : (⟨#[41]⟩ : ByteArray).size = 1 := rfl; omega)), h, show (⟨#[99, 97, 108, 108, 32]⟩ : ByteArray) = nmOf opsL 25 ++ ⟨#[32]⟩ by decide +kernel, show (⟨#[32, 64]⟩ : ByteArray) = ⟨#[32]⟩ ++ ⟨#[64]⟩ by decide +kernel]
 simp only [ByteArray.append_assoc]
theorem t24 (S : InS gs fs x) (h : x.op = 24 ∨ x.op = 26) : jn (full (opWs gs fs x)) ⟨#[32]⟩ = nmOf opsL x.op ++ ⟨#[32]⟩ ++ jn (x.args.map (txO gs)) ⟨#[44, 32]⟩ := by
 have n := S.ne (by omega) (by omega) (by omega) (by omega) (by omega)
 unfold opWs
 rw [if_neg (by omega), if_neg (by omega), if_neg (by omega), if_neg (by omega), if_neg (by omega), if_neg (by omega), if_neg (by omega), if_pos (by omega), S.b0 (by omega), List.map_nil, List.append_nil, full_two S.nm (S.A n)]
theorem t27 (S : InS gs fs x) (h : x.op = 27) : jn (full (opWs gs fs x)) ⟨#[32]⟩ = ⟨#[106, 117, 109, 112, 32]⟩ ++ dTx (x.bl.getD 0 0) := by
 obtain ⟨b, hb⟩ := List.length_eq_one_iff.1 (S.b1 h)
 unfold opWs
 rw [if_neg (by omega), if_neg (by omega), if_neg (by omega), if_neg (by omega), if_neg (by omega), if_neg (by omega), if_neg (by omega), if_pos (by omega), S.l27 (.inl h), hb]
 simp only [List.map_nil, List.map_cons, List.nil_append, jn_one, List.getD_cons_zero]
 rw [full_two S.nm (dTx_ne _), h, show (⟨#[106, 117, 109, 112, 32]⟩ : ByteArray) = nmOf opsL 27 ++ ⟨#[32]⟩ by decide +kernel]
theorem t31 (S : InS gs fs x) (h : x.op = 31) : jn (full (opWs gs fs x)) ⟨#[32]⟩ = ⟨#[116, 114, 97, 112]⟩ := by
 unfold opWs
 rw [if_neg (by omega), if_neg (by omega), if_neg (by omega), if_neg (by omega), if_neg (by omega), if_neg (by omega), if_neg (by omega), if_pos (by omega), S.l27 (.inr h), S.b0 (by omega), h, List.map_nil, List.map_nil]
 decide +kernel
theorem t28 (S : InS gs fs x) (h : x.op = 28) : jn (full (opWs gs fs x)) ⟨#[32]⟩ = ⟨#[98, 114, 97, 110, 99, 104, 32]⟩ ++ jn (x.args.map (txO gs)) ⟨#[44, 32]⟩ ++ ⟨#[44, 32]⟩ ++ dTx (x.bl.getD 0 0) ++ ⟨#[44, 32]⟩ ++ dTx (x.bl.getD 1 0) := by
 have n := S.ne (by omega) (by omega) (by omega) (by omega) (by omega)
 obtain ⟨b, c, hb⟩ : ∃ b c, x.bl = [b, c] := by
  have h2 := S.b2 h
  match e : x.bl with
  | [b, c] => exact ⟨b, c, rfl⟩
  | [] | [_] | _ :: _ :: _ :: _ => rw [e] at h2; simp at h2
 unfold opWs
 rw [if_neg (by omega), if_neg (by omega), if_neg (by omega), if_neg (by omega), if_neg (by omega), if_neg (by omega), if_neg (by omega), if_pos (by omega), hb]
 simp only [List.map_nil, List.map_cons, List.getD_cons_zero, List.getD_cons_succ]
 have e : jn (x.args.map (txO gs) ++ [dTx b, dTx c]) ⟨#[44, 32]⟩ = jn (x.args.map (txO gs)) ⟨#[44, 32]⟩ ++ ⟨#[44, 32]⟩ ++ dTx b ++ ⟨#[44, 32]⟩ ++ dTx c := by
  rw [show x.args.map (txO gs) ++ [dTx b, dTx c] = (x.args.map (txO gs) ++ [dTx b]) ++ [dTx c] by simp, jn_snoc _ _ _ (by simp), jn_snoc _ _ _ (by simpa using n)]
 rw [e, full_two S.nm (ne_sz (by simp only [ByteArray.size_append]; have := sz_ne (S.A n); omega)), h, show (⟨#[98, 114, 97, 110, 99, 104, 32]⟩ : ByteArray) = nmOf opsL 28 ++ ⟨#[32]⟩ by decide +kernel]
 simp only [ByteArray.append_assoc]
theorem t29 (S : InS gs fs x) (h : x.op = 29) (h0 : 0 < x.args.length) : jn (full (opWs gs fs x)) ⟨#[32]⟩ = (⟨#[115, 119, 105, 116, 99, 104, 32]⟩ ++ nmOf typesL x.args[0].t ++ ⟨#[32]⟩ ++ txO gs x.args[0] ++ ⟨#[44, 32]⟩) ++ jn (swL x.args[0].t x.bl x.ws x.ws.length) ⟨#[44, 32]⟩ := by
 have n := S.ne (by omega) (by omega) (by omega) (by omega) (by omega)
 obtain ⟨q, hq⟩ := List.length_eq_one_iff.1 (S.l29 h)
 have hf : ftTx x = nmOf typesL q.t := by unfold ftTx; rw [hq]
 have hx : x.args[0] = q := by simp [hq]
 rw [hx]
 unfold opWs
 rw [if_neg (by omega), if_neg (by omega), if_neg (by omega), if_neg (by omega), if_neg (by omega), if_neg (by omega), if_pos h, hq]
 simp only [List.map_nil, List.map_cons, List.getD_cons_zero, List.cons_append, List.nil_append]
 have e : jn (txO gs q :: swL q.t x.bl x.ws x.ws.length) ⟨#[44, 32]⟩ = txO gs q ++ ⟨#[44, 32]⟩ ++ jn (swL q.t x.bl x.ws x.ws.length) ⟨#[44, 32]⟩ := jn_cons _ _ _ (by simp [swL])
 have hqn := S.a q (by rw [hq]; simp)
 rw [e, full_three S.nm (S.ft (by omega) n) (ne_sz (by simp only [ByteArray.size_append]; have := sz_ne hqn; omega)), hf, h, show (⟨#[115, 119, 105, 116, 99, 104, 32]⟩ : ByteArray) = nmOf opsL 29 ++ ⟨#[32]⟩ by decide +kernel]
 simp only [ByteArray.append_assoc]
end Go.Proofs.YtgdcgjlmkmdklaaGreatDoor
