/- What lies in memory: rows of bytes that a call owns, and what is kept. -/
import Derived.Test.YtbacbigcecmfbaaRows
import Derived.WalkKit
import Derived.ProofKit
import Derived.OpenShut
import Derived.WalkLawsBesides
import Derived.Below
import Derived.BigQuiet
import Derived.Lib.QuietBelow
import Derived.Lib.AtoiErrMem
import Derived.Deep.OwnRows
import Derived.Deep.DeepCutAuto
import Derived.Maps.AppendAt
import Derived.OwnWalk
import Derived.OwnWalkIn
import Derived.RangeFuncBound
import Derived.Lib.SliceRun
namespace Go.Proofs.Ytbacbigcecmfbaa
open Go.ChangeShapes Go.WideShapes Go.ChangeAt Go.RowKit
open Go.Sort (grow)
set_option linter.unusedVariables false
set_option linter.unusedSimpArgs false
theorem bel_trans {a b c : World} (h : Below a.heap.size a b) (k : Below b.heap.size b c) : Below a.heap.size a c := h.trans (k.mono h.size)
theorem bel_alloc (w : World) (o : Obj) : Below w.heap.size w (w.alloc o) := (Below.refl _ _).alloc (Nat.le_refl _) o
theorem ret_int {k : IntKind} {a b : Int} (h : a = b) : Ending.returned (.int k a) = .returned (.int k b) := by rw [h]
theorem ret_bool {a b : Bool} (h : a = b) : Ending.returned (.bool a) = .returned (.bool b) := by rw [h]
/-- A fact that the walk does not take for a rule. -/
structure Kp (p : Prop) : Prop where
  out : p
/-- A slice's value: n elements from an address on; nil, or whatever, where there is none. -/
structure Sl (v : Value) (n : Nat) (b o : Nat) : Prop where
  ex : ∃ a cap, v = .slice a n cap ∧ n ≤ cap ∧ (0 < n → a = some ⟨b, o, none⟩)
  le : n ≤ 140737488355328
/-- The cell at a place. -/
abbrev At (w : World) (b o : Nat) (v : Value) : Prop := w.cell? ⟨b, o, none⟩ = some v
theorem at_keep {w w' : World} {b o : Nat} {v : Value} (h : At w b o v) (hb : Below w.heap.size w w') : At w' b o v := by
  have l := Lib.lt_of_cell h
  exact (hb.cell (p := ⟨b, o, none⟩) l).trans h
/-- From the block lo on what lay in w lies in w'. -/
def Keeps (lo : Nat) (w w' : World) : Prop := ∀ b o v, lo ≤ b → At w b o v → At w' b o v
theorem keeps_below {lo : Nat} {w w' : World} (hb : Below w.heap.size w w') : Keeps lo w w' := fun b o v _ h => at_keep h hb
theorem Keeps.trans {lo : Nat} {a b c : World} (h : Keeps lo a b) (k : Keeps lo b c) : Keeps lo a c := fun x o v l q => k x o v l (h x o v l q)
theorem keeps_set {lo B k : Nat} {w : World} {x : Value} (h : B < lo) : Keeps lo w (w.setCell ⟨B, k, none⟩ x) := fun b o v l q => by
  show World.cell? _ _ = _
  rw [World.cell?_setCell_other _ _ _ _ (by intro e; injection e; omega)]
  exact q
/-- A row of whole numbers, in blocks from lo on. -/
structure Ints (lo : Nat) (k : IntKind) (w : World) (v : Value) (xs : List Int) : Prop where
  ex : ∃ b o, Sl v xs.length b o ∧ lo ≤ b ∧ ∀ i (h : i < xs.length), At w b (o + i) (.int k xs[i])
theorem Ints.mono {lo l2 : Nat} {k : IntKind} {w w' : World} {v : Value} {xs : List Int} (h : Ints lo k w v xs) (hl : l2 ≤ lo) (hk : Keeps lo w w') : Ints l2 k w' v xs := by
  obtain ⟨b, o, s, l, c⟩ := h.ex
  exact ⟨b, o, s, by omega, fun i hi => hk _ _ _ l (c i hi)⟩
theorem Ints.keep {lo : Nat} {k : IntKind} {w w' : World} {v : Value} {xs : List Int} (h : Ints lo k w v xs) (hb : Below w.heap.size w w') : Ints lo k w' v xs := h.mono (Nat.le_refl _) (keeps_below hb)
/-- What is left of a count. -/
def less (left n : Int) : Int := if left < n then -1 else left - n
/-- A row of n cells of the call's own, whatever they hold, none of them frozen. -/
structure Rw (w : World) (B n : Nat) : Prop where
  ex : ∃ t f, w.rowIs B t n f
theorem Rw.at {w : World} {B n j : Nat} (h : Rw w B n) (hj : j < n) : ∃ z, At w B j z ∧ w.frozen? ⟨B, j, none⟩ = false := by
  obtain ⟨t, f, r⟩ := h.ex
  exact ⟨f j, r.cell hj, r.frozen j⟩
theorem Rw.set {w : World} {B n : Nat} (h : Rw w B n) (k : Nat) (x : Value) : Rw (w.setCell ⟨B, k, none⟩ x) B n := by
  obtain ⟨t, f, r⟩ := h.ex
  exact ⟨t, _, r.set k x⟩
theorem Rw.lt {w : World} {B n : Nat} (h : Rw w B n) : B < w.heap.size := by
  obtain ⟨t, f, r⟩ := h.ex
  exact r.lt
theorem Rw.keep {w w' : World} {B n : Nat} (h : Rw w B n) (hb : Below w.heap.size w w') : Rw w' B n := by
  have l := h.lt
  obtain ⟨t, f, r⟩ := h.ex
  exact ⟨t, f, r.of_block (hb.block _ l)⟩
theorem set_same {w : World} {B n k : Nat} (h : Rw w B n) (hk : k < n) (x : Value) : At (w.setCell ⟨B, k, none⟩ x) B k x := by
  obtain ⟨z, c, _⟩ := h.at hk
  exact World.cell?_setCell_same _ _ _ c
theorem set_other {w : World} {B k b o : Nat} {v x : Value} (h : At w b o v) (hn : b ≠ B ∨ o ≠ k) : At (w.setCell ⟨B, k, none⟩ x) b o v := by
  show World.cell? _ _ = _
  rw [World.cell?_setCell_other _ _ _ _ (by intro e; injection e; omega)]
  exact h
/-- No cell from the block lo on is frozen. -/
structure Unf (lo : Nat) (w : World) : Prop where
  out : ∀ b o, lo ≤ b → b < w.heap.size → w.frozen? ⟨b, o, none⟩ = false
theorem Unf.top (w : World) : Unf w.heap.size w := ⟨fun b o h1 h2 => absurd h2 (by omega)⟩
theorem Unf.more {lo : Nat} {w : World} {O : Obj} {n : Nat} (h : Unf lo w) (r : Rw (w.alloc O) w.heap.size n) : Unf lo (w.alloc O) := ⟨fun b o h1 h2 => by
  by_cases e : b < w.heap.size
  · rw [(bel_alloc w O).frozen (p := ⟨b, o, none⟩) e]
    exact h.out b o h1 e
  · rw [World.size_alloc] at h2
    obtain rfl : b = w.heap.size := by omega
    obtain ⟨t, f, q⟩ := r.ex
    exact q.frozen o⟩
theorem Unf.new {w : World} {O : Obj} {n : Nat} (r : Rw (w.alloc O) w.heap.size n) : Unf w.heap.size (w.alloc O) := (Unf.top w).more r
theorem Unf.set {lo : Nat} {w : World} (h : Unf lo w) (b k : Nat) (x : Value) : Unf lo (w.setCell ⟨b, k, none⟩ x) := ⟨fun b' o h1 h2 => by
  rw [World.frozen?_setCell]
  exact h.out b' o h1 (by rwa [World.size_setCell] at h2)⟩
theorem Unf.call {lo : Nat} {w w' : World} (h : Unf lo w) (hb : Below w.heap.size w w') (hu : Unf w.heap.size w') : Unf lo w' := ⟨fun b o h1 h2 => by
  by_cases e : b < w.heap.size
  · rw [hb.frozen (p := ⟨b, o, none⟩) e]
    exact h.out b o h1 e
  · exact hu.out b o (by omega) h2⟩
theorem al_rw (w : World) (arr : Array Value) (t : TypeId) : Rw (w.alloc (.cells arr t)) w.heap.size arr.size :=
  ⟨_, _, World.rowIs_alloc w arr t (fun j => arr.getD j undef) (fun j hj => by simp [Array.getD, hj])⟩
theorem Unf.cells {lo : Nat} {w : World} (h : Unf lo w) (arr : Array Value) (t : TypeId) : Unf lo (w.alloc (.cells arr t)) := h.more (al_rw w arr t)
/-- 'make([]T, n)': a new row. -/
theorem mk_row (T E : TypeId) (z : Value) (sz bytes : Nat) (ht : Try.prog.underlying T = some (.slice E)) (hinfo : (Try.prog.info? E).map (fun i => (i.zero, i.size, i.bytes)) = some (some z, sz, bytes))
    (n : Nat) (hb : bytes * n ≤ 281474976710656) (h63 : n ≤ 9223372036854775807) :
    ∃ O : Obj, (∀ W : World, (Instr.makeSlice T (.int .i64 (n : Int)) (.int .i64 (n : Int))).run Try.prog W = .ok (.slice (some ⟨W.heap.size, 0, none⟩) n n) (W.alloc O)) ∧ ∀ W : World, Rw (W.alloc O) W.heap.size (n * sz) := by
  obtain ⟨i, hi, hzz⟩ := Option.map_eq_some_iff.1 hinfo
  simp only [Prod.mk.injEq] at hzz
  obtain ⟨hz, hs, hbb⟩ := hzz
  refine ⟨.cells (madeCells z.cells (n * sz)) E, fun W => ?_, fun W => ?_⟩
  · have hb' : (i.bytes : Int) * (n : Int) ≤ 281474976710656 := by
      have h : ((i.bytes * n : Nat) : Int) ≤ 281474976710656 := by rw [hbb]; omega
      rwa [Int.natCast_mul] at h
    have hr := run_make (P := Try.prog) W T E i z ht hi hz .i64 .i64 n n (by omega) (Int.le_refl _) hb' (by omega)
    simp only [Int.toNat_natCast, hs] at hr
    exact hr
  · have e := size_madeCells z.cells (n * sz)
    have r := World.rowIs_alloc W (madeCells z.cells (n * sz)) E (fun j => (madeCells z.cells (n * sz)).getD j undef) (fun j hj => by simp [Array.getD, hj])
    rw [e] at r
    exact ⟨_, _, r⟩
theorem at_cells {w : World} {b : Nat} {arr : Array Value} {t : TypeId} (h : w.heap[b]? = some (Go.Obj.cells arr t (0, 0))) {j : Nat} {v : Value} (hj : arr[j]? = some v) : At w b j v := by
  show World.cell? _ _ = _
  simp [World.cell?, h, hj]
theorem rw_cells {w : World} {b : Nat} {arr : Array Value} {t : TypeId} (h : w.heap[b]? = some (Go.Obj.cells arr t (0, 0))) : ∀ j, w.frozen? ⟨b, j, none⟩ = false := fun j => by simp [World.frozen?, h]
theorem set_cells {w : World} {b : Nat} {arr : Array Value} {t : TypeId} (h : w.heap[b]? = some (Go.Obj.cells arr t (0, 0))) (j : Nat) (x : Value) : (w.setCell ⟨b, j, none⟩ x).heap[b]? = some (Go.Obj.cells (arr.setIfInBounds j x) t (0, 0)) := by
  obtain ⟨hlt, hk⟩ := Array.getElem?_eq_some_iff.1 h
  show (w.heap.modify b _)[b]? = _
  rw [Array.getElem?_eq_getElem (by rw [Array.size_modify]; exact hlt), Array.getElem_modify_self, hk]
  rfl
theorem keep_cells {w w' : World} {b : Nat} {o : Obj} (h : w.heap[b]? = some o) (hb : Below w.heap.size w w') : w'.heap[b]? = some o := (hb.block b (Array.getElem?_eq_some_iff.1 h).1).trans h
theorem new_cells (w : World) (o : Obj) : (w.alloc o).heap[w.heap.size]? = some o := (MapKept.heap_alloc w o).1
theorem run_append_none {P : Program} (w : World) (base : Nat) (t ty e : TypeId) (i : TypeInfo) (size : Nat) (ht : P.underlying t = some (.slice e)) (hi : P.info? e = some i) (hsize : i.size = size)
    (v : Value) (n : Nat) (xs : List Value) (hown : w.ownsRow base e size v n xs) (c : Nat) :
    (Builtin.append_ #[t, t] ty #[v, .slice none 0 c]).run P w = .ok v w := by
  rcases hown.2 with ⟨rfl, rfl⟩ | ⟨g, cap, cur, rfl, hbg, hg, hnc, hcm, hcs, htake⟩
  · simp [Builtin.append_, run_underlying ht, sizeOf, typeInfo, hi, Builtin.lenOf, Builtin.firstCells, loadCells, loadCellsFrom]
  · simp [Builtin.append_, run_underlying ht, sizeOf, typeInfo, hi, Builtin.lenOf, Builtin.firstCells, loadCells, loadCellsFrom, hnc]
    simp [storeCells, Result.andThen]
theorem run_append_vals {P : Program} (w : World) (base : Nat) (t ty e : TypeId) (i : TypeInfo) (z : Value) (size bytes : Nat) (ht : P.underlying t = some (.slice e)) (hi : P.info? e = some i) (hz : i.zero = some z)
    (hsize : i.size = size) (hby : i.bytes = bytes) (hzs : z.cells.size = size) (hsz : 0 < size)
    (v : Value) (n : Nat) (xs : List Value) (hown : w.ownsRow base e size v n xs)
    (a : Option Addr) (b o m c : Nat) (news : List Value) (ha : 0 < m → a = some ⟨b, o, none⟩) (hl : news.length = m * size) (hnews : ∀ j (hj : j < news.length), At w b (o + j) news[j]) (h1 : ∀ u ∈ news, u.oneCell' = true)
    (h63 : n + m ≤ maxLen) (hbytes : (n + m) * bytes ≤ 140737488355328) (hbase : base ≤ w.heap.size) :
    ∃ v' w', (Builtin.append_ #[t, t] ty #[v, .slice a m c]).run P w = .ok v' w' ∧ w'.ownsRow base e size v' (n + m) (xs ++ news) ∧ w.grownBy w' v.ownBlock := by
  cases a with
  | none =>
    obtain rfl : m = 0 := by
      rcases Nat.eq_zero_or_pos m with h | h
      · exact h
      · cases ha h
    obtain rfl : news = [] := List.eq_nil_of_length_eq_zero (by simpa using hl)
    exact ⟨v, w, run_append_none w base t ty e i size ht hi hsize v n xs hown c, by simpa using hown, ⟨rfl, rfl, rfl, Nat.le_refl _, fun _ _ _ => rfl⟩⟩
  | some ad =>
    obtain ⟨v', w', h1, h2, h3, -⟩ := run_append_own w base t ty e i z size bytes ht hi hz hsize hby hzs hsz v n xs hown ad m c news hl (fun j u hj => by
      obtain ⟨hlt, rfl⟩ := List.getElem?_eq_some_iff.1 hj
      have hm : 0 < m := by
        rcases Nat.eq_zero_or_pos m with h | h
        · subst h; simp at hl; rw [hl] at hlt; simp at hlt
        · exact h
      have := ha hm
      cases this
      rw [Go.WideShapes.add_plain]
      exact hnews j hlt) h1 h63 hbytes hbase
    exact ⟨v', w', h1, h2, h3⟩
theorem wpList_append_vals {P : Program} (w : World) {ops : Array Oper} {rest : List Oper} {op : Oper} {ac : Act} {Q : Exit → Act → World → Prop} (hgd : op.guard = none) (s x : Operand) (t : TypeId)
    (ho : op.op = .call { callee := .builtin .append, args := #[s, x], argTypes := #[t, t] })
    (base : Nat) (e : TypeId) (i : TypeInfo) (z : Value) (size bytes : Nat) (ht : P.underlying t = some (.slice e)) (hi : P.info? e = some i) (hz : i.zero = some z)
    (hsize : i.size = size) (hby : i.bytes = bytes) (hzs : z.cells.size = size) (hsz : 0 < size)
    (v : Value) (n : Nat) (xs : List Value) (hs : ac.eval s = v) (hown : w.ownsRow base e size v n xs)
    (a : Option Addr) (b o m c : Nat) (news : List Value) (hx : ac.eval x = .slice a m c) (ha : 0 < m → a = some ⟨b, o, none⟩) (hl : news.length = m * size) (hnews : ∀ j (hj : j < news.length), At w b (o + j) news[j]) (h1 : ∀ u ∈ news, u.oneCell' = true)
    (h63 : n + m ≤ maxLen) (hbytes : (n + m) * bytes ≤ 140737488355328) (hbase : base ≤ w.heap.size)
    (h : ∀ v' w', w'.ownsRow base e size v' (n + m) (xs ++ news) → w.grownBy w' v.ownBlock → wpList P ops Q rest (ac.put op.dst v') w') : wpList P ops Q (op :: rest) ac w := by
  refine wpList_plain hgd fun K hK => ?_
  obtain ⟨v', w', hr, h2, h3⟩ := run_append_vals w base t op.type e i z size bytes ht hi hz hsize hby hzs hsz v n xs hown a b o m c news ha hl hnews h1 h63 hbytes hbase
  unfold Oper.wp execOp
  simp only [ho, resolve, invoke, builtin, Sem.run_bind, Sem.run_pure, Result.andThen_ok, List.map_toArray, List.map_cons, List.map_nil, hs, hx, hr]
  exact hK _ _ (h v' w' h2 h3)
theorem one_new (w : World) (x : Value) (T : TypeId) : ∀ j (hj : j < [x].length), At (w.alloc (Go.Obj.cells #[x] T)) w.heap.size (0 + j) [x][j] := fun j hj => by
  obtain rfl : j = 0 := by simpa using hj
  exact at_cells (MapKept.heap_alloc w _).1 rfl
theorem one_cell {k : IntKind} {t : Int} : ∀ u ∈ [Value.int k t], u.oneCell' = true := fun u hu => by
  obtain rfl : u = .int k t := by simpa using hu
  rfl
/-- What a call's own row keeps, and what lies below it. -/
theorem own_bel {base : Nat} {e : TypeId} {size : Nat} {v : Value} {n : Nat} {xs : List Value} {w0 w w' : World} (hB : Below base w0 w) (hown : w.ownsRow base e size v n xs) (hg : w.grownBy w' v.ownBlock) (hb : base ≤ w.heap.size) : Below base w0 w' :=
  hB.grown hg hb (fun k hk => (hown.lt k hk).1)
end Go.Proofs.Ytbacbigcecmfbaa
