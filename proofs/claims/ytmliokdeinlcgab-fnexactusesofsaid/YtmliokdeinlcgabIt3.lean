/- The program's walk through the values that instructions define: its contract. -/
import Derived.Test.YtmliokdeinlcgabIt2
import Derived.Shelf.Abstract
namespace Go.Proofs.Ytmliokdeinlcgab
open Go.ChangeShapes Go.WideShapes Go.ChangeAt Go.RowKit
attribute [local go_sem] Oper.semAt_some
set_option linter.unusedVariables false
set_option linter.unusedSimpArgs false
theorem room_any {F : Fence} (hd : F.depth = none) (k : Nat) : F.room k := fun d h => by rw [hd] at h; cases h
theorem yield_any {F : Fence} (hd : F.depth = none) {m : Nat} (m' : Nat) {P : Program} {l : Nat} {args : Array Value} {W : World} {R : Ending → World → Prop} (h : YieldAt F m P l args W R) : YieldAt F m' P l args W R := by
  obtain ⟨fn, tmps, assign, body, hy, hR⟩ := h
  exact ⟨fn, tmps, assign, body, hy, hR.1, fun c cs _ => hR.2 c cs (room_any hd _)⟩
/-- The values that are defined, the first being n, with their places. -/
def defL (n : Int) : List ItD → List (Int × Nat × Nat)
  | [] => []
  | y :: r => if y.d.ty = 0 then defL n r else (n, y.b, y.i) :: defL (n + 1) r
def cntD (L : List ItD) : Nat := (L.filter fun y => !decide (y.d.ty = 0)).length
theorem cnt_take (L : List ItD) (k : Nat) (h : k < L.length) : cntD (L.take (k + 1)) = cntD (L.take k) + if L[k].d.ty = 0 then 0 else 1 := by
  unfold cntD
  rw [List.take_succ_eq_append_getElem h, List.filter_append, List.length_append]
  by_cases q : L[k].d.ty = 0 <;> simp [q]
theorem cnt_le (L : List ItD) (k : Nat) : cntD (L.take k) ≤ L.length := by
  unfold cntD
  have := List.length_filter_le (fun y => !decide (y.d.ty = 0)) (L.take k)
  have := List.length_take_le' k L
  omega
theorem defL_len (n : Int) (L : List ItD) : (defL n L).length = cntD L := by
  unfold cntD
  induction L generalizing n with
  | nil => rfl
  | cons y r ih =>
    by_cases q : y.d.ty = 0
    · simp [defL, q, ih]
    · simp [defL, q, ih]
theorem defL_at (n : Int) (L : List ItD) (k : Nat) (h : k < L.length) (ht : L[k].d.ty ≠ 0) : ∃ q : cntD (L.take k) < (defL n L).length, (defL n L)[cntD (L.take k)] = (n + cntD (L.take k), L[k].b, L[k].i) := by
  induction L generalizing n k with
  | nil => simp at h
  | cons y r ih =>
    cases k with
    | zero =>
      simp only [List.getElem_cons_zero] at ht
      simp [defL, ht, cntD]
    | succ k =>
      simp only [List.getElem_cons_succ] at ht ⊢
      by_cases q : y.d.ty = 0
      · obtain ⟨q1, q2⟩ := ih n k (by simpa using h) ht
        have e : cntD ((y :: r).take (k + 1)) = cntD (r.take k) := by simp [cntD, q]
        simp only [defL, q, if_true, e]
        exact ⟨q1, q2⟩
      · obtain ⟨q1, q2⟩ := ih (n + 1) k (by simpa using h) ht
        have e : cntD ((y :: r).take (k + 1)) = cntD (r.take k) + 1 := by simp [cntD, q]
        simp only [defL, q, if_false, e, List.length_cons, List.getElem_cons_succ]
        refine ⟨by omega, ?_⟩
        rw [q2]
        simp; omega
abbrev dfE (x : Int × Nat × Nat) : Array Value := #[.int .i64 x.1, .agg #[.int .i64 x.2.1, .int .i64 x.2.2]]
theorem instrsOf_c (name : ByteArray) (link res : Int) (vp vb : Value) (hp : ∃ a n c, vp = .slice a n c) (hb : ∃ a n c, vb = .slice a n c) (w : World) :
    Calls Try.prog 19 #[.agg #[.string name, .int .i64 link, vp, .int .i64 res, vb]] w fun e w' => e = .returned (.func (.func 28) #[] #[.pointer (some ⟨w.heap.size, 0, none⟩)]) ∧ w' = w.alloc (.cells #[.string name, .int .i64 link, vp, .int .i64 res, vb] 31) := by
  obtain ⟨a1, n1, c1, rfl⟩ := hp
  obtain ⟨a2, n2, c2, rfl⟩ := hb
  go_enter Try.func19, Try.ntmps19
  go_wp2
  go_ret
  exact ⟨rfl, rfl⟩
end Go.Proofs.Ytmliokdeinlcgab
