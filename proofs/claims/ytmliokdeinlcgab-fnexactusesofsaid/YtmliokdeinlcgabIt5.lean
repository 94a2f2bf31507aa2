/- Where a value is defined: the program's answer. -/
import Derived.Test.YtmliokdeinlcgabIt4
namespace Go.Proofs.Ytmliokdeinlcgab
open Go.ChangeShapes Go.WideShapes Go.ChangeAt Go.RowKit
attribute [local go_sem] Oper.semAt_some
set_option linter.unusedVariables false
set_option linter.unusedSimpArgs false
theorem four_at {w W : World} {o1 o2 o3 o4 : Obj} (h : W = (((w.alloc o1).alloc o2).alloc o3).alloc o4) :
    W.heap.size = w.heap.size + 4 ∧ Below w.heap.size w W ∧ W.heap[w.heap.size]? = some o1 ∧ W.heap[w.heap.size + 1]? = some o2 ∧ W.heap[w.heap.size + 1 + 1]? = some o3 ∧ W.heap[w.heap.size + 1 + 1 + 1]? = some o4 := by
  subst h
  refine ⟨by simp, bel_trans (bel_trans (bel_trans (bel_alloc _ _) (bel_alloc _ _)) (bel_alloc _ _)) (bel_alloc _ _), ?_, ?_, ?_, ?_⟩
  · rw [(MapKept.heap_alloc _ _).2 _ (by simp <;> omega), (MapKept.heap_alloc _ _).2 _ (by simp <;> omega), (MapKept.heap_alloc _ _).2 _ (by simp)]; exact (MapKept.heap_alloc w _).1
  · rw [(MapKept.heap_alloc _ _).2 _ (by simp <;> omega), (MapKept.heap_alloc _ _).2 _ (by simp)]
    have := (MapKept.heap_alloc (w.alloc o1) o2).1
    rwa [World.size_alloc] at this
  · rw [(MapKept.heap_alloc _ _).2 _ (by simp)]
    have := (MapKept.heap_alloc ((w.alloc o1).alloc o2) o3).1
    rwa [World.size_alloc, World.size_alloc] at this
  · have := (MapKept.heap_alloc (((w.alloc o1).alloc o2).alloc o3) o4).1
    rwa [World.size_alloc, World.size_alloc, World.size_alloc] at this
theorem at_cells {w : World} {b : Nat} {arr : Array Value} {t : TypeId} (h : w.heap[b]? = some (Go.Obj.cells arr t (0, 0))) {j : Nat} {v : Value} (hj : arr[j]? = some v) : At w b j v := by
  show World.cell? _ _ = _
  simp [World.cell?, h, hj]
theorem rw_cells {w : World} {b : Nat} {arr : Array Value} {t : TypeId} (h : w.heap[b]? = some (Go.Obj.cells arr t (0, 0))) : ∀ j, w.frozen? ⟨b, j, none⟩ = false := fun j => by simp [World.frozen?, h]
theorem set_one {w : World} {b : Nat} {u : Value} {t : TypeId} (h : w.heap[b]? = some (Go.Obj.cells #[u] t (0, 0))) (x : Value) : (w.setCell ⟨b, 0, none⟩ x).heap[b]? = some (Go.Obj.cells #[x] t (0, 0)) := Boxed.set x h
theorem set_cells {w : World} {b : Nat} {arr : Array Value} {t : TypeId} (h : w.heap[b]? = some (Go.Obj.cells arr t (0, 0))) (j : Nat) (x : Value) : (w.setCell ⟨b, j, none⟩ x).heap[b]? = some (Go.Obj.cells (arr.setIfInBounds j x) t (0, 0)) := by
  obtain ⟨hlt, hk⟩ := Array.getElem?_eq_some_iff.1 h
  show (w.heap.modify b _)[b]? = _
  rw [Array.getElem?_eq_getElem (by rw [Array.size_modify]; exact hlt), Array.getElem_modify_self, hk]
  rfl
theorem set_two {w : World} {b : Nat} {u0 u1 : Value} {t : TypeId} (h : w.heap[b]? = some (Go.Obj.cells #[u0, u1] t (0, 0))) (x y : Value) : ((w.setCell ⟨b, 0, none⟩ x).setCell ⟨b, 1, none⟩ y).heap[b]? = some (Go.Obj.cells #[x, y] t (0, 0)) :=
  set_cells (set_cells h 0 x) 1 y
end Go.Proofs.Ytmliokdeinlcgab
