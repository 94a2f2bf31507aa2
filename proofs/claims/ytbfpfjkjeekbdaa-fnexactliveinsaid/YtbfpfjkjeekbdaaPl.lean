/- What lies in a block, and the shapes of a function (in a seat that has no run over instructions; else It5 and It7 say the same). -/
import Derived.Test.YtbfpfjkjeekbdaaDp16
import Derived.Test.YtbfpfjkjeekbdaaOpn
import Derived.OwnWalkIn
import Derived.RangeFuncBound
namespace Go.Proofs.Ytbfpfjkjeekbdaa
open Go.ChangeShapes Go.WideShapes Go.ChangeAt Go.RowKit
set_option linter.unusedVariables false
set_option linter.unusedSimpArgs false
theorem at_cells {w : World} {b : Nat} {arr : Array Value} {t : TypeId} (h : w.heap[b]? = some (Go.Obj.cells arr t (0, 0))) {j : Nat} {v : Value} (hj : arr[j]? = some v) : At w b j v := by
  show World.cell? _ _ = _
  simp [World.cell?, h, hj]
theorem rw_cells {w : World} {b : Nat} {arr : Array Value} {t : TypeId} (h : w.heap[b]? = some (Go.Obj.cells arr t (0, 0))) : ∀ j, w.frozen? ⟨b, j, none⟩ = false := fun j => by simp [World.frozen?, h]
theorem set_cells {w : World} {b : Nat} {arr : Array Value} {t : TypeId} (h : w.heap[b]? = some (Go.Obj.cells arr t (0, 0))) (j : Nat) (x : Value) : (w.setCell ⟨b, j, none⟩ x).heap[b]? = some (Go.Obj.cells (arr.setIfInBounds j x) t (0, 0)) := by
  obtain ⟨hlt, hk⟩ := Array.getElem?_eq_some_iff.1 h
  show (w.heap.modify b _)[b]? = _
  rw [Array.getElem?_eq_getElem (by rw [Array.size_modify]; exact hlt), Array.getElem_modify_self, hk]
  rfl
theorem keep_cells {w w' : World} {b : Nat} {o : Obj} (h : w.heap[b]? = some o) (hb : Below w.heap.size w w') : w'.heap[b]? = some o := (hb.block b (Array.getElem?_eq_some_iff.1 h).1).trans h
theorem new_cells (w : World) (o : Obj) : (w.alloc o).heap[w.heap.size]? = some o := (MapKept.heap_alloc w o).1
theorem FnAt.shapes {lo : Nat} {w : World} {d : FnD} {vp vb : Value} (h : FnAt lo w d vp vb) : (∃ a c, vp = .slice a d.params.length c) ∧ ∃ a c, vb = .slice a d.blocks.length c := by
  obtain ⟨a1, k1, e1⟩ := h.p.shape
  obtain ⟨a2, k2, e2⟩ := h.b.shape
  exact ⟨⟨a1, k1, e1⟩, ⟨a2, k2, e2⟩⟩
theorem fnN_nn (d : FnD) : 0 ≤ fnN d := by have := blsN_nn d.blocks; unfold fnN; omega
theorem fnN_small (d : FnD) (h : 0 ≤ less 1048576 (fnN d)) : fnN d ≤ 1048576 := by
  unfold less at h
  split at h <;> omega
end Go.Proofs.Ytbfpfjkjeekbdaa
