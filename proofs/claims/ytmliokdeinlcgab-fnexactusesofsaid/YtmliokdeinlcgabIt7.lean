/- The laws that compare DefinedAt, and ResultOf, of the program with their models. -/
import Derived.Test.YtmliokdeinlcgabIt6
import Derived.Test.YtmliokdeinlcgabOpn
import Derived.Deep.RegionHeld3
namespace Go.Proofs.Ytmliokdeinlcgab
open Go.ChangeShapes Go.WideShapes Go.ChangeAt Go.RowKit
set_option linter.unusedVariables false
set_option linter.unusedSimpArgs false
theorem keep_cells {w w' : World} {b : Nat} {o : Obj} (h : w.heap[b]? = some o) (hb : Below w.heap.size w w') : w'.heap[b]? = some o := (hb.block b (Array.getElem?_eq_some_iff.1 h).1).trans h
theorem new_cells (w : World) (o : Obj) : (w.alloc o).heap[w.heap.size]? = some o := (MapKept.heap_alloc w o).1
theorem FnAt.shapes {lo : Nat} {w : World} {d : FnD} {vp vb : Value} (h : FnAt lo w d vp vb) : (∃ a c, vp = .slice a d.params.length c) ∧ ∃ a c, vb = .slice a d.blocks.length c := by
  obtain ⟨a1, k1, e1⟩ := h.p.shape
  obtain ⟨a2, k2, e2⟩ := h.b.shape
  exact ⟨⟨a1, k1, e1⟩, ⟨a2, k2, e2⟩⟩
theorem fnN_nn (d : FnD) : 0 ≤ fnN d := by have := blsN_nn d.blocks; unfold fnN; omega
theorem fnN_small (d : FnD) (h : 0 ≤ less 1048576 (fnN d)) : fnN d ≤ 1048576 := by
  unfold less at h
  split at h <;> omega
end Go.Proofs.Ytmliokdeinlcgab
