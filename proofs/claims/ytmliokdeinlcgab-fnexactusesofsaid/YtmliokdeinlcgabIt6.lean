/- Which value a place defines: the program's answer. -/
import Derived.Test.YtmliokdeinlcgabIt5
namespace Go.Proofs.Ytmliokdeinlcgab
open Go.ChangeShapes Go.WideShapes Go.ChangeAt Go.RowKit
attribute [local go_sem] Oper.semAt_some
set_option linter.unusedVariables false
set_option linter.unusedSimpArgs false
theorem five_at {w W : World} {o1 o2 o3 o4 o5 : Obj} (h : W = ((((w.alloc o1).alloc o2).alloc o3).alloc o4).alloc o5) :
    W.heap.size = w.heap.size + 5 ∧ Below w.heap.size w W ∧ W.heap[w.heap.size]? = some o1 ∧ W.heap[w.heap.size + 1]? = some o2 ∧ W.heap[w.heap.size + 1 + 1]? = some o3 ∧ W.heap[w.heap.size + 1 + 1 + 1]? = some o4 ∧ W.heap[w.heap.size + 1 + 1 + 1 + 1]? = some o5 := by
  obtain ⟨z, b, h1, h2, h3, h4⟩ := four_at (w := w) (W := (((w.alloc o1).alloc o2).alloc o3).alloc o4) rfl
  subst h
  refine ⟨by simp, bel_trans b (bel_alloc _ _), ?_, ?_, ?_, ?_, ?_⟩
  · rw [(MapKept.heap_alloc _ _).2 _ (by omega)]; exact h1
  · rw [(MapKept.heap_alloc _ _).2 _ (by omega)]; exact h2
  · rw [(MapKept.heap_alloc _ _).2 _ (by omega)]; exact h3
  · rw [(MapKept.heap_alloc _ _).2 _ (by omega)]; exact h4
  · have := (MapKept.heap_alloc ((((w.alloc o1).alloc o2).alloc o3).alloc o4) o5).1
    rwa [z] at this
end Go.Proofs.Ytmliokdeinlcgab
