/- The specification's order of a graph, by going down. -/
import Derived.Test.YtdnngdkfhemfgaaWs1
namespace Go.Proofs.Ytdnngdkfhemfgaa
open Go.ChangeShapes Go.WideShapes Go.ChangeAt Go.RowKit
set_option linter.unusedVariables false
set_option linter.unusedSimpArgs false
/-- 'make([]bool, n)'. -/
theorem mkSeen (n : Nat) (hn : n ≤ 1048576) : ∃ O : Obj, (∀ W : World, (Instr.makeSlice 73 (.int .i64 (n : Int)) (.int .i64 (n : Int))).run Try.prog W = .ok (.slice (some ⟨W.heap.size, 0, none⟩) n n) (W.alloc O)) ∧ ∀ W : World, SeenAt (W.alloc O) W.heap.size n [] := by
  obtain ⟨i, hi, hzz⟩ := Option.map_eq_some_iff.1 (show (Try.prog.info? 4).map (fun i => (i.zero, i.size, i.bytes)) = some (some (.bool false), 1, 1) by kernel_rfl)
  simp only [Prod.mk.injEq] at hzz
  obtain ⟨hz, hs, hbb⟩ := hzz
  refine ⟨.cells (madeCells (Value.bool false).cells (n * 1)) 4, fun W => ?_, fun W => ⟨_, new_cells W _, fun j hj => ?_⟩⟩
  · have hb' : (i.bytes : Int) * (n : Int) ≤ 281474976710656 := by rw [hbb]; omega
    have hr := run_make (P := Try.prog) W 73 4 i _ Try.underlying73 hi hz .i64 .i64 n n (by omega) (Int.le_refl _) hb' (by omega)
    simp only [Int.toNat_natCast, hs] at hr
    exact hr
  · have e := size_madeCells (Value.bool false).cells (n * 1)
    have hj2 : j < (madeCells (Value.bool false).cells (n * 1)).size := by rw [e]; omega
    rw [Array.getElem?_eq_getElem hj2]
    simp [madeCells, Value.cells, Nat.mod_one]
theorem own_base {w : World} {base base' size n : Nat} {e : TypeId} {v : Value} {xs : List Value} (h : w.ownsRow base e size v n xs) (hb : base' ≤ base) : w.ownsRow base' e size v n xs :=
  ⟨h.1, h.2.elim Or.inl (fun ⟨g, cap, cur, hv, hg, r⟩ => Or.inr ⟨g, cap, cur, hv, by omega, r⟩)⟩
/-- The lists that an order may be: of no blocks the empty one; else what a walk leaves, turned round. -/
def OrdOf (nx : Int → List Int) (n : Nat) (L : List Int) : Prop := (n = 0 ∧ L = []) ∨ (0 < n ∧ ∃ k M, Lw nx k [(0, nx 0)] [0] M ∧ L = M.reverse)
theorem Lw.det {nx : Int → List Int} {k k' : Nat} {st : List (Int × List Int)} {s L L' : List Int} (h : Lw nx k st s L) (h' : Lw nx k' st s L') : L = L' := by
  induction h generalizing k' L' with
  | nil s => cases h'; rfl
  | leave k b st s L h ih => cases h' with | leave _ _ _ _ L2 h2 => rw [ih h2]
  | skip k b c r st s L hc h ih =>
    cases h' with
    | skip _ _ _ _ _ _ _ hc2 h2 => exact ih h2
    | come _ _ _ _ _ _ L2 hc2 h2 => rw [hc] at hc2; cases hc2
  | come k b c r st s L hc h ih =>
    cases h' with
    | skip _ _ _ _ _ _ _ hc2 h2 => rw [hc] at hc2; cases hc2
    | come _ _ _ _ _ _ L2 hc2 h2 => exact ih h2
theorem OrdOf.det {nx : Int → List Int} {n : Nat} {L L' : List Int} (h : OrdOf nx n L) (h' : OrdOf nx n L') : L = L' := by
  rcases h with ⟨h0, rfl⟩ | ⟨h0, k, M, hM, rfl⟩
  · rcases h' with ⟨-, rfl⟩ | ⟨h1, -⟩
    · rfl
    · omega
  · rcases h' with ⟨h1, -⟩ | ⟨-, k', M', hM', rfl⟩
    · omega
    · rw [hM.det hM']
theorem Fr.own {w w' : World} {sb : Nat} {row : Option Nat} (h : Fr w w' sb row) {base size n : Nat} {e : TypeId} {v : Value} {xs : List Value} (ho : w.ownsRow base e size v n xs) (h1 : v.ownBlock ≠ some sb) (h2 : v.ownBlock = none ∨ v.ownBlock ≠ row) : w'.ownsRow base e size v n xs := by
  refine ⟨ho.1, ?_⟩
  rcases ho.2 with h0 | ⟨g, cap, cur, rfl, hb1, hg, rest⟩
  · exact .inl h0
  · refine .inr ⟨g, cap, cur, rfl, hb1, (h.block g (Array.getElem?_eq_some_iff.1 hg).1 (fun e => h1 (by rw [← e]; rfl)) (fun e => ?_)).trans hg, rest⟩
    rcases h2 with q | q
    · cases q
    · exact q e
end Go.Proofs.Ytdnngdkfhemfgaa
