/- The names of types, operations and predicates as maps both ways. -/
import Derived.Test.YtbfhfhkicdigaaaNm2
import Derived.Maps.AppendAt
namespace Go.Proofs.Ytbfhfhkicdigaaa
open Go.ChangeShapes Go.WideShapes Go.ChangeAt Go.RowKit Go.Maps
set_option linter.unusedVariables false
set_option linter.unusedSimpArgs false
/-- A literal's entries, laid one after the other. -/
theorem wpList_inserts {H : Type} {P : Program} {ops : Array Oper} {Q : Exit → Act → World → Prop} (t k e : TypeId) (K : Keyed P k) (hk : P.underlying k = some .string) (ht : P.underlying t = some (.map k e)) (he : P.underlying e = some (.int .i64)) (m : Operand) (b : Nat) :
    ∀ (L : List (ByteArray × Int)) (l : List Oper) (a : Act) (w : World) (n : Nat) (D : DataW H),
      (l.take L.length).map (fun o => (o.guard, o.dst, o.op)) = L.map (fun p => (none, none, Op.insert t m (.const (.string p.1)) (.const (.int .i64 p.2)))) →
      n + L.length < maxLen → (∀ p ∈ L, p.1.size ≤ maxLen ∧ (Lit.int .i64 p.2).wf = true) → a.eval m = .map (some b) → w.ownsMap P k (plainElem P e) b n D →
      (∀ w', w'.ownsMap P k (plainElem P e) b (n + L.length) (L.foldl (fun m p => m.put (keyS p.1) (litI p.2)) D) → w.grownBy w' (some b) → wpList P ops Q (l.drop L.length) a w') → wpList P ops Q l a w
  | [], l, a, w, n, D, _, _, _, _, hown, hK => hK w hown ⟨rfl, rfl, rfl, Nat.le_refl _, fun _ _ _ => rfl⟩
  | p :: r, [], a, w, n, D, h, _, _, _, _, _ => by simp at h
  | p :: r, o :: l, a, w, n, D, h, hn, hp, hm, hown, hK => by
    simp only [List.length_cons, List.take_succ_cons, List.map_cons, List.cons.injEq, Prod.mk.injEq] at h hn
    obtain ⟨⟨hg, hd, hop⟩, hr⟩ := h
    refine wpList_plain hg fun K' hK' => ?_
    have hp0 := hp p (by simp)
    obtain ⟨w', hrun, r1, r2⟩ := hown.update K ht (by omega) (WideMaps.keyOf_string_mk hk hp0.1) (plainElem_int he hp0.2)
    have hev : ∀ v, a.eval (.const v) = v := fun _ => rfl
    unfold Oper.wp
    simp [execOp, hop, hm, hev, hrun, Result.andThen]
    refine hK' _ _ ?_
    rw [hd]
    refine (wpList_inserts t k e K hk ht he m b r l a w' (n + 1) _ hr (by omega) (fun q hq => hp q (by simp [hq])) hm r1 (fun w2 h1 h2 => ?_))
    have h3 := hK w2 (by simpa [Nat.add_assoc, Nat.add_comm 1] using h1) (r2.trans h2)
    simpa using h3
abbrev typesL : List (ByteArray × Int) := [(⟨#[118, 111, 105, 100]⟩, 0), (⟨#[105, 49]⟩, 1), (⟨#[105, 56]⟩, 8), (⟨#[105, 49, 54]⟩, 16), (⟨#[105, 51, 50]⟩, 32), (⟨#[105, 54, 52]⟩, 64), (⟨#[112, 116, 114]⟩, 65)]
theorem typesL_ok : apartB typesL = true := by kernel_rfl
theorem typeNaming_c {H : Type} (w : World) :
    Calls Try.prog 12 #[] w fun e w' => ∃ b n b2 n2 D, e = .returned (.agg #[.map (some b), .map (some b2)]) ∧ w'.ownsMap (H := H) Try.prog 9 (plainElem Try.prog 2) b n (numD typesL) ∧ w'.ownsMap Try.prog 2 spellElem b2 n2 D ∧ Full (H := H) typesL D ∧ w.heap.size ≤ b ∧ w.heap.size ≤ b2 ∧ Below w.heap.size w w' := by
  have hmm := @run_makeMap Try.prog
  have e2 : (w.alloc (Go.Obj.cells #[Go.Value.map none, Go.Value.map none] 27)).heap.size = w.heap.size + 1 := by simp
  go_enter Try.func12, Try.ntmps12
  go_wp2_with (first
    | (refine wpList_inserts (H := H) 24 9 2 lawS Try.underlying9 Try.underlying24 Try.underlying2 (.tmp 1) (w.heap.size + 1) typesL _ _ _ 0 (.map []) rfl (by decide) (by decide) rfl ?_ ?_)
    | go_in)
  · rw [← e2]; exact World.ownsMap_made _ _ _ _
  · intro w1 hown1 hg1
    simp only [typesL, List.length_cons, List.length_nil, Nat.zero_add, Nat.reduceAdd, List.drop_succ_cons, List.drop_zero]
    have hB : Below w.heap.size w w1 := ((bel_alloc w (Go.Obj.cells #[Go.Value.map none, Go.Value.map none] 27)).alloc (by simp) (Go.Obj.map #[] 0)).grown hg1 (by simp; omega) (fun j hj => by cases hj; omega)
    have C := namingOf_c (H := H) typesL typesL_ok (w.heap.size + 1) _ w1 hown1 (Nat.lt_of_le_of_lt hown1.size_le (by decide))
    have hr1 : w1.heap[w.heap.size]? = some (Go.Obj.cells #[Go.Value.map none, Go.Value.map none] 27 (0, 0)) := by
      rw [hg1.block w.heap.size (by simp; omega) (by simp), (MapKept.heap_alloc (w.alloc _) _).2 w.heap.size (by simp)]
      exact (MapKept.heap_alloc w _).1
    clear hg1
    go_wp2_with fail
    refine C.mono ?_
    rintro e w2 ⟨b2, n2, D, rfl, hA, hN, hF, hb2, hB2⟩
    have hr2 : w2.heap[w.heap.size]? = some (Go.Obj.cells #[Go.Value.map none, Go.Value.map none] 27 (0, 0)) := by
      rw [hB2.block _ (by have := hown1.lt; omega)]; exact hr1
    have hfz : ∀ k, w2.frozen? ⟨w.heap.size, k, none⟩ = false := by
      intro k
      simp [World.frozen?, hr2]
    have hca : w2.cell? ⟨w.heap.size, 0, none⟩ = some (.map none) := by simp [World.cell?, hr2]
    have hcb : w2.cell? ⟨w.heap.size, 1, none⟩ = some (.map none) := by simp [World.cell?, hr2]
    have hlt := hown1.lt
    have hL1 := ((hA.setCell (a := ⟨w.heap.size, 0, none⟩) (by simp) (.map (some (w.heap.size + 1)))).setCell (a := ⟨w.heap.size, 1, none⟩) (by simp) (.map (some b2)))
    have hL2 := ((hN.setCell (a := ⟨w.heap.size, 0, none⟩) (by simp; omega) (.map (some (w.heap.size + 1)))).setCell (a := ⟨w.heap.size, 1, none⟩) (by simp; omega) (.map (some b2)))
    have hL3 := ((bel_trans hB hB2).setCell (p := ⟨w.heap.size, 0, none⟩) (by simp) (.map (some (w.heap.size + 1)))).setCell (p := ⟨w.heap.size, 1, none⟩) (by simp) (.map (some b2))
    go_wp2
    refine bodyPost_ret (v := .agg #[.map (some (w.heap.size + 1)), .map (some b2)]) (by simp [results, Try.results12, go_sem, hca, hcb]) rfl ⟨_, _, _, _, D, rfl, hL1, hL2, hF, by omega, by omega, hL3⟩
abbrev opsL : List (ByteArray × Int) := [(⟨#[97, 100, 100]⟩, 1), (⟨#[115, 117, 98]⟩, 2), (⟨#[109, 117, 108]⟩, 3), (⟨#[117, 100, 105, 118]⟩, 4), (⟨#[115, 100, 105, 118]⟩, 5), (⟨#[117, 114, 101, 109]⟩, 6), (⟨#[115, 114, 101, 109]⟩, 7), (⟨#[115, 104, 108]⟩, 8), (⟨#[108, 115, 104, 114]⟩, 9), (⟨#[97, 115, 104, 114]⟩, 10), (⟨#[97, 110, 100]⟩, 11), (⟨#[111, 114]⟩, 12), (⟨#[120, 111, 114]⟩, 13), (⟨#[99, 109, 112]⟩, 14), (⟨#[115, 101, 108, 101, 99, 116]⟩, 15), (⟨#[122, 101, 120, 116]⟩, 16), (⟨#[115, 101, 120, 116]⟩, 17), (⟨#[116, 114, 117, 110, 99]⟩, 18), (⟨#[112, 104, 105]⟩, 20), (⟨#[97, 108, 108, 111, 99, 97]⟩, 21), (⟨#[108, 111, 97, 100]⟩, 22), (⟨#[115, 116, 111, 114, 101]⟩, 23), (⟨#[111, 102, 102, 115, 101, 116]⟩, 24), (⟨#[99, 97, 108, 108]⟩, 25), (⟨#[112, 114, 105, 110, 116]⟩, 26), (⟨#[106, 117, 109, 112]⟩, 27), (⟨#[98, 114, 97, 110, 99, 104]⟩, 28), (⟨#[115, 119, 105, 116, 99, 104]⟩, 29), (⟨#[114, 101, 116, 117, 114, 110]⟩, 30), (⟨#[116, 114, 97, 112]⟩, 31)]
theorem opsL_ok : apartB opsL = true := by kernel_rfl
theorem opNaming_c {H : Type} (w : World) :
    Calls Try.prog 14 #[] w fun e w' => ∃ b n b2 n2 D, e = .returned (.agg #[.map (some b), .map (some b2)]) ∧ w'.ownsMap (H := H) Try.prog 9 (plainElem Try.prog 2) b n (numD opsL) ∧ w'.ownsMap Try.prog 2 spellElem b2 n2 D ∧ Full (H := H) opsL D ∧ w.heap.size ≤ b ∧ w.heap.size ≤ b2 ∧ Below w.heap.size w w' := by
  have hmm := @run_makeMap Try.prog
  have e2 : (w.alloc (Go.Obj.cells #[Go.Value.map none, Go.Value.map none] 27)).heap.size = w.heap.size + 1 := by simp
  go_enter Try.func14, Try.ntmps14
  go_wp2_with (first
    | (refine wpList_inserts (H := H) 24 9 2 lawS Try.underlying9 Try.underlying24 Try.underlying2 (.tmp 1) (w.heap.size + 1) opsL _ _ _ 0 (.map []) rfl (by decide) (by decide) rfl ?_ ?_)
    | go_in)
  · rw [← e2]; exact World.ownsMap_made _ _ _ _
  · intro w1 hown1 hg1
    simp only [opsL, List.length_cons, List.length_nil, Nat.zero_add, Nat.reduceAdd, List.drop_succ_cons, List.drop_zero]
    have hB : Below w.heap.size w w1 := ((bel_alloc w (Go.Obj.cells #[Go.Value.map none, Go.Value.map none] 27)).alloc (by simp) (Go.Obj.map #[] 0)).grown hg1 (by simp; omega) (fun j hj => by cases hj; omega)
    have C := namingOf_c (H := H) opsL opsL_ok (w.heap.size + 1) _ w1 hown1 (Nat.lt_of_le_of_lt hown1.size_le (by decide))
    have hr1 : w1.heap[w.heap.size]? = some (Go.Obj.cells #[Go.Value.map none, Go.Value.map none] 27 (0, 0)) := by
      rw [hg1.block w.heap.size (by simp; omega) (by simp), (MapKept.heap_alloc (w.alloc _) _).2 w.heap.size (by simp)]
      exact (MapKept.heap_alloc w _).1
    clear hg1
    go_wp2_with fail
    refine C.mono ?_
    rintro e w2 ⟨b2, n2, D, rfl, hA, hN, hF, hb2, hB2⟩
    have hr2 : w2.heap[w.heap.size]? = some (Go.Obj.cells #[Go.Value.map none, Go.Value.map none] 27 (0, 0)) := by
      rw [hB2.block _ (by have := hown1.lt; omega)]; exact hr1
    have hfz : ∀ k, w2.frozen? ⟨w.heap.size, k, none⟩ = false := by
      intro k
      simp [World.frozen?, hr2]
    have hca : w2.cell? ⟨w.heap.size, 0, none⟩ = some (.map none) := by simp [World.cell?, hr2]
    have hcb : w2.cell? ⟨w.heap.size, 1, none⟩ = some (.map none) := by simp [World.cell?, hr2]
    have hlt := hown1.lt
    have hL1 := ((hA.setCell (a := ⟨w.heap.size, 0, none⟩) (by simp) (.map (some (w.heap.size + 1)))).setCell (a := ⟨w.heap.size, 1, none⟩) (by simp) (.map (some b2)))
    have hL2 := ((hN.setCell (a := ⟨w.heap.size, 0, none⟩) (by simp; omega) (.map (some (w.heap.size + 1)))).setCell (a := ⟨w.heap.size, 1, none⟩) (by simp; omega) (.map (some b2)))
    have hL3 := ((bel_trans hB hB2).setCell (p := ⟨w.heap.size, 0, none⟩) (by simp) (.map (some (w.heap.size + 1)))).setCell (p := ⟨w.heap.size, 1, none⟩) (by simp) (.map (some b2))
    go_wp2
    refine bodyPost_ret (v := .agg #[.map (some (w.heap.size + 1)), .map (some b2)]) (by simp [results, Try.results14, go_sem, hca, hcb]) rfl ⟨_, _, _, _, D, rfl, hL1, hL2, hF, by omega, by omega, hL3⟩
abbrev predsL : List (ByteArray × Int) := [(⟨#[101, 113]⟩, 1), (⟨#[110, 101]⟩, 2), (⟨#[117, 108, 116]⟩, 3), (⟨#[117, 108, 101]⟩, 4), (⟨#[117, 103, 116]⟩, 5), (⟨#[117, 103, 101]⟩, 6), (⟨#[115, 108, 116]⟩, 7), (⟨#[115, 108, 101]⟩, 8), (⟨#[115, 103, 116]⟩, 9), (⟨#[115, 103, 101]⟩, 10)]
theorem predsL_ok : apartB predsL = true := by kernel_rfl
theorem predNaming_c {H : Type} (w : World) :
    Calls Try.prog 15 #[] w fun e w' => ∃ b n b2 n2 D, e = .returned (.agg #[.map (some b), .map (some b2)]) ∧ w'.ownsMap (H := H) Try.prog 9 (plainElem Try.prog 2) b n (numD predsL) ∧ w'.ownsMap Try.prog 2 spellElem b2 n2 D ∧ Full (H := H) predsL D ∧ w.heap.size ≤ b ∧ w.heap.size ≤ b2 ∧ Below w.heap.size w w' := by
  have hmm := @run_makeMap Try.prog
  have e2 : (w.alloc (Go.Obj.cells #[Go.Value.map none, Go.Value.map none] 27)).heap.size = w.heap.size + 1 := by simp
  go_enter Try.func15, Try.ntmps15
  go_wp2_with (first
    | (refine wpList_inserts (H := H) 24 9 2 lawS Try.underlying9 Try.underlying24 Try.underlying2 (.tmp 1) (w.heap.size + 1) predsL _ _ _ 0 (.map []) rfl (by decide) (by decide) rfl ?_ ?_)
    | go_in)
  · rw [← e2]; exact World.ownsMap_made _ _ _ _
  · intro w1 hown1 hg1
    simp only [predsL, List.length_cons, List.length_nil, Nat.zero_add, Nat.reduceAdd, List.drop_succ_cons, List.drop_zero]
    have hB : Below w.heap.size w w1 := ((bel_alloc w (Go.Obj.cells #[Go.Value.map none, Go.Value.map none] 27)).alloc (by simp) (Go.Obj.map #[] 0)).grown hg1 (by simp; omega) (fun j hj => by cases hj; omega)
    have C := namingOf_c (H := H) predsL predsL_ok (w.heap.size + 1) _ w1 hown1 (Nat.lt_of_le_of_lt hown1.size_le (by decide))
    have hr1 : w1.heap[w.heap.size]? = some (Go.Obj.cells #[Go.Value.map none, Go.Value.map none] 27 (0, 0)) := by
      rw [hg1.block w.heap.size (by simp; omega) (by simp), (MapKept.heap_alloc (w.alloc _) _).2 w.heap.size (by simp)]
      exact (MapKept.heap_alloc w _).1
    clear hg1
    go_wp2_with fail
    refine C.mono ?_
    rintro e w2 ⟨b2, n2, D, rfl, hA, hN, hF, hb2, hB2⟩
    have hr2 : w2.heap[w.heap.size]? = some (Go.Obj.cells #[Go.Value.map none, Go.Value.map none] 27 (0, 0)) := by
      rw [hB2.block _ (by have := hown1.lt; omega)]; exact hr1
    have hfz : ∀ k, w2.frozen? ⟨w.heap.size, k, none⟩ = false := by
      intro k
      simp [World.frozen?, hr2]
    have hca : w2.cell? ⟨w.heap.size, 0, none⟩ = some (.map none) := by simp [World.cell?, hr2]
    have hcb : w2.cell? ⟨w.heap.size, 1, none⟩ = some (.map none) := by simp [World.cell?, hr2]
    have hlt := hown1.lt
    have hL1 := ((hA.setCell (a := ⟨w.heap.size, 0, none⟩) (by simp) (.map (some (w.heap.size + 1)))).setCell (a := ⟨w.heap.size, 1, none⟩) (by simp) (.map (some b2)))
    have hL2 := ((hN.setCell (a := ⟨w.heap.size, 0, none⟩) (by simp; omega) (.map (some (w.heap.size + 1)))).setCell (a := ⟨w.heap.size, 1, none⟩) (by simp; omega) (.map (some b2)))
    have hL3 := ((bel_trans hB hB2).setCell (p := ⟨w.heap.size, 0, none⟩) (by simp) (.map (some (w.heap.size + 1)))).setCell (p := ⟨w.heap.size, 1, none⟩) (by simp) (.map (some b2))
    go_wp2
    refine bodyPost_ret (v := .agg #[.map (some (w.heap.size + 1)), .map (some b2)]) (by simp [results, Try.results15, go_sem, hca, hcb]) rfl ⟨_, _, _, _, D, rfl, hL1, hL2, hF, by omega, by omega, hL3⟩
end Go.Proofs.Ytbfhfhkicdigaaa
