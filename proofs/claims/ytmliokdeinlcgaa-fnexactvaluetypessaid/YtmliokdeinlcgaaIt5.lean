/- Where a value is defined: the program's answer. -/
import Derived.Test.YtmliokdeinlcgaaIt4
namespace Go.Proofs.Ytmliokdeinlcgaa
open Go.ChangeShapes Go.WideShapes Go.ChangeAt Go.RowKit
attribute [local go_sem] Oper.semAt_some
set_option linter.unusedVariables false
set_option linter.unusedSimpArgs false
theorem four_at {w W : World} {o1 o2 o3 o4 : Obj} (h : W = (((w.alloc o1).alloc o2).alloc o3).alloc o4) :
    W.heap.size = w.heap.size + 4 ∧ Below w.heap.size w W ∧ W.heap[w.heap.size]? = some o1 ∧ W.heap[w.heap.size + 1]? = some o2 ∧ W.heap[w.heap.size + 1 + 1]? = some o3 ∧ W.heap[w.heap.size + 1 + 1 + 1]? = some o4 := by
  subst h
  refine ⟨by simp, bel_trans (bel_trans (bel_trans (bel_alloc _ _) (bel_alloc _ _)) (bel_alloc _ _)) (bel_alloc _ _), ?_, ?_, ?_, ?_⟩
  · rw [(MapKept.heap_alloc _ _).2 _ (by simp <;> omega), (MapKept.heap_alloc _ _).2 _ (by simp <;> omega), (MapKept.heap_alloc _ _).2 _ (by simp)]; exact (MapKept.heap_alloc w _).1
  · rw [(MapKept.heap_alloc _ _).2 _ (by simp <;> omega), (MapKept.heap_alloc _ _).2 _ (by simp)]
    have := (MapKept.heap_alloc (w.alloc o1) o2).1
    rwa [World.size_alloc] at this
  · rw [(MapKept.heap_alloc _ _).2 _ (by simp)]
    have := (MapKept.heap_alloc ((w.alloc o1).alloc o2) o3).1
    rwa [World.size_alloc, World.size_alloc] at this
  · have := (MapKept.heap_alloc (((w.alloc o1).alloc o2).alloc o3) o4).1
    rwa [World.size_alloc, World.size_alloc, World.size_alloc] at this
theorem at_cells {w : World} {b : Nat} {arr : Array Value} {t : TypeId} (h : w.heap[b]? = some (Go.Obj.cells arr t (0, 0))) {j : Nat} {v : Value} (hj : arr[j]? = some v) : At w b j v := by
  show World.cell? _ _ = _
  simp [World.cell?, h, hj]
theorem rw_cells {w : World} {b : Nat} {arr : Array Value} {t : TypeId} (h : w.heap[b]? = some (Go.Obj.cells arr t (0, 0))) : ∀ j, w.frozen? ⟨b, j, none⟩ = false := fun j => by simp [World.frozen?, h]
theorem set_one {w : World} {b : Nat} {u : Value} {t : TypeId} (h : w.heap[b]? = some (Go.Obj.cells #[u] t (0, 0))) (x : Value) : (w.setCell ⟨b, 0, none⟩ x).heap[b]? = some (Go.Obj.cells #[x] t (0, 0)) := Boxed.set x h
theorem set_cells {w : World} {b : Nat} {arr : Array Value} {t : TypeId} (h : w.heap[b]? = some (Go.Obj.cells arr t (0, 0))) (j : Nat) (x : Value) : (w.setCell ⟨b, j, none⟩ x).heap[b]? = some (Go.Obj.cells (arr.setIfInBounds j x) t (0, 0)) := by
  obtain ⟨hlt, hk⟩ := Array.getElem?_eq_some_iff.1 h
  show (w.heap.modify b _)[b]? = _
  rw [Array.getElem?_eq_getElem (by rw [Array.size_modify]; exact hlt), Array.getElem_modify_self, hk]
  rfl
theorem set_two {w : World} {b : Nat} {u0 u1 : Value} {t : TypeId} (h : w.heap[b]? = some (Go.Obj.cells #[u0, u1] t (0, 0))) (x y : Value) : ((w.setCell ⟨b, 0, none⟩ x).setCell ⟨b, 1, none⟩ y).heap[b]? = some (Go.Obj.cells #[x, y] t (0, 0)) :=
  set_cells (set_cells h 0 x) 1 y
set_option maxRecDepth 100000 in
set_option maxHeartbeats 2000000 in
theorem defAtI (d : FnD) (vp vb : Value) (v : Int) (w : World) {lo : Nat} (h : FnAt lo w d vp vb) (hn : fnN d ≤ 1048576) :
    Calls Try.prog 9 #[fnV d vp vb, .int .i64 v] w fun e w' => e = .returned (.agg #[.int .i64 (dAt v d.params.length (blPl 0 d.blocks)).1, .int .i64 (dAt v d.params.length (blPl 0 d.blocks)).2]) ∧ Below w.heap.size w w' := by
  unfold fnN at hn
  obtain ⟨name, link, params, res, blocks⟩ := d
  obtain ⟨-, hp, hb⟩ := h
  dsimp only [fnV] at *
  have nn := blsN_nn blocks
  obtain ⟨a1, k1, rfl⟩ := hp.shape
  obtain ⟨Y, hY, hYd, hYi⟩ := itBls_of hb
  obtain ⟨a2, k2, rfl⟩ := hb.shape
  have hpl : blPl 0 blocks = Y.flatten.map trip := by
    rw [← hYd]
    exact blPl_trip Y 0 (fun k hk j hj => by simpa using hY.ix k hk j hj)
  have hbd : params.length + Y.flatten.length ≤ 1099511627776 := by
    have := blPl_len 0 blocks
    rw [hpl, List.length_map] at this
    omega
  have hDL := defL_bd params.length Y.flatten
  rw [hpl]
  clear hYd hYi hb hp hpl nn hn
  replace hY := Kp.mk hY
  obtain ⟨DL, hDLe⟩ : ∃ DL, DL = defL params.length Y.flatten := ⟨_, rfl⟩
  obtain ⟨R, hRe⟩ : ∃ R, R = dAt v params.length (Y.flatten.map trip) := ⟨_, rfl⟩
  have A1 : Kp ((∀ k (hk : k < DL.length), DL[k].1 ≠ v) → R = (-1, -1)) := ⟨by rw [hRe, hDLe]; exact dAt_none v params.length Y.flatten⟩
  have A2 : Kp (∀ k (hk : k < DL.length), DL[k].1 = v → (∀ j (hj : j < DL.length), j < k → DL[j].1 ≠ v) → R = ((DL[k].2.1 : Int), (DL[k].2.2 : Int))) :=
    ⟨by subst hRe hDLe; exact fun k hk hv h => dAt_hit v params.length Y.flatten k hk hv (fun j hj => h j (by omega) hj)⟩
  have hseq : Kp (∀ (S : Nat → Prop) (n0 Bf : Nat) (w0 : World) (_ : ItBls n0 w0 (.slice a2 blocks.length k2) Y) (_ : At w0 Bf 0 (.string name)) (_ : At w0 Bf 1 (.int .i64 link)) (_ : At w0 Bf 2 (.slice a1 params.length k1)) (_ : At w0 Bf 3 (.int .i64 res)) (_ : At w0 Bf 4 (.slice a2 blocks.length k2)) (_ : ∀ k, k < n0 → S k) (_ : S Bf) (_ : ∀ k, S k → k < w0.heap.size),
      SeqL Fence.wide (12 - 1) Try.prog 41 #[.pointer (some ⟨Bf, 0, none⟩)] dfE S DL w0) :=
    ⟨by subst hDLe; exact fun S n0 Bf w0 hY h0 h1 h2 h3 h4 hS hB hSw => defs_seq _ S n0 Bf w0 name link res _ _ params.length ⟨_, _, rfl⟩ ⟨_, _, _, rfl⟩ Y hY (Below.refl _ _) h0 h1 h2 h3 h4 hS hB hSw hbd⟩
  rw [← hRe]
  clear hbd hDL hDLe hRe
  have C : Kp (∀ w, CallsIn Fence.wide 11 Try.prog _ _ w _) := ⟨fun w => callsIn_wide.2 (definitionsOf_c name link res (.slice a1 params.length k1) (.slice a2 blocks.length k2) ⟨_, _, _, rfl⟩ ⟨_, _, _, rfl⟩ w)⟩
  refine (callsIn_wide (n := 12)).1 ?_
  refine callsIn_of_wp_marks Try.func9 rfl trivial ?_ rfl
  simp only [Try.ntmps9, List.size_toArray, List.length_cons, List.length_nil, Nat.reduceAdd, Nat.reduceSub, Array.replicate_succ, Array.replicate_zero, List.push_toArray, List.append_toArray, List.nil_append, List.cons_append]
  gi_wp2
  refine ⟨trivial, ?_⟩
  refine (C.out _).mono ?_
  rintro e w' ⟨rfl, rfl⟩
  obtain ⟨W4, hW4⟩ : ∃ W4, W4 = (((w.alloc (Go.Obj.cells #[.string name, .int .i64 link, .slice a1 params.length k1, .int .i64 res, .slice a2 blocks.length k2] 31)).alloc (Go.Obj.cells #[.int .i64 v] 2)).alloc (Go.Obj.cells #[.int .i64 0, .int .i64 0] 41)).alloc (Go.Obj.cells #[.string name, .int .i64 link, .slice a1 params.length k1, .int .i64 res, .slice a2 blocks.length k2] 31) := ⟨_, rfl⟩
  gi_wp2
  rw [← hW4]
  obtain ⟨hz, hB4, g1, g2, g3, g4⟩ := four_at hW4
  clear hW4 C
  obtain ⟨S, hS⟩ : ∃ S : Nat → Prop, S = fun k => k < w.heap.size ∨ k = w.heap.size + 1 + 1 + 1 := ⟨_, rfl⟩
  have hs : ∀ k, S k → k < W4.heap.size := fun k hk => by
    rw [hS] at hk
    rcases hk with hk | hk <;> omega
  have hns : ¬ S (w.heap.size + 1 + 1) := fun hk => by
    rw [hS] at hk
    rcases hk with hk | hk <;> omega
  replace hS := Kp.mk hS
  have hY4 : ItBls w.heap.size W4 (.slice a2 blocks.length k2) Y := hY.out.kq (Kq.below (S := fun k => k < w.heap.size) hB4 (fun _ h => h)) (fun _ h => h)
  refine wpIn_rangeL rfl (by decide) (gf := 41) (lb := #[.pointer (some ⟨w.heap.size + 1 + 1 + 1, 0, none⟩)]) rfl trivial (enters_of Try.func41 (by kernel_rfl) rfl)
    (hseq.out S w.heap.size (w.heap.size + 1 + 1 + 1) W4 hY4 (at_cells g4 rfl) (at_cells g4 rfl) (at_cells g4 rfl) (at_cells g4 rfl) (at_cells g4 rfl) (fun k hk => by rw [hS.out]; exact .inl hk) (by rw [hS.out]; exact .inr rfl) hs) (Below.refl _ _) hs (fun _ => rfl)
    (fun k X => (∀ j (hj : j < DL.length), j < k → DL[j].1 ≠ v) ∧ X.heap[w.heap.size + 1]? = some (Go.Obj.cells #[.int .i64 v] 2 (0, 0)) ∧ X.heap[w.heap.size + 1 + 1]? = some (Go.Obj.cells #[.int .i64 0, .int .i64 0] 41 (0, 0)) ∧ Below w.heap.size w X)
    (fun c k X => c = .ret ∧ At X (w.heap.size + 1 + 1) 0 (.int .i64 R.1) ∧ At X (w.heap.size + 1 + 1) 1 (.int .i64 R.2) ∧ Below w.heap.size w X) ?hI ?hIx ?h0
    (fun x a' X => ∃ B1, W4.heap.size ≤ B1 ∧ X.heap[B1]? = some (Go.Obj.cells #[.int .i64 x.2.1, .int .i64 x.2.2] 41 (0, 0)) ∧ ∃ u9 u10,
      a' = { tmps := #[.agg #[.string name, .int .i64 link, .slice a1 params.length k1, .int .i64 res, .slice a2 blocks.length k2], .int .i64 v, .pointer (some ⟨w.heap.size, 0, none⟩), .pointer (some ⟨w.heap.size + 1, 0, none⟩), .pointer (some ⟨w.heap.size + 1 + 1, 0, none⟩), .int .i64 x.1, .pointer (some ⟨B1, 0, none⟩),
        .agg #[.string name, .int .i64 link, .slice a1 params.length k1, .int .i64 res, .slice a2 blocks.length k2], .func (.func 41) #[] #[.pointer (some ⟨w.heap.size + 1 + 1 + 1, 0, none⟩)], u9, u10, undef, undef, undef, undef, undef], defers := [] }) ?hAx ?assign ?body ?done ?stop
  case hI =>
    rintro k A E ⟨s1, s2, s3, s4⟩ hA hB
    exact ⟨s1, (hB.block _ (by omega)).trans s2, (hB.block _ (by omega)).trans s3, s4.trans (hB.mono (by omega))⟩
  case hIx =>
    rintro c k A E ⟨s1, s2, s3, s4⟩ hA hB
    exact ⟨s1, (hB.cell (p := ⟨_, _, none⟩) (show w.heap.size + 1 + 1 < W4.heap.size by omega)).trans s2, (hB.cell (p := ⟨_, _, none⟩) (show w.heap.size + 1 + 1 < W4.heap.size by omega)).trans s3, s4.trans (hB.mono (by omega))⟩
  case h0 => exact ⟨fun j hj h => absurd h (by omega), g2, g3, hB4⟩
  case hAx =>
    rintro x a' u A E row ⟨B1, b1, p1, p3⟩ hg hr
    refine ⟨B1, b1, (hg.block B1 (Array.getElem?_eq_some_iff.1 p1).1 (fun e => ?_)).trans p1, p3⟩
    obtain ⟨-, o, ho, hc⟩ := hr B1 e.symm
    rw [p1] at ho
    cases ho
    cases hc
  case assign =>
    intro lr k hk X K hi hX hK
    clear hi
    generalize DL[k] = y at *
    obtain ⟨y1, y2, y3⟩ := y
    simp only [dfE, List.zip_toArray, List.zip_cons_cons, List.zip_nil_right, List.foldl_toArray', List.foldl_cons, List.foldl_nil, List.setIfInBounds_toArray, List.set_cons_succ, List.set_cons_zero, Array.zip, List.toList_toArray]
    gi_wp2
    exact hK _ _ (bel_alloc _ _) ⟨X.heap.size, hX, (MapKept.heap_alloc X _).1, _, _, rfl⟩
  case body =>
    rintro lr k hk a' X hX ⟨i1, i2, i3, i4⟩ ⟨B1, b1, p1, u9, u10, rfl⟩
    have hcv : X.cell? ⟨w.heap.size + 1, 0, none⟩ = some (.int .i64 v) := at_cells i2 rfl
    have hp0 : X.cell? ⟨B1, 0, none⟩ = some (.int .i64 DL[k].2.1) := at_cells p1 rfl
    have hp1 : X.cell? ⟨B1, 1, none⟩ = some (.int .i64 DL[k].2.2) := at_cells p1 rfl
    have hr0 : X.cell? ⟨w.heap.size + 1 + 1, 0, none⟩ = some (.int .i64 0) := at_cells i3 rfl
    have hr1 : X.cell? ⟨w.heap.size + 1 + 1, 1, none⟩ = some (.int .i64 0) := at_cells i3 rfl
    have hf0 := rw_cells i3 0
    have hf1 := rw_cells i3 1
    by_cases hv : DL[k].1 = v
    · have hR := A2.out k hk hv i1
      have hb : (DL[k].1 == v) = true := beq_iff_eq.2 hv
      clear hv i1
      generalize DL[k] = y at *
      obtain ⟨y1, y2, y3⟩ := y
      dsimp only at hb hp0 hp1 hR
      have c3 := set_two i3 (.int .i64 y2) (.int .i64 y3)
      have hk1 : Kd S W4.heap.size X ((X.setCell ⟨w.heap.size + 1 + 1, 0, none⟩ (.int .i64 y2)).setCell ⟨w.heap.size + 1 + 1, 1, none⟩ (.int .i64 y3)) :=
        ((Kd.refl _ _ _).setCell (p := ⟨w.heap.size + 1 + 1, 0, none⟩) hns (show w.heap.size + 1 + 1 < W4.heap.size by omega) _).setCell (p := ⟨w.heap.size + 1 + 1, 1, none⟩) hns (show w.heap.size + 1 + 1 < W4.heap.size by omega) _
      rw [hR]
      gi_wp2
      exact ⟨by rw [← hz]; exact hk1, rfl, at_cells c3 rfl, at_cells c3 rfl, bel_set (bel_set i4 (by omega) _) (by omega) _⟩
    · have hb : (DL[k].1 == v) = false := beq_eq_false_iff_ne.2 hv
      have i1' : Kp (∀ j (hj : j < DL.length), j < k + 1 → DL[j].1 ≠ v) := ⟨fun j hj h => by
        by_cases e : j = k
        · subst e; exact hv
        · exact i1 j hj (by omega)⟩
      clear hv i1
      generalize DL[k] = y at *
      obtain ⟨y1, y2, y3⟩ := y
      dsimp only at hb hp0 hp1
      gi_wp2
      exact ⟨Kd.refl _ _ _, i1'.out, i2, i3, i4⟩
  case done =>
    rintro D X hD ⟨i1, i2, i3, i4⟩ hK
    have hR := A1.out (fun k hk => i1 k hk hk)
    have hr0 : X.cell? ⟨w.heap.size + 1 + 1, 0, none⟩ = some (.int .i64 0) := at_cells i3 rfl
    have hr1 : X.cell? ⟨w.heap.size + 1 + 1, 1, none⟩ = some (.int .i64 0) := at_cells i3 rfl
    have hf0 := rw_cells i3 0
    have hf1 := rw_cells i3 1
    have c3 := set_two i3 (.int .i64 (-1)) (.int .i64 (-1))
    have hK2 := (KeepsOthers.setCell (X.setCell ⟨w.heap.size + 1 + 1, 0, none⟩ (.int .i64 (-1))) ⟨w.heap.size + 1 + 1, 1, none⟩ (.int .i64 (-1))).same D _ ((KeepsOthers.setCell X ⟨w.heap.size + 1 + 1, 0, none⟩ (.int .i64 (-1))).same D _ hK rfl) rfl
    have hB2 : Below w.heap.size w ((X.setCell ⟨w.heap.size + 1 + 1, 0, none⟩ (.int .i64 (-1))).setCell ⟨w.heap.size + 1 + 1, 1, none⟩ (.int .i64 (-1))) := bel_set (bel_set i4 (by omega) _) (by omega) _
    gi_wp2
    rw [hR]
    generalize (X.setCell ⟨w.heap.size + 1 + 1, 0, none⟩ (.int .i64 (-1))).setCell ⟨w.heap.size + 1 + 1, 1, none⟩ (.int .i64 (-1)) = X2 at *
    refine ⟨by simp, .inl ⟨_, _, rfl, run_takeDeferred hK2, ?_⟩⟩
    have c4 : (X2.putObj D (.deferred none)).heap[w.heap.size + 1 + 1]? = _ := (World.putObj_heap_other (by omega)).trans c3
    have d0 := at_cells c4 (j := 0) rfl
    have d1 := at_cells c4 (j := 1) rfl
    refine ⟨.agg #[.int .i64 (-1), .int .i64 (-1)], ?_, rfl, hB2.grown (grownBy_putObj' _ _ _) hB2.size (fun k e => by cases e; omega)⟩
    simp [results, Try.results9, go_sem, d0, d1]
  case stop =>
    rintro D c k X hD hk ⟨rfl, i1, i2, i3⟩ hK
    gi_wp2
    refine ⟨by simp, .inl ⟨_, _, rfl, run_takeDeferred hK, ?_⟩⟩
    have hoth : (X.putObj D (.deferred none)).heap[w.heap.size + 1 + 1]? = X.heap[w.heap.size + 1 + 1]? := World.putObj_heap_other (by omega)
    have d0 : At (X.putObj D (.deferred none)) (w.heap.size + 1 + 1) 0 (.int .i64 R.1) := (World.cell?_of_block (a := ⟨w.heap.size + 1 + 1, 0, none⟩) hoth).trans i1
    have d1 : At (X.putObj D (.deferred none)) (w.heap.size + 1 + 1) 1 (.int .i64 R.2) := (World.cell?_of_block (a := ⟨w.heap.size + 1 + 1, 1, none⟩) hoth).trans i2
    refine ⟨.agg #[.int .i64 R.1, .int .i64 R.2], ?_, rfl, i3.grown (grownBy_putObj' _ _ _) i3.size (fun k e => by cases e; omega)⟩
    simp [results, Try.results9, go_sem, d0, d1]
end Go.Proofs.Ytmliokdeinlcgaa
