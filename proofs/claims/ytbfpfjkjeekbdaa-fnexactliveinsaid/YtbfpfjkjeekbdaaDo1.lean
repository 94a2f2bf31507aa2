/- Dominance: the program's answer. -/
import Derived.Test.YtbfpfjkjeekbdaaLb1
import Derived.Deep.Cut
import Derived.Deep.RegionWith
namespace Go.Proofs.Ytbfpfjkjeekbdaa
open Go.ChangeShapes Go.WideShapes Go.ChangeAt Go.RowKit
set_option linter.unusedVariables false
set_option linter.unusedSimpArgs false
/-- What holds in the loops. -/
structure DoI (nx : Int → List Int) (M nb Bd b1 b2 b3 b4 b5 b6 c1 c2 : Nat) (prs : List (Int × Int)) (Ro : Obj) (w wr : World) (ab st sz : Nat → Nat) : Prop where
  bx : wr.heap[Bd]? = some (Go.Obj.cells #[.slice (some ⟨b1, 0, none⟩) M c1, .slice (some ⟨b2, 0, none⟩) M c2, .slice (some ⟨b3, 0, none⟩) nb nb, .slice (some ⟨b4, 0, none⟩) M M, .slice (some ⟨b5, 0, none⟩) M M, .slice (some ⟨b6, 0, none⟩) M M] 58 (0, 0))
  r1 : RowI wr b1 M (fun i => (prs.map (·.1)).getD i 0)
  r2 : RowI wr b2 M (fun i => (frN prs i : Int))
  r3 : RowI wr b3 nb (numL (prs.map (·.1)))
  r4 : RowI wr b4 M (fun i => (ab i : Int))
  r5 : RowI wr b5 M (fun i => (st i : Int))
  r6 : RowI wr b6 M (fun i => (sz i : Int))
  rr : wr.heap[w.heap.size + 1]? = some Ro
  bel : Below w.heap.size w wr
section
variable {nx : Int → List Int} {M nb Bd b1 b2 b3 b4 b5 b6 c1 c2 : Nat} {prs : List (Int × Int)} {Ro : Obj} {w wr w' : World} {ab st sz : Nat → Nat}
theorem DoI.keep (h : DoI nx M nb Bd b1 b2 b3 b4 b5 b6 c1 c2 prs Ro w wr ab st sz) (hb : Below wr.heap.size wr w') : DoI nx M nb Bd b1 b2 b3 b4 b5 b6 c1 c2 prs Ro w w' ab st sz :=
  ⟨keep_cells h.bx hb, h.r1.keep hb, h.r2.keep hb, h.r3.keep hb, h.r4.keep hb, h.r5.keep hb, h.r6.keep hb, keep_cells h.rr hb, bel_trans h.bel hb⟩
/-- A row is written. -/
theorem DoI.set (h : DoI nx M nb Bd b1 b2 b3 b4 b5 b6 c1 c2 prs Ro w wr ab st sz) {b j y : Nat} (hd : b ≠ Bd ∧ b ≠ b1 ∧ b ≠ b2 ∧ b ≠ b3 ∧ w.heap.size + 1 < b) (hj : j < M) {ab' st' sz' : Nat → Nat}
    (h4 : (b = b4 ∧ ab' = setN ab j y) ∨ (b ≠ b4 ∧ ab' = ab)) (h5 : (b = b5 ∧ st' = setN st j y) ∨ (b ≠ b5 ∧ st' = st)) (h6 : (b = b6 ∧ sz' = setN sz j y) ∨ (b ≠ b6 ∧ sz' = sz)) :
    DoI nx M nb Bd b1 b2 b3 b4 b5 b6 c1 c2 prs Ro w (wr.setCell ⟨b, j, none⟩ (.int .i64 (y : Int))) ab' st' sz' := by
  have e : ∀ k, k ≠ b → (wr.setCell ⟨b, j, none⟩ (.int .i64 (y : Int))).heap[k]? = wr.heap[k]? := fun k hk => heap_set _ _ _ _ _ hk
  have row : ∀ {bb : Nat} {z z' : Nat → Nat}, RowI wr bb M (fun i => (z i : Int)) → (b = bb ∧ z' = setN z j y) ∨ (b ≠ bb ∧ z' = z) → RowI (wr.setCell ⟨b, j, none⟩ (.int .i64 (y : Int))) bb M (fun i => (z' i : Int)) := fun {bb z z'} hr hc => by
    rcases hc with ⟨rfl, rfl⟩ | ⟨hn, rfl⟩
    · rw [setN_row]; exact hr.set hj y
    · exact hr.same (e _ (Ne.symm hn))
  exact ⟨(e _ (Ne.symm hd.1)).trans h.bx, h.r1.same (e _ (Ne.symm hd.2.1)), h.r2.same (e _ (Ne.symm hd.2.2.1)), h.r3.same (e _ (Ne.symm hd.2.2.2.1)), row h.r4 h4, row h.r5 h5, row h.r6 h6, (e _ (by omega)).trans h.rr, h.bel.setCell (by show w.heap.size ≤ b; omega) _⟩
end
set_option maxRecDepth 100000 in
set_option maxHeartbeats 8000000 in
theorem dominanceI (nx : Int → List Int) (nb lo : Nat) (pv : Nat → List Int) (w : World) (vN vP : Value) (G : Rws lo w vN nb (fun i => nx i)) (GP : Rws lo w vP nb pv) (root : Nat) (hroot : root < nb) (hnb : nb ≤ 1048576)
    (hnx : ∀ i : Nat, i < nb → (nx i).length ≤ 1048576 ∧ ∀ y ∈ nx i, 0 ≤ y ∧ y < nb) (hpv : ∀ y : Nat, y < nb → (pv y).length ≤ 1048576 ∧ ∀ x, x ∈ pv y ↔ ∃ i : Nat, x = i ∧ i < nb ∧ (y : Int) ∈ nx i) :
    Calls Try.prog 30 #[.agg #[vN, vP], .int .i64 root] w fun e w' => ∃ (prs : List (Int × Int)) (ab st sz : Nat → Nat) (v : Value), e = .returned v ∧
      Domi w' lo nb prs.length (numL (prs.map (·.1))) (fun i => (prs.map (·.1)).getD i 0) (fun i => (frN prs i : Int)) (fun i => (ab i : Int)) (fun i => (st i : Int)) (fun i => (sz i : Int)) v ∧ Below w.heap.size w w' ∧
      Arr nb root prs ∧ Dv prs.length (frN prs) nx (prs.map (·.1)) [] ∧ (∀ u, 0 < u → u < prs.length → Near (EN nx (prs.map (·.1))) (ab u) u) ∧ Stretch prs.length ab st sz ∧ ∀ u, u < prs.length → st u + sz u ≤ prs.length := by
  obtain ⟨k0, E, hE⟩ := exists_root nx nb (fun i hi => (hnx i hi).2) root hroot
  obtain ⟨prs, hprs⟩ : ∃ prs, prs = ((root : Int), (root : Int)) :: comes E := ⟨_, rfl⟩
  have hA := hE.arr (fun i hi => (hnx i hi).2) hroot
  rw [← hprs] at hA
  have hpc : ∀ j, (comes E)[j]? = prs[j + 1]? := fun j => by rw [hprs]; rfl
  have hDD := hE.deep (fr := frN prs) (arr := prs.map (·.1)) (by rw [hprs]; rfl) (fun j e he => hA.fr j e (by rw [← hpc]; exact he))
  rw [List.length_map] at hDD
  obtain ⟨hDv, hDp⟩ := hDD
  have hMnb := hA.len
  have hM0 : 0 < prs.length := by rw [hprs]; simp
  have hNs : ∃ a c, vN = .slice a nb c := by
    obtain ⟨_, _, ⟨⟨a, c, e, -⟩, -⟩, -⟩ := G.ex
    exact ⟨a, c, e⟩
  have hPs : ∃ a c, vP = .slice a nb c := by
    obtain ⟨_, _, ⟨⟨a, c, e, -⟩, -⟩, -⟩ := GP.ex
    exact ⟨a, c, e⟩
  have CA : Kp (∀ W, Below w.heap.size w W → Calls Try.prog 53 #[.agg #[vN, vP], .int .i64 root] W _) := ⟨fun W hW => arrivalsI nx nb lo W vN vP (G.keep hW) (by obtain ⟨a, c, e⟩ := hPs; exact ⟨a, _, c, e⟩) root hroot hnb hnx k0 E hE prs hprs⟩
  have CL : Kp (∀ (W : World) (b1 b2 b3 c1 c2 : Nat), Below w.heap.size w W → RowI W b1 prs.length (fun i => (prs.map (·.1)).getD i 0) → RowI W b2 prs.length (fun i => (frN prs i : Int)) → RowI W b3 nb (numL (prs.map (·.1))) → prs.length ≤ c2 → Calls Try.prog 55 #[.agg #[.slice (some ⟨b1, 0, none⟩) prs.length c1, .slice (some ⟨b2, 0, none⟩) prs.length c2, .slice (some ⟨b3, 0, none⟩) nb nb], .agg #[vN, vP]] W _) :=
    ⟨fun W b1 b2 b3 c1 c2 hW h1 h2 h3 hc2 => leastI nx nb lo prs.length (prs.map (·.1)) (frN prs) pv W b1 b2 b3 c1 c2 vN vP (by obtain ⟨a, c, e⟩ := hNs; exact ⟨a, _, c, e⟩) (GP.keep hW) h1 h2 h3 hc2 hM0 (by omega) hnb (by simp) hA.nd (fun x hx => by obtain ⟨e, he, rfl⟩ := List.mem_map.1 hx; exact hA.bd e he) hpv hA.num hDp hA.fr0⟩
  refine Calls.mono (R := fun e w' => ∃ (ab st sz : Nat → Nat) (v : Value), e = .returned v ∧
      Domi w' lo nb prs.length (numL (prs.map (·.1))) (fun i => (prs.map (·.1)).getD i 0) (fun i => (frN prs i : Int)) (fun i => (ab i : Int)) (fun i => (st i : Int)) (fun i => (sz i : Int)) v ∧ Below w.heap.size w w' ∧
      Arr nb root prs ∧ Dv prs.length (frN prs) nx (prs.map (·.1)) [] ∧ (∀ u, 0 < u → u < prs.length → Near (EN nx (prs.map (·.1))) (ab u) u) ∧ Stretch prs.length ab st sz ∧ ∀ u, u < prs.length → st u + sz u ≤ prs.length) ?_ (fun e w' h => ⟨prs, h⟩)
  obtain ⟨M, hM⟩ : ∃ M, prs.length = M := ⟨_, rfl⟩
  rw [hM] at hMnb hM0 CA CL hDv hDp ⊢
  have CR : Kp (∀ (bx : Nat) (W : World), At W bx 0 (.int .i64 1) → Calls Try.prog 54 #[.slice (some ⟨bx, 0, none⟩) 1 1, .int .i64 M] W _) := ⟨fun bx W h => repI 1 bx M W h (by omega) (by omega)⟩
  obtain ⟨aN, cN, rfl⟩ := hNs
  obtain ⟨aP, cP, rfl⟩ := hPs
  obtain ⟨O, hmk, hRO, -⟩ := mkI M (by omega)
  obtain ⟨W0, hW0⟩ : ∃ W0, Kp (W0 = (w.alloc (Go.Obj.cells #[.slice aN nb cN, .slice aP nb cP] 53)).alloc (Go.Obj.cells #[.slice none 0 0, .slice none 0 0, .slice none 0 0, .slice none 0 0, .slice none 0 0, .slice none 0 0] 58)) := ⟨_, ⟨rfl⟩⟩
  have hB0 : Below w.heap.size w W0 := by rw [hW0.out]; exact bel_trans (bel_alloc _ _) (bel_alloc _ _)
  have hs0 : W0.heap.size = w.heap.size + 2 := by rw [hW0.out]; simp
  have hg0 : W0.heap[w.heap.size]? = some (Go.Obj.cells #[.slice aN nb cN, .slice aP nb cP] 53 (0, 0)) := by rw [hW0.out]; exact keep_cells (new_cells w _) (bel_alloc _ _)
  have hr0 : W0.heap[w.heap.size + 1]? = some (Go.Obj.cells #[.slice none 0 0, .slice none 0 0, .slice none 0 0, .slice none 0 0, .slice none 0 0, .slice none 0 0] 58 (0, 0)) := by rw [hW0.out]; exact new_at (by simp)
  have x0 := at_cells hg0 (j := 0) rfl
  have x1 := at_cells hg0 (j := 1) rfl
  replace hE := Kp.mk hE
  replace hA := Kp.mk hA
  replace hDv := Kp.mk hDv
  replace hDp := Kp.mk hDp
  replace hprs := Kp.mk hprs
  replace hM := Kp.mk hM
  replace hRO := Kp.mk hRO
  replace hnx := Kp.mk hnx
  replace hpv := Kp.mk hpv
  replace G := Kp.mk G
  replace GP := Kp.mk GP
  replace hr0 := Kp.mk hr0
  replace hg0 := Kp.mk hg0
  clear hpc
  have hMi : (M : Int) ≤ 1048576 := by omega
  go_enter Try.func30, Try.ntmps30
  go_upto_region 1 with fail
  rw [← hW0.out]
  go_wp2_with fail
  refine (CA.out _ hB0).mono ?_
  rintro e W1 ⟨b1, b2, b3, c1, c2, rfl, h1, h2, h3, hB1, hc1, hc2⟩
  have hB01 := bel_trans hB0 hB1
  obtain ⟨X0, hX0⟩ : ∃ X0, Kp (X0 = W1.alloc (Go.Obj.cells #[.slice (some ⟨b1, 0, none⟩) M c1, .slice (some ⟨b2, 0, none⟩) M c2, .slice (some ⟨b3, 0, none⟩) nb nb, .slice none 0 0, .slice none 0 0, .slice none 0 0] 58)) := ⟨_, ⟨rfl⟩⟩
  have hbX : X0.heap[W1.heap.size]? = some (Go.Obj.cells #[.slice (some ⟨b1, 0, none⟩) M c1, .slice (some ⟨b2, 0, none⟩) M c2, .slice (some ⟨b3, 0, none⟩) nb nb, .slice none 0 0, .slice none 0 0, .slice none 0 0] 58 (0, 0)) := by rw [hX0.out]; exact new_cells _ _
  have hBX : Below W1.heap.size W1 X0 := by rw [hX0.out]; exact bel_alloc _ _
  have hsX : X0.heap.size = W1.heap.size + 1 := by rw [hX0.out]; simp
  obtain ⟨Bd, hBd⟩ : ∃ Bd, W1.heap.size = Bd := ⟨_, rfl⟩
  have hw1 : w.heap.size + 2 ≤ Bd := by have := hB1.size; omega
  have hb1 : b1 < Bd := by rw [← hBd]; exact h1.lt
  have hb2 : b2 < Bd := by rw [← hBd]; exact h2.lt
  have hb3 : b3 < Bd := by rw [← hBd]; exact h3.lt
  have h1X := h1.keep hBX
  have h2X := h2.keep hBX
  have h3X := h3.keep hBX
  have hgX := keep_cells (keep_cells hg0.out hB1) hBX
  have hrX := keep_cells (keep_cells hr0.out hB1) hBX
  have hbelX := bel_trans hB01 hBX
  rw [hBd] at hbX hsX
  have z0 := at_cells hbX (j := 0) rfl
  replace hBd := Kp.mk hBd
  go_upto_region 2 with fail
  rw [← hX0.out]
  rw [hBd.out]
  go_upto_region 3 with fail
  go_cut [23] (fun s wr => ∃ b4 b5 b6 : Nat, wr.heap[Bd]? = some (Go.Obj.cells #[.slice (some ⟨b1, 0, none⟩) M c1, .slice (some ⟨b2, 0, none⟩) M c2, .slice (some ⟨b3, 0, none⟩) nb nb, .slice (some ⟨b4, 0, none⟩) M M, .slice (some ⟨b5, 0, none⟩) M M, .slice (some ⟨b6, 0, none⟩) M M] 58 (0, 0)) ∧
    RowI wr b4 M (fun _ => 0) ∧ RowI wr b5 M (fun _ => 0) ∧ RowI wr b6 M (fun _ => 1) ∧ b4 ≠ b5 ∧ b4 ≠ b6 ∧ b5 ≠ b6 ∧ Bd < b4 ∧ Bd < b5 ∧ Bd < b6 ∧ Below Bd X0 wr)
  case first =>
    refine wp_region_held_drew (S := fun _ => True) (by kernel_rfl) trivial (fun hHeld => ?_)
    obtain ⟨Y0, hY0⟩ : ∃ Y0, Kp (Y0 = X0.drew) := ⟨_, ⟨rfl⟩⟩
    rw [← hY0.out]
    have kz : Below X0.heap.size X0 Y0 := by rw [hY0.out]; exact bel_drew _
    have hb : Below Bd X0 Y0 := kz.mono (by omega)
    have bx := keep_cells hbX kz
    have sz : Bd < Y0.heap.size := by have := kz.size; omega
    clear kz z0
    replace hbX := Kp.mk hbX
    replace hgX := Kp.mk hgX
    replace hrX := Kp.mk hrX
    replace hsX := Kp.mk hsX
    replace h1X := Kp.mk h1X
    replace h2X := Kp.mk h2X
    replace h3X := Kp.mk h3X
    replace h1 := Kp.mk h1
    replace h2 := Kp.mk h2
    replace h3 := Kp.mk h3
    refine wpAnyH_take (i := 0) (v := .int .i64 (M : Int)) rfl (by kernel_rfl) (by kernel_rfl) (by kernel_rfl) (fun _ _ _ h => h) (Or.inl ⟨by rfl, fun wq hSw => by (try dsimp only at hSw); go_simp⟩) hHeld ?_
    try simp only [Act.put, List.getElem_toArray, List.getElem_cons_succ, List.getElem_cons_zero, List.setIfInBounds_toArray, List.set_cons_zero, List.set_cons_succ]
    refine wpAnyH_take (i := 2) (v := .int .i64 (M : Int)) rfl (by kernel_rfl) (by kernel_rfl) (by kernel_rfl) (fun _ _ _ h => h) (Or.inl ⟨by rfl, fun wq hSw => by (try dsimp only at hSw); go_simp⟩) hHeld ?_
    try simp only [Act.put, List.getElem_toArray, List.getElem_cons_succ, List.getElem_cons_zero, List.setIfInBounds_toArray, List.set_cons_zero, List.set_cons_succ]
    refine wpAnyH_take (i := 5) (v := .int .i64 (M : Int)) rfl (by kernel_rfl) (by kernel_rfl) (by kernel_rfl) (fun _ _ _ h => h) (Or.inl ⟨by rfl, fun wq hSw => by (try dsimp only at hSw); go_simp⟩) hHeld ?_
    try simp only [Act.put, List.getElem_toArray, List.getElem_cons_succ, List.getElem_cons_zero, List.setIfInBounds_toArray, List.set_cons_zero, List.set_cons_succ]
    refine wpAnyH_ready (rs := [1, 3, 4]) (by kernel_rfl) (by simp) ?_
    refine (AllReadyH.cons rfl (fun K hK => ?_) (AllReadyH.cons rfl (fun K hK => ?_) (AllReadyH.cons rfl (fun K hK => ?_) AllReadyH.nil)))
    · go_simp
      refine hK.out _ _ trivial (fun hHeld => ?_)
      clear hK K
      try simp only [Act.put, List.getElem_toArray, List.getElem_cons_succ, List.getElem_cons_zero, List.setIfInBounds_toArray, List.set_cons_zero, List.set_cons_succ]
      obtain ⟨Y1, hZ⟩ : ∃ Z, Kp (Z = Y0.alloc O) := ⟨_, ⟨rfl⟩⟩
      rw [← hZ.out]
      have kz : Below Y0.heap.size Y0 Y1 := by rw [hZ.out]; exact bel_alloc _ _
      have rn : RowI Y1 Y0.heap.size M (fun _ => 0) := by rw [hZ.out]; exact hRO.out Y0
      obtain ⟨b4, hb_b4⟩ : ∃ b, Kp (Y0.heap.size = b) := ⟨_, ⟨rfl⟩⟩
      rw [hb_b4.out]
      rw [hb_b4.out] at rn
      have g_b4 : Bd < b4 := by have := hb_b4.out; omega
      replace hb := hb.trans (kz.mono (by omega))
      replace bx := keep_cells bx kz
      replace sz : Bd < Y1.heap.size := by have := kz.size; omega
      have rA := rn
      clear rn kz
      refine wpAnyH_take (i := 7) (v := .pointer (some ⟨Bd, 3, none⟩)) rfl (by kernel_rfl) (by kernel_rfl) (by kernel_rfl) (fun _ _ _ h => h) (Or.inl ⟨by rfl, fun wq hSw => by (try dsimp only at hSw); go_simp⟩) hHeld ?_
      try simp only [Act.put, List.getElem_toArray, List.getElem_cons_succ, List.getElem_cons_zero, List.setIfInBounds_toArray, List.set_cons_zero, List.set_cons_succ]
      refine wpAnyH_ready (rs := [3, 4]) (by kernel_rfl) (by simp) ?_
      refine (AllReadyH.cons rfl (fun K hK => ?_) (AllReadyH.cons rfl (fun K hK => ?_) AllReadyH.nil))
      · go_simp
        refine hK.out _ _ trivial (fun hHeld => ?_)
        clear hK K
        try simp only [Act.put, List.getElem_toArray, List.getElem_cons_succ, List.getElem_cons_zero, List.setIfInBounds_toArray, List.set_cons_zero, List.set_cons_succ]
        obtain ⟨Y2, hZ⟩ : ∃ Z, Kp (Z = Y1.alloc O) := ⟨_, ⟨rfl⟩⟩
        rw [← hZ.out]
        have kz : Below Y1.heap.size Y1 Y2 := by rw [hZ.out]; exact bel_alloc _ _
        have rn : RowI Y2 Y1.heap.size M (fun _ => 0) := by rw [hZ.out]; exact hRO.out Y1
        obtain ⟨b5, hb_b5⟩ : ∃ b, Kp (Y1.heap.size = b) := ⟨_, ⟨rfl⟩⟩
        rw [hb_b5.out]
        rw [hb_b5.out] at rn
        have g_b5 : Bd < b5 := by have := hb_b5.out; omega
        have n_b4_b5 : b4 ≠ b5 := by have h1 := hb_b5.out; have h2 := rA.lt; omega
        replace rA := rA.keep kz
        replace hb := hb.trans (kz.mono (by omega))
        replace bx := keep_cells bx kz
        replace sz : Bd < Y2.heap.size := by have := kz.size; omega
        have rB := rn
        clear rn kz
        refine wpAnyH_ready (rs := [4]) (by kernel_rfl) (by simp) ?_
        refine (AllReadyH.cons rfl (fun K hK => ?_) AllReadyH.nil)
        · go_simp
          refine hK.out _ _ trivial (fun hHeld => ?_)
          clear hK K
          try simp only [Act.put, List.getElem_toArray, List.getElem_cons_succ, List.getElem_cons_zero, List.setIfInBounds_toArray, List.set_cons_zero, List.set_cons_succ]
          obtain ⟨Y3, hZ⟩ : ∃ Z, Kp (Z = Y2.alloc (Go.Obj.cells #[.int .i64 1] 2)) := ⟨_, ⟨rfl⟩⟩
          rw [← hZ.out]
          have kz : Below Y2.heap.size Y2 Y3 := by rw [hZ.out]; exact bel_alloc _ _
          have rC : At Y3 Y2.heap.size 0 (.int .i64 1) := by rw [hZ.out]; exact at_cells (new_cells _ _) rfl
          obtain ⟨bC, hb_bC⟩ : ∃ b, Kp (Y2.heap.size = b) := ⟨_, ⟨rfl⟩⟩
          rw [hb_bC.out]
          rw [hb_bC.out] at rC
          replace rA := rA.keep kz
          replace rB := rB.keep kz
          replace hb := hb.trans (kz.mono (by omega))
          replace bx := keep_cells bx kz
          replace sz : Bd < Y3.heap.size := by have := kz.size; omega
          clear kz
          refine wpAnyH_ready (rs := [6]) (by kernel_rfl) (by simp) ?_
          refine (AllReadyH.cons rfl (fun K hK => ?_) AllReadyH.nil)
          · go_simp
            refine (CR.out _ _ rC).mono ?_
            rintro e Y4 ⟨rfl, r6, kz⟩
            refine hK.out _ _ trivial (fun hHeld => ?_)
            clear hK K
            try simp only [Act.put, List.getElem_toArray, List.getElem_cons_succ, List.getElem_cons_zero, List.setIfInBounds_toArray, List.set_cons_zero, List.set_cons_succ]
            obtain ⟨b6, hb_b6⟩ : ∃ b, Kp (Y3.heap.size = b) := ⟨_, ⟨rfl⟩⟩
            rw [hb_b6.out]
            rw [hb_b6.out] at r6
            have g_b6 : Bd < b6 := by have := hb_b6.out; omega
            have n_b4_b6 : b4 ≠ b6 := by have h1 := hb_b6.out; have h2 := rA.lt; omega
            have n_b5_b6 : b5 ≠ b6 := by have h1 := hb_b6.out; have h2 := rB.lt; omega
            replace rA := rA.keep kz
            replace rB := rB.keep kz
            replace hb := hb.trans (kz.mono (by omega))
            replace bx := keep_cells bx kz
            replace sz : Bd < Y4.heap.size := by have := kz.size; omega
            clear kz rC
            refine wpAnyH_ready (rs := [8]) (by kernel_rfl) (by simp) ?_
            refine (AllReadyH.cons rfl (fun K hK => ?_) AllReadyH.nil)
            · have q3 := at_cells bx (j := 3) rfl
              have f3 := rw_cells bx 3
              go_simp
              refine hK.out _ _ trivial (fun hHeld => ?_)
              clear hK K
              try simp only [Act.put, List.getElem_toArray, List.getElem_cons_succ, List.getElem_cons_zero, List.setIfInBounds_toArray, List.set_cons_zero, List.set_cons_succ]
              obtain ⟨Y5, hZ⟩ : ∃ Z, Kp (Z = Y4.setCell ⟨Bd, 3, none⟩ (.slice (some ⟨b4, 0, none⟩) M M)) := ⟨_, ⟨rfl⟩⟩
              rw [← hZ.out]
              have ez : ∀ k, k ≠ Bd → Y5.heap[k]? = Y4.heap[k]? := fun k hk => by rw [hZ.out]; exact heap_set _ _ _ _ _ hk
              have bz : Y5.heap[Bd]? = some (Go.Obj.cells #[.slice (some ⟨b1, 0, none⟩) M c1, .slice (some ⟨b2, 0, none⟩) M c2, .slice (some ⟨b3, 0, none⟩) nb nb, .slice (some ⟨b4, 0, none⟩) M M, .slice none 0 0, .slice none 0 0] 58 (0, 0)) := by rw [hZ.out]; exact (set_cells bx 3 _).trans rfl
              replace hb : Below Bd X0 Y5 := ⟨by rw [hZ.out]; exact hb.os, by rw [hZ.out]; exact hb.tape, by rw [hZ.out]; exact hb.output, by rw [hZ.out]; simpa [World.setCell] using hb.size, fun k hk => (ez k (by omega)).trans (hb.block k hk)⟩
              replace bx := bz
              replace sz : Bd < Y5.heap.size := (Array.getElem?_eq_some_iff.1 bz).1
              clear bz
              replace rA := rA.same (ez _ (by omega))
              replace r6 := r6.same (ez _ (by omega))
              replace rB := rB.same (ez _ (by omega))
              clear ez q3 f3
              refine wpAnyH_take (i := 9) (v := .pointer (some ⟨Bd, 4, none⟩)) rfl (by kernel_rfl) (by kernel_rfl) (by kernel_rfl) (fun _ _ _ h => h) (Or.inl ⟨by rfl, fun wq hSw => by (try dsimp only at hSw); go_simp⟩) hHeld ?_
              try simp only [Act.put, List.getElem_toArray, List.getElem_cons_succ, List.getElem_cons_zero, List.setIfInBounds_toArray, List.set_cons_zero, List.set_cons_succ]
              have q4 := at_cells bx (j := 4) rfl
              have f4 := rw_cells bx 4
              refine wpAnyH_ready (rs := [10]) (by kernel_rfl) (by simp) ?_
              refine (AllReadyH.cons rfl (fun K hK => ?_) AllReadyH.nil)
              go_simp
              refine hK.out _ _ trivial (fun hHeld => ?_)
              clear hK K
              try simp only [Act.put, List.getElem_toArray, List.getElem_cons_succ, List.getElem_cons_zero, List.setIfInBounds_toArray, List.set_cons_zero, List.set_cons_succ]
              obtain ⟨Y6, hZ⟩ : ∃ Z, Kp (Z = Y5.setCell ⟨Bd, 4, none⟩ (.slice (some ⟨b5, 0, none⟩) M M)) := ⟨_, ⟨rfl⟩⟩
              rw [← hZ.out]
              have ez : ∀ k, k ≠ Bd → Y6.heap[k]? = Y5.heap[k]? := fun k hk => by rw [hZ.out]; exact heap_set _ _ _ _ _ hk
              have bz : Y6.heap[Bd]? = some (Go.Obj.cells #[.slice (some ⟨b1, 0, none⟩) M c1, .slice (some ⟨b2, 0, none⟩) M c2, .slice (some ⟨b3, 0, none⟩) nb nb, .slice (some ⟨b4, 0, none⟩) M M, .slice (some ⟨b5, 0, none⟩) M M, .slice none 0 0] 58 (0, 0)) := by rw [hZ.out]; exact (set_cells bx 4 _).trans rfl
              replace hb : Below Bd X0 Y6 := ⟨by rw [hZ.out]; exact hb.os, by rw [hZ.out]; exact hb.tape, by rw [hZ.out]; exact hb.output, by rw [hZ.out]; simpa [World.setCell] using hb.size, fun k hk => (ez k (by omega)).trans (hb.block k hk)⟩
              replace bx := bz
              replace sz : Bd < Y6.heap.size := (Array.getElem?_eq_some_iff.1 bz).1
              clear bz
              replace rA := rA.same (ez _ (by omega))
              replace r6 := r6.same (ez _ (by omega))
              replace rB := rB.same (ez _ (by omega))
              clear ez q4 f4
              refine wpAnyH_take (i := 11) (v := .pointer (some ⟨Bd, 5, none⟩)) rfl (by kernel_rfl) (by kernel_rfl) (by kernel_rfl) (fun _ _ _ h => h) (Or.inl ⟨by rfl, fun wq hSw => by (try dsimp only at hSw); go_simp⟩) hHeld ?_
              try simp only [Act.put, List.getElem_toArray, List.getElem_cons_succ, List.getElem_cons_zero, List.setIfInBounds_toArray, List.set_cons_zero, List.set_cons_succ]
              have q5 := at_cells bx (j := 5) rfl
              have f5 := rw_cells bx 5
              refine wpAnyH_ready (rs := [12]) (by kernel_rfl) (by simp) ?_
              refine (AllReadyH.cons rfl (fun K hK => ?_) AllReadyH.nil)
              go_simp
              refine hK.out _ _ trivial (fun hHeld => ?_)
              clear hK K
              try simp only [Act.put, List.getElem_toArray, List.getElem_cons_succ, List.getElem_cons_zero, List.setIfInBounds_toArray, List.set_cons_zero, List.set_cons_succ]
              obtain ⟨Y7, hZ⟩ : ∃ Z, Kp (Z = Y6.setCell ⟨Bd, 5, none⟩ (.slice (some ⟨b6, 0, none⟩) M M)) := ⟨_, ⟨rfl⟩⟩
              rw [← hZ.out]
              have ez : ∀ k, k ≠ Bd → Y7.heap[k]? = Y6.heap[k]? := fun k hk => by rw [hZ.out]; exact heap_set _ _ _ _ _ hk
              have bz : Y7.heap[Bd]? = some (Go.Obj.cells #[.slice (some ⟨b1, 0, none⟩) M c1, .slice (some ⟨b2, 0, none⟩) M c2, .slice (some ⟨b3, 0, none⟩) nb nb, .slice (some ⟨b4, 0, none⟩) M M, .slice (some ⟨b5, 0, none⟩) M M, .slice (some ⟨b6, 0, none⟩) M M] 58 (0, 0)) := by rw [hZ.out]; exact (set_cells bx 5 _).trans rfl
              replace hb : Below Bd X0 Y7 := ⟨by rw [hZ.out]; exact hb.os, by rw [hZ.out]; exact hb.tape, by rw [hZ.out]; exact hb.output, by rw [hZ.out]; simpa [World.setCell] using hb.size, fun k hk => (ez k (by omega)).trans (hb.block k hk)⟩
              replace bx := bz
              replace sz : Bd < Y7.heap.size := (Array.getElem?_eq_some_iff.1 bz).1
              clear bz
              replace rA := rA.same (ez _ (by omega))
              replace r6 := r6.same (ez _ (by omega))
              replace rB := rB.same (ez _ (by omega))
              clear ez q5 f5
              refine wpAnyH_done (by kernel_rfl) ?_ _
              replace hb := Kp.mk hb
              replace bx := Kp.mk bx
              replace rA := Kp.mk rA
              replace rB := Kp.mk rB
              replace r6 := Kp.mk r6
              go_wp2_with fail
              go_meet
              exact ⟨b4, b5, b6, bx.out, rA.out, rB.out, r6.out, by omega, by omega, by omega, g_b4, g_b5, g_b6, hb.out⟩
      · go_simp
        refine hK.out _ _ trivial (fun hHeld => ?_)
        clear hK K
        try simp only [Act.put, List.getElem_toArray, List.getElem_cons_succ, List.getElem_cons_zero, List.setIfInBounds_toArray, List.set_cons_zero, List.set_cons_succ]
        obtain ⟨Y8, hZ⟩ : ∃ Z, Kp (Z = Y1.alloc (Go.Obj.cells #[.int .i64 1] 2)) := ⟨_, ⟨rfl⟩⟩
        rw [← hZ.out]
        have kz : Below Y1.heap.size Y1 Y8 := by rw [hZ.out]; exact bel_alloc _ _
        have rC : At Y8 Y1.heap.size 0 (.int .i64 1) := by rw [hZ.out]; exact at_cells (new_cells _ _) rfl
        obtain ⟨bC, hb_bC⟩ : ∃ b, Kp (Y1.heap.size = b) := ⟨_, ⟨rfl⟩⟩
        rw [hb_bC.out]
        rw [hb_bC.out] at rC
        replace rA := rA.keep kz
        replace hb := hb.trans (kz.mono (by omega))
        replace bx := keep_cells bx kz
        replace sz : Bd < Y8.heap.size := by have := kz.size; omega
        clear kz
        refine wpAnyH_ready (rs := [3, 6]) (by kernel_rfl) (by simp) ?_
        refine (AllReadyH.cons rfl (fun K hK => ?_) (AllReadyH.cons rfl (fun K hK => ?_) AllReadyH.nil))
        · go_simp
          refine hK.out _ _ trivial (fun hHeld => ?_)
          clear hK K
          try simp only [Act.put, List.getElem_toArray, List.getElem_cons_succ, List.getElem_cons_zero, List.setIfInBounds_toArray, List.set_cons_zero, List.set_cons_succ]
          obtain ⟨Y9, hZ⟩ : ∃ Z, Kp (Z = Y8.alloc O) := ⟨_, ⟨rfl⟩⟩
          rw [← hZ.out]
          have kz : Below Y8.heap.size Y8 Y9 := by rw [hZ.out]; exact bel_alloc _ _
          have rn : RowI Y9 Y8.heap.size M (fun _ => 0) := by rw [hZ.out]; exact hRO.out Y8
          obtain ⟨b5, hb_b5⟩ : ∃ b, Kp (Y8.heap.size = b) := ⟨_, ⟨rfl⟩⟩
          rw [hb_b5.out]
          rw [hb_b5.out] at rn
          have g_b5 : Bd < b5 := by have := hb_b5.out; omega
          have n_b4_b5 : b4 ≠ b5 := by have h1 := hb_b5.out; have h2 := rA.lt; omega
          replace rA := rA.keep kz
          replace rC := at_keep rC kz
          replace hb := hb.trans (kz.mono (by omega))
          replace bx := keep_cells bx kz
          replace sz : Bd < Y9.heap.size := by have := kz.size; omega
          have rB := rn
          clear rn kz
          refine wpAnyH_ready (rs := [6]) (by kernel_rfl) (by simp) ?_
          refine (AllReadyH.cons rfl (fun K hK => ?_) AllReadyH.nil)
          · go_simp
            refine (CR.out _ _ rC).mono ?_
            rintro e Y10 ⟨rfl, r6, kz⟩
            refine hK.out _ _ trivial (fun hHeld => ?_)
            clear hK K
            try simp only [Act.put, List.getElem_toArray, List.getElem_cons_succ, List.getElem_cons_zero, List.setIfInBounds_toArray, List.set_cons_zero, List.set_cons_succ]
            obtain ⟨b6, hb_b6⟩ : ∃ b, Kp (Y9.heap.size = b) := ⟨_, ⟨rfl⟩⟩
            rw [hb_b6.out]
            rw [hb_b6.out] at r6
            have g_b6 : Bd < b6 := by have := hb_b6.out; omega
            have n_b4_b6 : b4 ≠ b6 := by have h1 := hb_b6.out; have h2 := rA.lt; omega
            have n_b5_b6 : b5 ≠ b6 := by have h1 := hb_b6.out; have h2 := rB.lt; omega
            replace rA := rA.keep kz
            replace rB := rB.keep kz
            replace hb := hb.trans (kz.mono (by omega))
            replace bx := keep_cells bx kz
            replace sz : Bd < Y10.heap.size := by have := kz.size; omega
            clear kz rC
            refine wpAnyH_ready (rs := [8]) (by kernel_rfl) (by simp) ?_
            refine (AllReadyH.cons rfl (fun K hK => ?_) AllReadyH.nil)
            · have q3 := at_cells bx (j := 3) rfl
              have f3 := rw_cells bx 3
              go_simp
              refine hK.out _ _ trivial (fun hHeld => ?_)
              clear hK K
              try simp only [Act.put, List.getElem_toArray, List.getElem_cons_succ, List.getElem_cons_zero, List.setIfInBounds_toArray, List.set_cons_zero, List.set_cons_succ]
              obtain ⟨Y11, hZ⟩ : ∃ Z, Kp (Z = Y10.setCell ⟨Bd, 3, none⟩ (.slice (some ⟨b4, 0, none⟩) M M)) := ⟨_, ⟨rfl⟩⟩
              rw [← hZ.out]
              have ez : ∀ k, k ≠ Bd → Y11.heap[k]? = Y10.heap[k]? := fun k hk => by rw [hZ.out]; exact heap_set _ _ _ _ _ hk
              have bz : Y11.heap[Bd]? = some (Go.Obj.cells #[.slice (some ⟨b1, 0, none⟩) M c1, .slice (some ⟨b2, 0, none⟩) M c2, .slice (some ⟨b3, 0, none⟩) nb nb, .slice (some ⟨b4, 0, none⟩) M M, .slice none 0 0, .slice none 0 0] 58 (0, 0)) := by rw [hZ.out]; exact (set_cells bx 3 _).trans rfl
              replace hb : Below Bd X0 Y11 := ⟨by rw [hZ.out]; exact hb.os, by rw [hZ.out]; exact hb.tape, by rw [hZ.out]; exact hb.output, by rw [hZ.out]; simpa [World.setCell] using hb.size, fun k hk => (ez k (by omega)).trans (hb.block k hk)⟩
              replace bx := bz
              replace sz : Bd < Y11.heap.size := (Array.getElem?_eq_some_iff.1 bz).1
              clear bz
              replace rA := rA.same (ez _ (by omega))
              replace r6 := r6.same (ez _ (by omega))
              replace rB := rB.same (ez _ (by omega))
              clear ez q3 f3
              refine wpAnyH_take (i := 9) (v := .pointer (some ⟨Bd, 4, none⟩)) rfl (by kernel_rfl) (by kernel_rfl) (by kernel_rfl) (fun _ _ _ h => h) (Or.inl ⟨by rfl, fun wq hSw => by (try dsimp only at hSw); go_simp⟩) hHeld ?_
              try simp only [Act.put, List.getElem_toArray, List.getElem_cons_succ, List.getElem_cons_zero, List.setIfInBounds_toArray, List.set_cons_zero, List.set_cons_succ]
              have q4 := at_cells bx (j := 4) rfl
              have f4 := rw_cells bx 4
              refine wpAnyH_ready (rs := [10]) (by kernel_rfl) (by simp) ?_
              refine (AllReadyH.cons rfl (fun K hK => ?_) AllReadyH.nil)
              go_simp
              refine hK.out _ _ trivial (fun hHeld => ?_)
              clear hK K
              try simp only [Act.put, List.getElem_toArray, List.getElem_cons_succ, List.getElem_cons_zero, List.setIfInBounds_toArray, List.set_cons_zero, List.set_cons_succ]
              obtain ⟨Y12, hZ⟩ : ∃ Z, Kp (Z = Y11.setCell ⟨Bd, 4, none⟩ (.slice (some ⟨b5, 0, none⟩) M M)) := ⟨_, ⟨rfl⟩⟩
              rw [← hZ.out]
              have ez : ∀ k, k ≠ Bd → Y12.heap[k]? = Y11.heap[k]? := fun k hk => by rw [hZ.out]; exact heap_set _ _ _ _ _ hk
              have bz : Y12.heap[Bd]? = some (Go.Obj.cells #[.slice (some ⟨b1, 0, none⟩) M c1, .slice (some ⟨b2, 0, none⟩) M c2, .slice (some ⟨b3, 0, none⟩) nb nb, .slice (some ⟨b4, 0, none⟩) M M, .slice (some ⟨b5, 0, none⟩) M M, .slice none 0 0] 58 (0, 0)) := by rw [hZ.out]; exact (set_cells bx 4 _).trans rfl
              replace hb : Below Bd X0 Y12 := ⟨by rw [hZ.out]; exact hb.os, by rw [hZ.out]; exact hb.tape, by rw [hZ.out]; exact hb.output, by rw [hZ.out]; simpa [World.setCell] using hb.size, fun k hk => (ez k (by omega)).trans (hb.block k hk)⟩
              replace bx := bz
              replace sz : Bd < Y12.heap.size := (Array.getElem?_eq_some_iff.1 bz).1
              clear bz
              replace rA := rA.same (ez _ (by omega))
              replace r6 := r6.same (ez _ (by omega))
              replace rB := rB.same (ez _ (by omega))
              clear ez q4 f4
              refine wpAnyH_take (i := 11) (v := .pointer (some ⟨Bd, 5, none⟩)) rfl (by kernel_rfl) (by kernel_rfl) (by kernel_rfl) (fun _ _ _ h => h) (Or.inl ⟨by rfl, fun wq hSw => by (try dsimp only at hSw); go_simp⟩) hHeld ?_
              try simp only [Act.put, List.getElem_toArray, List.getElem_cons_succ, List.getElem_cons_zero, List.setIfInBounds_toArray, List.set_cons_zero, List.set_cons_succ]
              have q5 := at_cells bx (j := 5) rfl
              have f5 := rw_cells bx 5
              refine wpAnyH_ready (rs := [12]) (by kernel_rfl) (by simp) ?_
              refine (AllReadyH.cons rfl (fun K hK => ?_) AllReadyH.nil)
              go_simp
              refine hK.out _ _ trivial (fun hHeld => ?_)
              clear hK K
              try simp only [Act.put, List.getElem_toArray, List.getElem_cons_succ, List.getElem_cons_zero, List.setIfInBounds_toArray, List.set_cons_zero, List.set_cons_succ]
              obtain ⟨Y13, hZ⟩ : ∃ Z, Kp (Z = Y12.setCell ⟨Bd, 5, none⟩ (.slice (some ⟨b6, 0, none⟩) M M)) := ⟨_, ⟨rfl⟩⟩
              rw [← hZ.out]
              have ez : ∀ k, k ≠ Bd → Y13.heap[k]? = Y12.heap[k]? := fun k hk => by rw [hZ.out]; exact heap_set _ _ _ _ _ hk
              have bz : Y13.heap[Bd]? = some (Go.Obj.cells #[.slice (some ⟨b1, 0, none⟩) M c1, .slice (some ⟨b2, 0, none⟩) M c2, .slice (some ⟨b3, 0, none⟩) nb nb, .slice (some ⟨b4, 0, none⟩) M M, .slice (some ⟨b5, 0, none⟩) M M, .slice (some ⟨b6, 0, none⟩) M M] 58 (0, 0)) := by rw [hZ.out]; exact (set_cells bx 5 _).trans rfl
              replace hb : Below Bd X0 Y13 := ⟨by rw [hZ.out]; exact hb.os, by rw [hZ.out]; exact hb.tape, by rw [hZ.out]; exact hb.output, by rw [hZ.out]; simpa [World.setCell] using hb.size, fun k hk => (ez k (by omega)).trans (hb.block k hk)⟩
              replace bx := bz
              replace sz : Bd < Y13.heap.size := (Array.getElem?_eq_some_iff.1 bz).1
              clear bz
              replace rA := rA.same (ez _ (by omega))
              replace r6 := r6.same (ez _ (by omega))
              replace rB := rB.same (ez _ (by omega))
              clear ez q5 f5
              refine wpAnyH_done (by kernel_rfl) ?_ _
              replace hb := Kp.mk hb
              replace bx := Kp.mk bx
              replace rA := Kp.mk rA
              replace rB := Kp.mk rB
              replace r6 := Kp.mk r6
              go_wp2_with fail
              go_meet
              exact ⟨b4, b5, b6, bx.out, rA.out, rB.out, r6.out, by omega, by omega, by omega, g_b4, g_b5, g_b6, hb.out⟩
        · go_simp
          refine (CR.out _ _ rC).mono ?_
          rintro e Y14 ⟨rfl, r6, kz⟩
          refine hK.out _ _ trivial (fun hHeld => ?_)
          clear hK K
          try simp only [Act.put, List.getElem_toArray, List.getElem_cons_succ, List.getElem_cons_zero, List.setIfInBounds_toArray, List.set_cons_zero, List.set_cons_succ]
          obtain ⟨b6, hb_b6⟩ : ∃ b, Kp (Y8.heap.size = b) := ⟨_, ⟨rfl⟩⟩
          rw [hb_b6.out]
          rw [hb_b6.out] at r6
          have g_b6 : Bd < b6 := by have := hb_b6.out; omega
          have n_b4_b6 : b4 ≠ b6 := by have h1 := hb_b6.out; have h2 := rA.lt; omega
          replace rA := rA.keep kz
          replace hb := hb.trans (kz.mono (by omega))
          replace bx := keep_cells bx kz
          replace sz : Bd < Y14.heap.size := by have := kz.size; omega
          clear kz rC
          refine wpAnyH_ready (rs := [3, 8]) (by kernel_rfl) (by simp) ?_
          refine (AllReadyH.cons rfl (fun K hK => ?_) (AllReadyH.cons rfl (fun K hK => ?_) AllReadyH.nil))
          · go_simp
            refine hK.out _ _ trivial (fun hHeld => ?_)
            clear hK K
            try simp only [Act.put, List.getElem_toArray, List.getElem_cons_succ, List.getElem_cons_zero, List.setIfInBounds_toArray, List.set_cons_zero, List.set_cons_succ]
            obtain ⟨Y15, hZ⟩ : ∃ Z, Kp (Z = Y14.alloc O) := ⟨_, ⟨rfl⟩⟩
            rw [← hZ.out]
            have kz : Below Y14.heap.size Y14 Y15 := by rw [hZ.out]; exact bel_alloc _ _
            have rn : RowI Y15 Y14.heap.size M (fun _ => 0) := by rw [hZ.out]; exact hRO.out Y14
            obtain ⟨b5, hb_b5⟩ : ∃ b, Kp (Y14.heap.size = b) := ⟨_, ⟨rfl⟩⟩
            rw [hb_b5.out]
            rw [hb_b5.out] at rn
            have g_b5 : Bd < b5 := by have := hb_b5.out; omega
            have n_b4_b5 : b4 ≠ b5 := by have h1 := hb_b5.out; have h2 := rA.lt; omega
            have n_b6_b5 : b6 ≠ b5 := by have h1 := hb_b5.out; have h2 := r6.lt; omega
            replace rA := rA.keep kz
            replace r6 := r6.keep kz
            replace hb := hb.trans (kz.mono (by omega))
            replace bx := keep_cells bx kz
            replace sz : Bd < Y15.heap.size := by have := kz.size; omega
            have rB := rn
            clear rn kz
            refine wpAnyH_ready (rs := [8]) (by kernel_rfl) (by simp) ?_
            refine (AllReadyH.cons rfl (fun K hK => ?_) AllReadyH.nil)
            · have q3 := at_cells bx (j := 3) rfl
              have f3 := rw_cells bx 3
              go_simp
              refine hK.out _ _ trivial (fun hHeld => ?_)
              clear hK K
              try simp only [Act.put, List.getElem_toArray, List.getElem_cons_succ, List.getElem_cons_zero, List.setIfInBounds_toArray, List.set_cons_zero, List.set_cons_succ]
              obtain ⟨Y16, hZ⟩ : ∃ Z, Kp (Z = Y15.setCell ⟨Bd, 3, none⟩ (.slice (some ⟨b4, 0, none⟩) M M)) := ⟨_, ⟨rfl⟩⟩
              rw [← hZ.out]
              have ez : ∀ k, k ≠ Bd → Y16.heap[k]? = Y15.heap[k]? := fun k hk => by rw [hZ.out]; exact heap_set _ _ _ _ _ hk
              have bz : Y16.heap[Bd]? = some (Go.Obj.cells #[.slice (some ⟨b1, 0, none⟩) M c1, .slice (some ⟨b2, 0, none⟩) M c2, .slice (some ⟨b3, 0, none⟩) nb nb, .slice (some ⟨b4, 0, none⟩) M M, .slice none 0 0, .slice none 0 0] 58 (0, 0)) := by rw [hZ.out]; exact (set_cells bx 3 _).trans rfl
              replace hb : Below Bd X0 Y16 := ⟨by rw [hZ.out]; exact hb.os, by rw [hZ.out]; exact hb.tape, by rw [hZ.out]; exact hb.output, by rw [hZ.out]; simpa [World.setCell] using hb.size, fun k hk => (ez k (by omega)).trans (hb.block k hk)⟩
              replace bx := bz
              replace sz : Bd < Y16.heap.size := (Array.getElem?_eq_some_iff.1 bz).1
              clear bz
              replace rA := rA.same (ez _ (by omega))
              replace r6 := r6.same (ez _ (by omega))
              replace rB := rB.same (ez _ (by omega))
              clear ez q3 f3
              refine wpAnyH_take (i := 9) (v := .pointer (some ⟨Bd, 4, none⟩)) rfl (by kernel_rfl) (by kernel_rfl) (by kernel_rfl) (fun _ _ _ h => h) (Or.inl ⟨by rfl, fun wq hSw => by (try dsimp only at hSw); go_simp⟩) hHeld ?_
              try simp only [Act.put, List.getElem_toArray, List.getElem_cons_succ, List.getElem_cons_zero, List.setIfInBounds_toArray, List.set_cons_zero, List.set_cons_succ]
              have q4 := at_cells bx (j := 4) rfl
              have f4 := rw_cells bx 4
              refine wpAnyH_ready (rs := [10]) (by kernel_rfl) (by simp) ?_
              refine (AllReadyH.cons rfl (fun K hK => ?_) AllReadyH.nil)
              go_simp
              refine hK.out _ _ trivial (fun hHeld => ?_)
              clear hK K
              try simp only [Act.put, List.getElem_toArray, List.getElem_cons_succ, List.getElem_cons_zero, List.setIfInBounds_toArray, List.set_cons_zero, List.set_cons_succ]
              obtain ⟨Y17, hZ⟩ : ∃ Z, Kp (Z = Y16.setCell ⟨Bd, 4, none⟩ (.slice (some ⟨b5, 0, none⟩) M M)) := ⟨_, ⟨rfl⟩⟩
              rw [← hZ.out]
              have ez : ∀ k, k ≠ Bd → Y17.heap[k]? = Y16.heap[k]? := fun k hk => by rw [hZ.out]; exact heap_set _ _ _ _ _ hk
              have bz : Y17.heap[Bd]? = some (Go.Obj.cells #[.slice (some ⟨b1, 0, none⟩) M c1, .slice (some ⟨b2, 0, none⟩) M c2, .slice (some ⟨b3, 0, none⟩) nb nb, .slice (some ⟨b4, 0, none⟩) M M, .slice (some ⟨b5, 0, none⟩) M M, .slice none 0 0] 58 (0, 0)) := by rw [hZ.out]; exact (set_cells bx 4 _).trans rfl
              replace hb : Below Bd X0 Y17 := ⟨by rw [hZ.out]; exact hb.os, by rw [hZ.out]; exact hb.tape, by rw [hZ.out]; exact hb.output, by rw [hZ.out]; simpa [World.setCell] using hb.size, fun k hk => (ez k (by omega)).trans (hb.block k hk)⟩
              replace bx := bz
              replace sz : Bd < Y17.heap.size := (Array.getElem?_eq_some_iff.1 bz).1
              clear bz
              replace rA := rA.same (ez _ (by omega))
              replace r6 := r6.same (ez _ (by omega))
              replace rB := rB.same (ez _ (by omega))
              clear ez q4 f4
              refine wpAnyH_take (i := 11) (v := .pointer (some ⟨Bd, 5, none⟩)) rfl (by kernel_rfl) (by kernel_rfl) (by kernel_rfl) (fun _ _ _ h => h) (Or.inl ⟨by rfl, fun wq hSw => by (try dsimp only at hSw); go_simp⟩) hHeld ?_
              try simp only [Act.put, List.getElem_toArray, List.getElem_cons_succ, List.getElem_cons_zero, List.setIfInBounds_toArray, List.set_cons_zero, List.set_cons_succ]
              have q5 := at_cells bx (j := 5) rfl
              have f5 := rw_cells bx 5
              refine wpAnyH_ready (rs := [12]) (by kernel_rfl) (by simp) ?_
              refine (AllReadyH.cons rfl (fun K hK => ?_) AllReadyH.nil)
              go_simp
              refine hK.out _ _ trivial (fun hHeld => ?_)
              clear hK K
              try simp only [Act.put, List.getElem_toArray, List.getElem_cons_succ, List.getElem_cons_zero, List.setIfInBounds_toArray, List.set_cons_zero, List.set_cons_succ]
              obtain ⟨Y18, hZ⟩ : ∃ Z, Kp (Z = Y17.setCell ⟨Bd, 5, none⟩ (.slice (some ⟨b6, 0, none⟩) M M)) := ⟨_, ⟨rfl⟩⟩
              rw [← hZ.out]
              have ez : ∀ k, k ≠ Bd → Y18.heap[k]? = Y17.heap[k]? := fun k hk => by rw [hZ.out]; exact heap_set _ _ _ _ _ hk
              have bz : Y18.heap[Bd]? = some (Go.Obj.cells #[.slice (some ⟨b1, 0, none⟩) M c1, .slice (some ⟨b2, 0, none⟩) M c2, .slice (some ⟨b3, 0, none⟩) nb nb, .slice (some ⟨b4, 0, none⟩) M M, .slice (some ⟨b5, 0, none⟩) M M, .slice (some ⟨b6, 0, none⟩) M M] 58 (0, 0)) := by rw [hZ.out]; exact (set_cells bx 5 _).trans rfl
              replace hb : Below Bd X0 Y18 := ⟨by rw [hZ.out]; exact hb.os, by rw [hZ.out]; exact hb.tape, by rw [hZ.out]; exact hb.output, by rw [hZ.out]; simpa [World.setCell] using hb.size, fun k hk => (ez k (by omega)).trans (hb.block k hk)⟩
              replace bx := bz
              replace sz : Bd < Y18.heap.size := (Array.getElem?_eq_some_iff.1 bz).1
              clear bz
              replace rA := rA.same (ez _ (by omega))
              replace r6 := r6.same (ez _ (by omega))
              replace rB := rB.same (ez _ (by omega))
              clear ez q5 f5
              refine wpAnyH_done (by kernel_rfl) ?_ _
              replace hb := Kp.mk hb
              replace bx := Kp.mk bx
              replace rA := Kp.mk rA
              replace rB := Kp.mk rB
              replace r6 := Kp.mk r6
              go_wp2_with fail
              go_meet
              exact ⟨b4, b5, b6, bx.out, rA.out, rB.out, r6.out, by omega, by omega, by omega, g_b4, g_b5, g_b6, hb.out⟩
          · have q3 := at_cells bx (j := 3) rfl
            have f3 := rw_cells bx 3
            go_simp
            refine hK.out _ _ trivial (fun hHeld => ?_)
            clear hK K
            try simp only [Act.put, List.getElem_toArray, List.getElem_cons_succ, List.getElem_cons_zero, List.setIfInBounds_toArray, List.set_cons_zero, List.set_cons_succ]
            obtain ⟨Y19, hZ⟩ : ∃ Z, Kp (Z = Y14.setCell ⟨Bd, 3, none⟩ (.slice (some ⟨b4, 0, none⟩) M M)) := ⟨_, ⟨rfl⟩⟩
            rw [← hZ.out]
            have ez : ∀ k, k ≠ Bd → Y19.heap[k]? = Y14.heap[k]? := fun k hk => by rw [hZ.out]; exact heap_set _ _ _ _ _ hk
            have bz : Y19.heap[Bd]? = some (Go.Obj.cells #[.slice (some ⟨b1, 0, none⟩) M c1, .slice (some ⟨b2, 0, none⟩) M c2, .slice (some ⟨b3, 0, none⟩) nb nb, .slice (some ⟨b4, 0, none⟩) M M, .slice none 0 0, .slice none 0 0] 58 (0, 0)) := by rw [hZ.out]; exact (set_cells bx 3 _).trans rfl
            replace hb : Below Bd X0 Y19 := ⟨by rw [hZ.out]; exact hb.os, by rw [hZ.out]; exact hb.tape, by rw [hZ.out]; exact hb.output, by rw [hZ.out]; simpa [World.setCell] using hb.size, fun k hk => (ez k (by omega)).trans (hb.block k hk)⟩
            replace bx := bz
            replace sz : Bd < Y19.heap.size := (Array.getElem?_eq_some_iff.1 bz).1
            clear bz
            replace rA := rA.same (ez _ (by omega))
            replace r6 := r6.same (ez _ (by omega))
            clear ez q3 f3
            refine wpAnyH_ready (rs := [3]) (by kernel_rfl) (by simp) ?_
            refine (AllReadyH.cons rfl (fun K hK => ?_) AllReadyH.nil)
            · go_simp
              refine hK.out _ _ trivial (fun hHeld => ?_)
              clear hK K
              try simp only [Act.put, List.getElem_toArray, List.getElem_cons_succ, List.getElem_cons_zero, List.setIfInBounds_toArray, List.set_cons_zero, List.set_cons_succ]
              obtain ⟨Y20, hZ⟩ : ∃ Z, Kp (Z = Y19.alloc O) := ⟨_, ⟨rfl⟩⟩
              rw [← hZ.out]
              have kz : Below Y19.heap.size Y19 Y20 := by rw [hZ.out]; exact bel_alloc _ _
              have rn : RowI Y20 Y19.heap.size M (fun _ => 0) := by rw [hZ.out]; exact hRO.out Y19
              obtain ⟨b5, hb_b5⟩ : ∃ b, Kp (Y19.heap.size = b) := ⟨_, ⟨rfl⟩⟩
              rw [hb_b5.out]
              rw [hb_b5.out] at rn
              have g_b5 : Bd < b5 := by have := hb_b5.out; omega
              have n_b4_b5 : b4 ≠ b5 := by have h1 := hb_b5.out; have h2 := rA.lt; omega
              have n_b6_b5 : b6 ≠ b5 := by have h1 := hb_b5.out; have h2 := r6.lt; omega
              replace rA := rA.keep kz
              replace r6 := r6.keep kz
              replace hb := hb.trans (kz.mono (by omega))
              replace bx := keep_cells bx kz
              replace sz : Bd < Y20.heap.size := by have := kz.size; omega
              have rB := rn
              clear rn kz
              refine wpAnyH_take (i := 9) (v := .pointer (some ⟨Bd, 4, none⟩)) rfl (by kernel_rfl) (by kernel_rfl) (by kernel_rfl) (fun _ _ _ h => h) (Or.inl ⟨by rfl, fun wq hSw => by (try dsimp only at hSw); go_simp⟩) hHeld ?_
              try simp only [Act.put, List.getElem_toArray, List.getElem_cons_succ, List.getElem_cons_zero, List.setIfInBounds_toArray, List.set_cons_zero, List.set_cons_succ]
              have q4 := at_cells bx (j := 4) rfl
              have f4 := rw_cells bx 4
              refine wpAnyH_ready (rs := [10]) (by kernel_rfl) (by simp) ?_
              refine (AllReadyH.cons rfl (fun K hK => ?_) AllReadyH.nil)
              go_simp
              refine hK.out _ _ trivial (fun hHeld => ?_)
              clear hK K
              try simp only [Act.put, List.getElem_toArray, List.getElem_cons_succ, List.getElem_cons_zero, List.setIfInBounds_toArray, List.set_cons_zero, List.set_cons_succ]
              obtain ⟨Y21, hZ⟩ : ∃ Z, Kp (Z = Y20.setCell ⟨Bd, 4, none⟩ (.slice (some ⟨b5, 0, none⟩) M M)) := ⟨_, ⟨rfl⟩⟩
              rw [← hZ.out]
              have ez : ∀ k, k ≠ Bd → Y21.heap[k]? = Y20.heap[k]? := fun k hk => by rw [hZ.out]; exact heap_set _ _ _ _ _ hk
              have bz : Y21.heap[Bd]? = some (Go.Obj.cells #[.slice (some ⟨b1, 0, none⟩) M c1, .slice (some ⟨b2, 0, none⟩) M c2, .slice (some ⟨b3, 0, none⟩) nb nb, .slice (some ⟨b4, 0, none⟩) M M, .slice (some ⟨b5, 0, none⟩) M M, .slice none 0 0] 58 (0, 0)) := by rw [hZ.out]; exact (set_cells bx 4 _).trans rfl
              replace hb : Below Bd X0 Y21 := ⟨by rw [hZ.out]; exact hb.os, by rw [hZ.out]; exact hb.tape, by rw [hZ.out]; exact hb.output, by rw [hZ.out]; simpa [World.setCell] using hb.size, fun k hk => (ez k (by omega)).trans (hb.block k hk)⟩
              replace bx := bz
              replace sz : Bd < Y21.heap.size := (Array.getElem?_eq_some_iff.1 bz).1
              clear bz
              replace rA := rA.same (ez _ (by omega))
              replace r6 := r6.same (ez _ (by omega))
              replace rB := rB.same (ez _ (by omega))
              clear ez q4 f4
              refine wpAnyH_take (i := 11) (v := .pointer (some ⟨Bd, 5, none⟩)) rfl (by kernel_rfl) (by kernel_rfl) (by kernel_rfl) (fun _ _ _ h => h) (Or.inl ⟨by rfl, fun wq hSw => by (try dsimp only at hSw); go_simp⟩) hHeld ?_
              try simp only [Act.put, List.getElem_toArray, List.getElem_cons_succ, List.getElem_cons_zero, List.setIfInBounds_toArray, List.set_cons_zero, List.set_cons_succ]
              have q5 := at_cells bx (j := 5) rfl
              have f5 := rw_cells bx 5
              refine wpAnyH_ready (rs := [12]) (by kernel_rfl) (by simp) ?_
              refine (AllReadyH.cons rfl (fun K hK => ?_) AllReadyH.nil)
              go_simp
              refine hK.out _ _ trivial (fun hHeld => ?_)
              clear hK K
              try simp only [Act.put, List.getElem_toArray, List.getElem_cons_succ, List.getElem_cons_zero, List.setIfInBounds_toArray, List.set_cons_zero, List.set_cons_succ]
              obtain ⟨Y22, hZ⟩ : ∃ Z, Kp (Z = Y21.setCell ⟨Bd, 5, none⟩ (.slice (some ⟨b6, 0, none⟩) M M)) := ⟨_, ⟨rfl⟩⟩
              rw [← hZ.out]
              have ez : ∀ k, k ≠ Bd → Y22.heap[k]? = Y21.heap[k]? := fun k hk => by rw [hZ.out]; exact heap_set _ _ _ _ _ hk
              have bz : Y22.heap[Bd]? = some (Go.Obj.cells #[.slice (some ⟨b1, 0, none⟩) M c1, .slice (some ⟨b2, 0, none⟩) M c2, .slice (some ⟨b3, 0, none⟩) nb nb, .slice (some ⟨b4, 0, none⟩) M M, .slice (some ⟨b5, 0, none⟩) M M, .slice (some ⟨b6, 0, none⟩) M M] 58 (0, 0)) := by rw [hZ.out]; exact (set_cells bx 5 _).trans rfl
              replace hb : Below Bd X0 Y22 := ⟨by rw [hZ.out]; exact hb.os, by rw [hZ.out]; exact hb.tape, by rw [hZ.out]; exact hb.output, by rw [hZ.out]; simpa [World.setCell] using hb.size, fun k hk => (ez k (by omega)).trans (hb.block k hk)⟩
              replace bx := bz
              replace sz : Bd < Y22.heap.size := (Array.getElem?_eq_some_iff.1 bz).1
              clear bz
              replace rA := rA.same (ez _ (by omega))
              replace r6 := r6.same (ez _ (by omega))
              replace rB := rB.same (ez _ (by omega))
              clear ez q5 f5
              refine wpAnyH_done (by kernel_rfl) ?_ _
              replace hb := Kp.mk hb
              replace bx := Kp.mk bx
              replace rA := Kp.mk rA
              replace rB := Kp.mk rB
              replace r6 := Kp.mk r6
              go_wp2_with fail
              go_meet
              exact ⟨b4, b5, b6, bx.out, rA.out, rB.out, r6.out, by omega, by omega, by omega, g_b4, g_b5, g_b6, hb.out⟩
    · go_simp
      refine hK.out _ _ trivial (fun hHeld => ?_)
      clear hK K
      try simp only [Act.put, List.getElem_toArray, List.getElem_cons_succ, List.getElem_cons_zero, List.setIfInBounds_toArray, List.set_cons_zero, List.set_cons_succ]
      obtain ⟨Y23, hZ⟩ : ∃ Z, Kp (Z = Y0.alloc O) := ⟨_, ⟨rfl⟩⟩
      rw [← hZ.out]
      have kz : Below Y0.heap.size Y0 Y23 := by rw [hZ.out]; exact bel_alloc _ _
      have rn : RowI Y23 Y0.heap.size M (fun _ => 0) := by rw [hZ.out]; exact hRO.out Y0
      obtain ⟨b5, hb_b5⟩ : ∃ b, Kp (Y0.heap.size = b) := ⟨_, ⟨rfl⟩⟩
      rw [hb_b5.out]
      rw [hb_b5.out] at rn
      have g_b5 : Bd < b5 := by have := hb_b5.out; omega
      replace hb := hb.trans (kz.mono (by omega))
      replace bx := keep_cells bx kz
      replace sz : Bd < Y23.heap.size := by have := kz.size; omega
      have rB := rn
      clear rn kz
      refine wpAnyH_ready (rs := [1, 4]) (by kernel_rfl) (by simp) ?_
      refine (AllReadyH.cons rfl (fun K hK => ?_) (AllReadyH.cons rfl (fun K hK => ?_) AllReadyH.nil))
      · go_simp
        refine hK.out _ _ trivial (fun hHeld => ?_)
        clear hK K
        try simp only [Act.put, List.getElem_toArray, List.getElem_cons_succ, List.getElem_cons_zero, List.setIfInBounds_toArray, List.set_cons_zero, List.set_cons_succ]
        obtain ⟨Y24, hZ⟩ : ∃ Z, Kp (Z = Y23.alloc O) := ⟨_, ⟨rfl⟩⟩
        rw [← hZ.out]
        have kz : Below Y23.heap.size Y23 Y24 := by rw [hZ.out]; exact bel_alloc _ _
        have rn : RowI Y24 Y23.heap.size M (fun _ => 0) := by rw [hZ.out]; exact hRO.out Y23
        obtain ⟨b4, hb_b4⟩ : ∃ b, Kp (Y23.heap.size = b) := ⟨_, ⟨rfl⟩⟩
        rw [hb_b4.out]
        rw [hb_b4.out] at rn
        have g_b4 : Bd < b4 := by have := hb_b4.out; omega
        have n_b5_b4 : b5 ≠ b4 := by have h1 := hb_b4.out; have h2 := rB.lt; omega
        replace rB := rB.keep kz
        replace hb := hb.trans (kz.mono (by omega))
        replace bx := keep_cells bx kz
        replace sz : Bd < Y24.heap.size := by have := kz.size; omega
        have rA := rn
        clear rn kz
        refine wpAnyH_take (i := 7) (v := .pointer (some ⟨Bd, 3, none⟩)) rfl (by kernel_rfl) (by kernel_rfl) (by kernel_rfl) (fun _ _ _ h => h) (Or.inl ⟨by rfl, fun wq hSw => by (try dsimp only at hSw); go_simp⟩) hHeld ?_
        try simp only [Act.put, List.getElem_toArray, List.getElem_cons_succ, List.getElem_cons_zero, List.setIfInBounds_toArray, List.set_cons_zero, List.set_cons_succ]
        refine wpAnyH_ready (rs := [4]) (by kernel_rfl) (by simp) ?_
        refine (AllReadyH.cons rfl (fun K hK => ?_) AllReadyH.nil)
        · go_simp
          refine hK.out _ _ trivial (fun hHeld => ?_)
          clear hK K
          try simp only [Act.put, List.getElem_toArray, List.getElem_cons_succ, List.getElem_cons_zero, List.setIfInBounds_toArray, List.set_cons_zero, List.set_cons_succ]
          obtain ⟨Y25, hZ⟩ : ∃ Z, Kp (Z = Y24.alloc (Go.Obj.cells #[.int .i64 1] 2)) := ⟨_, ⟨rfl⟩⟩
          rw [← hZ.out]
          have kz : Below Y24.heap.size Y24 Y25 := by rw [hZ.out]; exact bel_alloc _ _
          have rC : At Y25 Y24.heap.size 0 (.int .i64 1) := by rw [hZ.out]; exact at_cells (new_cells _ _) rfl
          obtain ⟨bC, hb_bC⟩ : ∃ b, Kp (Y24.heap.size = b) := ⟨_, ⟨rfl⟩⟩
          rw [hb_bC.out]
          rw [hb_bC.out] at rC
          replace rA := rA.keep kz
          replace rB := rB.keep kz
          replace hb := hb.trans (kz.mono (by omega))
          replace bx := keep_cells bx kz
          replace sz : Bd < Y25.heap.size := by have := kz.size; omega
          clear kz
          refine wpAnyH_ready (rs := [6]) (by kernel_rfl) (by simp) ?_
          refine (AllReadyH.cons rfl (fun K hK => ?_) AllReadyH.nil)
          · go_simp
            refine (CR.out _ _ rC).mono ?_
            rintro e Y26 ⟨rfl, r6, kz⟩
            refine hK.out _ _ trivial (fun hHeld => ?_)
            clear hK K
            try simp only [Act.put, List.getElem_toArray, List.getElem_cons_succ, List.getElem_cons_zero, List.setIfInBounds_toArray, List.set_cons_zero, List.set_cons_succ]
            obtain ⟨b6, hb_b6⟩ : ∃ b, Kp (Y25.heap.size = b) := ⟨_, ⟨rfl⟩⟩
            rw [hb_b6.out]
            rw [hb_b6.out] at r6
            have g_b6 : Bd < b6 := by have := hb_b6.out; omega
            have n_b4_b6 : b4 ≠ b6 := by have h1 := hb_b6.out; have h2 := rA.lt; omega
            have n_b5_b6 : b5 ≠ b6 := by have h1 := hb_b6.out; have h2 := rB.lt; omega
            replace rA := rA.keep kz
            replace rB := rB.keep kz
            replace hb := hb.trans (kz.mono (by omega))
            replace bx := keep_cells bx kz
            replace sz : Bd < Y26.heap.size := by have := kz.size; omega
            clear kz rC
            refine wpAnyH_ready (rs := [8]) (by kernel_rfl) (by simp) ?_
            refine (AllReadyH.cons rfl (fun K hK => ?_) AllReadyH.nil)
            · have q3 := at_cells bx (j := 3) rfl
              have f3 := rw_cells bx 3
              go_simp
              refine hK.out _ _ trivial (fun hHeld => ?_)
              clear hK K
              try simp only [Act.put, List.getElem_toArray, List.getElem_cons_succ, List.getElem_cons_zero, List.setIfInBounds_toArray, List.set_cons_zero, List.set_cons_succ]
              obtain ⟨Y27, hZ⟩ : ∃ Z, Kp (Z = Y26.setCell ⟨Bd, 3, none⟩ (.slice (some ⟨b4, 0, none⟩) M M)) := ⟨_, ⟨rfl⟩⟩
              rw [← hZ.out]
              have ez : ∀ k, k ≠ Bd → Y27.heap[k]? = Y26.heap[k]? := fun k hk => by rw [hZ.out]; exact heap_set _ _ _ _ _ hk
              have bz : Y27.heap[Bd]? = some (Go.Obj.cells #[.slice (some ⟨b1, 0, none⟩) M c1, .slice (some ⟨b2, 0, none⟩) M c2, .slice (some ⟨b3, 0, none⟩) nb nb, .slice (some ⟨b4, 0, none⟩) M M, .slice none 0 0, .slice none 0 0] 58 (0, 0)) := by rw [hZ.out]; exact (set_cells bx 3 _).trans rfl
              replace hb : Below Bd X0 Y27 := ⟨by rw [hZ.out]; exact hb.os, by rw [hZ.out]; exact hb.tape, by rw [hZ.out]; exact hb.output, by rw [hZ.out]; simpa [World.setCell] using hb.size, fun k hk => (ez k (by omega)).trans (hb.block k hk)⟩
              replace bx := bz
              replace sz : Bd < Y27.heap.size := (Array.getElem?_eq_some_iff.1 bz).1
              clear bz
              replace rA := rA.same (ez _ (by omega))
              replace r6 := r6.same (ez _ (by omega))
              replace rB := rB.same (ez _ (by omega))
              clear ez q3 f3
              refine wpAnyH_take (i := 9) (v := .pointer (some ⟨Bd, 4, none⟩)) rfl (by kernel_rfl) (by kernel_rfl) (by kernel_rfl) (fun _ _ _ h => h) (Or.inl ⟨by rfl, fun wq hSw => by (try dsimp only at hSw); go_simp⟩) hHeld ?_
              try simp only [Act.put, List.getElem_toArray, List.getElem_cons_succ, List.getElem_cons_zero, List.setIfInBounds_toArray, List.set_cons_zero, List.set_cons_succ]
              have q4 := at_cells bx (j := 4) rfl
              have f4 := rw_cells bx 4
              refine wpAnyH_ready (rs := [10]) (by kernel_rfl) (by simp) ?_
              refine (AllReadyH.cons rfl (fun K hK => ?_) AllReadyH.nil)
              go_simp
              refine hK.out _ _ trivial (fun hHeld => ?_)
              clear hK K
              try simp only [Act.put, List.getElem_toArray, List.getElem_cons_succ, List.getElem_cons_zero, List.setIfInBounds_toArray, List.set_cons_zero, List.set_cons_succ]
              obtain ⟨Y28, hZ⟩ : ∃ Z, Kp (Z = Y27.setCell ⟨Bd, 4, none⟩ (.slice (some ⟨b5, 0, none⟩) M M)) := ⟨_, ⟨rfl⟩⟩
              rw [← hZ.out]
              have ez : ∀ k, k ≠ Bd → Y28.heap[k]? = Y27.heap[k]? := fun k hk => by rw [hZ.out]; exact heap_set _ _ _ _ _ hk
              have bz : Y28.heap[Bd]? = some (Go.Obj.cells #[.slice (some ⟨b1, 0, none⟩) M c1, .slice (some ⟨b2, 0, none⟩) M c2, .slice (some ⟨b3, 0, none⟩) nb nb, .slice (some ⟨b4, 0, none⟩) M M, .slice (some ⟨b5, 0, none⟩) M M, .slice none 0 0] 58 (0, 0)) := by rw [hZ.out]; exact (set_cells bx 4 _).trans rfl
              replace hb : Below Bd X0 Y28 := ⟨by rw [hZ.out]; exact hb.os, by rw [hZ.out]; exact hb.tape, by rw [hZ.out]; exact hb.output, by rw [hZ.out]; simpa [World.setCell] using hb.size, fun k hk => (ez k (by omega)).trans (hb.block k hk)⟩
              replace bx := bz
              replace sz : Bd < Y28.heap.size := (Array.getElem?_eq_some_iff.1 bz).1
              clear bz
              replace rA := rA.same (ez _ (by omega))
              replace r6 := r6.same (ez _ (by omega))
              replace rB := rB.same (ez _ (by omega))
              clear ez q4 f4
              refine wpAnyH_take (i := 11) (v := .pointer (some ⟨Bd, 5, none⟩)) rfl (by kernel_rfl) (by kernel_rfl) (by kernel_rfl) (fun _ _ _ h => h) (Or.inl ⟨by rfl, fun wq hSw => by (try dsimp only at hSw); go_simp⟩) hHeld ?_
              try simp only [Act.put, List.getElem_toArray, List.getElem_cons_succ, List.getElem_cons_zero, List.setIfInBounds_toArray, List.set_cons_zero, List.set_cons_succ]
              have q5 := at_cells bx (j := 5) rfl
              have f5 := rw_cells bx 5
              refine wpAnyH_ready (rs := [12]) (by kernel_rfl) (by simp) ?_
              refine (AllReadyH.cons rfl (fun K hK => ?_) AllReadyH.nil)
              go_simp
              refine hK.out _ _ trivial (fun hHeld => ?_)
              clear hK K
              try simp only [Act.put, List.getElem_toArray, List.getElem_cons_succ, List.getElem_cons_zero, List.setIfInBounds_toArray, List.set_cons_zero, List.set_cons_succ]
              obtain ⟨Y29, hZ⟩ : ∃ Z, Kp (Z = Y28.setCell ⟨Bd, 5, none⟩ (.slice (some ⟨b6, 0, none⟩) M M)) := ⟨_, ⟨rfl⟩⟩
              rw [← hZ.out]
              have ez : ∀ k, k ≠ Bd → Y29.heap[k]? = Y28.heap[k]? := fun k hk => by rw [hZ.out]; exact heap_set _ _ _ _ _ hk
              have bz : Y29.heap[Bd]? = some (Go.Obj.cells #[.slice (some ⟨b1, 0, none⟩) M c1, .slice (some ⟨b2, 0, none⟩) M c2, .slice (some ⟨b3, 0, none⟩) nb nb, .slice (some ⟨b4, 0, none⟩) M M, .slice (some ⟨b5, 0, none⟩) M M, .slice (some ⟨b6, 0, none⟩) M M] 58 (0, 0)) := by rw [hZ.out]; exact (set_cells bx 5 _).trans rfl
              replace hb : Below Bd X0 Y29 := ⟨by rw [hZ.out]; exact hb.os, by rw [hZ.out]; exact hb.tape, by rw [hZ.out]; exact hb.output, by rw [hZ.out]; simpa [World.setCell] using hb.size, fun k hk => (ez k (by omega)).trans (hb.block k hk)⟩
              replace bx := bz
              replace sz : Bd < Y29.heap.size := (Array.getElem?_eq_some_iff.1 bz).1
              clear bz
              replace rA := rA.same (ez _ (by omega))
              replace r6 := r6.same (ez _ (by omega))
              replace rB := rB.same (ez _ (by omega))
              clear ez q5 f5
              refine wpAnyH_done (by kernel_rfl) ?_ _
              replace hb := Kp.mk hb
              replace bx := Kp.mk bx
              replace rA := Kp.mk rA
              replace rB := Kp.mk rB
              replace r6 := Kp.mk r6
              go_wp2_with fail
              go_meet
              exact ⟨b4, b5, b6, bx.out, rA.out, rB.out, r6.out, by omega, by omega, by omega, g_b4, g_b5, g_b6, hb.out⟩
      · go_simp
        refine hK.out _ _ trivial (fun hHeld => ?_)
        clear hK K
        try simp only [Act.put, List.getElem_toArray, List.getElem_cons_succ, List.getElem_cons_zero, List.setIfInBounds_toArray, List.set_cons_zero, List.set_cons_succ]
        obtain ⟨Y30, hZ⟩ : ∃ Z, Kp (Z = Y23.alloc (Go.Obj.cells #[.int .i64 1] 2)) := ⟨_, ⟨rfl⟩⟩
        rw [← hZ.out]
        have kz : Below Y23.heap.size Y23 Y30 := by rw [hZ.out]; exact bel_alloc _ _
        have rC : At Y30 Y23.heap.size 0 (.int .i64 1) := by rw [hZ.out]; exact at_cells (new_cells _ _) rfl
        obtain ⟨bC, hb_bC⟩ : ∃ b, Kp (Y23.heap.size = b) := ⟨_, ⟨rfl⟩⟩
        rw [hb_bC.out]
        rw [hb_bC.out] at rC
        replace rB := rB.keep kz
        replace hb := hb.trans (kz.mono (by omega))
        replace bx := keep_cells bx kz
        replace sz : Bd < Y30.heap.size := by have := kz.size; omega
        clear kz
        refine wpAnyH_ready (rs := [1, 6]) (by kernel_rfl) (by simp) ?_
        refine (AllReadyH.cons rfl (fun K hK => ?_) (AllReadyH.cons rfl (fun K hK => ?_) AllReadyH.nil))
        · go_simp
          refine hK.out _ _ trivial (fun hHeld => ?_)
          clear hK K
          try simp only [Act.put, List.getElem_toArray, List.getElem_cons_succ, List.getElem_cons_zero, List.setIfInBounds_toArray, List.set_cons_zero, List.set_cons_succ]
          obtain ⟨Y31, hZ⟩ : ∃ Z, Kp (Z = Y30.alloc O) := ⟨_, ⟨rfl⟩⟩
          rw [← hZ.out]
          have kz : Below Y30.heap.size Y30 Y31 := by rw [hZ.out]; exact bel_alloc _ _
          have rn : RowI Y31 Y30.heap.size M (fun _ => 0) := by rw [hZ.out]; exact hRO.out Y30
          obtain ⟨b4, hb_b4⟩ : ∃ b, Kp (Y30.heap.size = b) := ⟨_, ⟨rfl⟩⟩
          rw [hb_b4.out]
          rw [hb_b4.out] at rn
          have g_b4 : Bd < b4 := by have := hb_b4.out; omega
          have n_b5_b4 : b5 ≠ b4 := by have h1 := hb_b4.out; have h2 := rB.lt; omega
          replace rB := rB.keep kz
          replace rC := at_keep rC kz
          replace hb := hb.trans (kz.mono (by omega))
          replace bx := keep_cells bx kz
          replace sz : Bd < Y31.heap.size := by have := kz.size; omega
          have rA := rn
          clear rn kz
          refine wpAnyH_take (i := 7) (v := .pointer (some ⟨Bd, 3, none⟩)) rfl (by kernel_rfl) (by kernel_rfl) (by kernel_rfl) (fun _ _ _ h => h) (Or.inl ⟨by rfl, fun wq hSw => by (try dsimp only at hSw); go_simp⟩) hHeld ?_
          try simp only [Act.put, List.getElem_toArray, List.getElem_cons_succ, List.getElem_cons_zero, List.setIfInBounds_toArray, List.set_cons_zero, List.set_cons_succ]
          refine wpAnyH_ready (rs := [6]) (by kernel_rfl) (by simp) ?_
          refine (AllReadyH.cons rfl (fun K hK => ?_) AllReadyH.nil)
          · go_simp
            refine (CR.out _ _ rC).mono ?_
            rintro e Y32 ⟨rfl, r6, kz⟩
            refine hK.out _ _ trivial (fun hHeld => ?_)
            clear hK K
            try simp only [Act.put, List.getElem_toArray, List.getElem_cons_succ, List.getElem_cons_zero, List.setIfInBounds_toArray, List.set_cons_zero, List.set_cons_succ]
            obtain ⟨b6, hb_b6⟩ : ∃ b, Kp (Y31.heap.size = b) := ⟨_, ⟨rfl⟩⟩
            rw [hb_b6.out]
            rw [hb_b6.out] at r6
            have g_b6 : Bd < b6 := by have := hb_b6.out; omega
            have n_b4_b6 : b4 ≠ b6 := by have h1 := hb_b6.out; have h2 := rA.lt; omega
            have n_b5_b6 : b5 ≠ b6 := by have h1 := hb_b6.out; have h2 := rB.lt; omega
            replace rA := rA.keep kz
            replace rB := rB.keep kz
            replace hb := hb.trans (kz.mono (by omega))
            replace bx := keep_cells bx kz
            replace sz : Bd < Y32.heap.size := by have := kz.size; omega
            clear kz rC
            refine wpAnyH_ready (rs := [8]) (by kernel_rfl) (by simp) ?_
            refine (AllReadyH.cons rfl (fun K hK => ?_) AllReadyH.nil)
            · have q3 := at_cells bx (j := 3) rfl
              have f3 := rw_cells bx 3
              go_simp
              refine hK.out _ _ trivial (fun hHeld => ?_)
              clear hK K
              try simp only [Act.put, List.getElem_toArray, List.getElem_cons_succ, List.getElem_cons_zero, List.setIfInBounds_toArray, List.set_cons_zero, List.set_cons_succ]
              obtain ⟨Y33, hZ⟩ : ∃ Z, Kp (Z = Y32.setCell ⟨Bd, 3, none⟩ (.slice (some ⟨b4, 0, none⟩) M M)) := ⟨_, ⟨rfl⟩⟩
              rw [← hZ.out]
              have ez : ∀ k, k ≠ Bd → Y33.heap[k]? = Y32.heap[k]? := fun k hk => by rw [hZ.out]; exact heap_set _ _ _ _ _ hk
              have bz : Y33.heap[Bd]? = some (Go.Obj.cells #[.slice (some ⟨b1, 0, none⟩) M c1, .slice (some ⟨b2, 0, none⟩) M c2, .slice (some ⟨b3, 0, none⟩) nb nb, .slice (some ⟨b4, 0, none⟩) M M, .slice none 0 0, .slice none 0 0] 58 (0, 0)) := by rw [hZ.out]; exact (set_cells bx 3 _).trans rfl
              replace hb : Below Bd X0 Y33 := ⟨by rw [hZ.out]; exact hb.os, by rw [hZ.out]; exact hb.tape, by rw [hZ.out]; exact hb.output, by rw [hZ.out]; simpa [World.setCell] using hb.size, fun k hk => (ez k (by omega)).trans (hb.block k hk)⟩
              replace bx := bz
              replace sz : Bd < Y33.heap.size := (Array.getElem?_eq_some_iff.1 bz).1
              clear bz
              replace rA := rA.same (ez _ (by omega))
              replace r6 := r6.same (ez _ (by omega))
              replace rB := rB.same (ez _ (by omega))
              clear ez q3 f3
              refine wpAnyH_take (i := 9) (v := .pointer (some ⟨Bd, 4, none⟩)) rfl (by kernel_rfl) (by kernel_rfl) (by kernel_rfl) (fun _ _ _ h => h) (Or.inl ⟨by rfl, fun wq hSw => by (try dsimp only at hSw); go_simp⟩) hHeld ?_
              try simp only [Act.put, List.getElem_toArray, List.getElem_cons_succ, List.getElem_cons_zero, List.setIfInBounds_toArray, List.set_cons_zero, List.set_cons_succ]
              have q4 := at_cells bx (j := 4) rfl
              have f4 := rw_cells bx 4
              refine wpAnyH_ready (rs := [10]) (by kernel_rfl) (by simp) ?_
              refine (AllReadyH.cons rfl (fun K hK => ?_) AllReadyH.nil)
              go_simp
              refine hK.out _ _ trivial (fun hHeld => ?_)
              clear hK K
              try simp only [Act.put, List.getElem_toArray, List.getElem_cons_succ, List.getElem_cons_zero, List.setIfInBounds_toArray, List.set_cons_zero, List.set_cons_succ]
              obtain ⟨Y34, hZ⟩ : ∃ Z, Kp (Z = Y33.setCell ⟨Bd, 4, none⟩ (.slice (some ⟨b5, 0, none⟩) M M)) := ⟨_, ⟨rfl⟩⟩
              rw [← hZ.out]
              have ez : ∀ k, k ≠ Bd → Y34.heap[k]? = Y33.heap[k]? := fun k hk => by rw [hZ.out]; exact heap_set _ _ _ _ _ hk
              have bz : Y34.heap[Bd]? = some (Go.Obj.cells #[.slice (some ⟨b1, 0, none⟩) M c1, .slice (some ⟨b2, 0, none⟩) M c2, .slice (some ⟨b3, 0, none⟩) nb nb, .slice (some ⟨b4, 0, none⟩) M M, .slice (some ⟨b5, 0, none⟩) M M, .slice none 0 0] 58 (0, 0)) := by rw [hZ.out]; exact (set_cells bx 4 _).trans rfl
              replace hb : Below Bd X0 Y34 := ⟨by rw [hZ.out]; exact hb.os, by rw [hZ.out]; exact hb.tape, by rw [hZ.out]; exact hb.output, by rw [hZ.out]; simpa [World.setCell] using hb.size, fun k hk => (ez k (by omega)).trans (hb.block k hk)⟩
              replace bx := bz
              replace sz : Bd < Y34.heap.size := (Array.getElem?_eq_some_iff.1 bz).1
              clear bz
              replace rA := rA.same (ez _ (by omega))
              replace r6 := r6.same (ez _ (by omega))
              replace rB := rB.same (ez _ (by omega))
              clear ez q4 f4
              refine wpAnyH_take (i := 11) (v := .pointer (some ⟨Bd, 5, none⟩)) rfl (by kernel_rfl) (by kernel_rfl) (by kernel_rfl) (fun _ _ _ h => h) (Or.inl ⟨by rfl, fun wq hSw => by (try dsimp only at hSw); go_simp⟩) hHeld ?_
              try simp only [Act.put, List.getElem_toArray, List.getElem_cons_succ, List.getElem_cons_zero, List.setIfInBounds_toArray, List.set_cons_zero, List.set_cons_succ]
              have q5 := at_cells bx (j := 5) rfl
              have f5 := rw_cells bx 5
              refine wpAnyH_ready (rs := [12]) (by kernel_rfl) (by simp) ?_
              refine (AllReadyH.cons rfl (fun K hK => ?_) AllReadyH.nil)
              go_simp
              refine hK.out _ _ trivial (fun hHeld => ?_)
              clear hK K
              try simp only [Act.put, List.getElem_toArray, List.getElem_cons_succ, List.getElem_cons_zero, List.setIfInBounds_toArray, List.set_cons_zero, List.set_cons_succ]
              obtain ⟨Y35, hZ⟩ : ∃ Z, Kp (Z = Y34.setCell ⟨Bd, 5, none⟩ (.slice (some ⟨b6, 0, none⟩) M M)) := ⟨_, ⟨rfl⟩⟩
              rw [← hZ.out]
              have ez : ∀ k, k ≠ Bd → Y35.heap[k]? = Y34.heap[k]? := fun k hk => by rw [hZ.out]; exact heap_set _ _ _ _ _ hk
              have bz : Y35.heap[Bd]? = some (Go.Obj.cells #[.slice (some ⟨b1, 0, none⟩) M c1, .slice (some ⟨b2, 0, none⟩) M c2, .slice (some ⟨b3, 0, none⟩) nb nb, .slice (some ⟨b4, 0, none⟩) M M, .slice (some ⟨b5, 0, none⟩) M M, .slice (some ⟨b6, 0, none⟩) M M] 58 (0, 0)) := by rw [hZ.out]; exact (set_cells bx 5 _).trans rfl
              replace hb : Below Bd X0 Y35 := ⟨by rw [hZ.out]; exact hb.os, by rw [hZ.out]; exact hb.tape, by rw [hZ.out]; exact hb.output, by rw [hZ.out]; simpa [World.setCell] using hb.size, fun k hk => (ez k (by omega)).trans (hb.block k hk)⟩
              replace bx := bz
              replace sz : Bd < Y35.heap.size := (Array.getElem?_eq_some_iff.1 bz).1
              clear bz
              replace rA := rA.same (ez _ (by omega))
              replace r6 := r6.same (ez _ (by omega))
              replace rB := rB.same (ez _ (by omega))
              clear ez q5 f5
              refine wpAnyH_done (by kernel_rfl) ?_ _
              replace hb := Kp.mk hb
              replace bx := Kp.mk bx
              replace rA := Kp.mk rA
              replace rB := Kp.mk rB
              replace r6 := Kp.mk r6
              go_wp2_with fail
              go_meet
              exact ⟨b4, b5, b6, bx.out, rA.out, rB.out, r6.out, by omega, by omega, by omega, g_b4, g_b5, g_b6, hb.out⟩
        · go_simp
          refine (CR.out _ _ rC).mono ?_
          rintro e Y36 ⟨rfl, r6, kz⟩
          refine hK.out _ _ trivial (fun hHeld => ?_)
          clear hK K
          try simp only [Act.put, List.getElem_toArray, List.getElem_cons_succ, List.getElem_cons_zero, List.setIfInBounds_toArray, List.set_cons_zero, List.set_cons_succ]
          obtain ⟨b6, hb_b6⟩ : ∃ b, Kp (Y30.heap.size = b) := ⟨_, ⟨rfl⟩⟩
          rw [hb_b6.out]
          rw [hb_b6.out] at r6
          have g_b6 : Bd < b6 := by have := hb_b6.out; omega
          have n_b5_b6 : b5 ≠ b6 := by have h1 := hb_b6.out; have h2 := rB.lt; omega
          replace rB := rB.keep kz
          replace hb := hb.trans (kz.mono (by omega))
          replace bx := keep_cells bx kz
          replace sz : Bd < Y36.heap.size := by have := kz.size; omega
          clear kz rC
          refine wpAnyH_ready (rs := [1]) (by kernel_rfl) (by simp) ?_
          refine (AllReadyH.cons rfl (fun K hK => ?_) AllReadyH.nil)
          · go_simp
            refine hK.out _ _ trivial (fun hHeld => ?_)
            clear hK K
            try simp only [Act.put, List.getElem_toArray, List.getElem_cons_succ, List.getElem_cons_zero, List.setIfInBounds_toArray, List.set_cons_zero, List.set_cons_succ]
            obtain ⟨Y37, hZ⟩ : ∃ Z, Kp (Z = Y36.alloc O) := ⟨_, ⟨rfl⟩⟩
            rw [← hZ.out]
            have kz : Below Y36.heap.size Y36 Y37 := by rw [hZ.out]; exact bel_alloc _ _
            have rn : RowI Y37 Y36.heap.size M (fun _ => 0) := by rw [hZ.out]; exact hRO.out Y36
            obtain ⟨b4, hb_b4⟩ : ∃ b, Kp (Y36.heap.size = b) := ⟨_, ⟨rfl⟩⟩
            rw [hb_b4.out]
            rw [hb_b4.out] at rn
            have g_b4 : Bd < b4 := by have := hb_b4.out; omega
            have n_b5_b4 : b5 ≠ b4 := by have h1 := hb_b4.out; have h2 := rB.lt; omega
            have n_b6_b4 : b6 ≠ b4 := by have h1 := hb_b4.out; have h2 := r6.lt; omega
            replace rB := rB.keep kz
            replace r6 := r6.keep kz
            replace hb := hb.trans (kz.mono (by omega))
            replace bx := keep_cells bx kz
            replace sz : Bd < Y37.heap.size := by have := kz.size; omega
            have rA := rn
            clear rn kz
            refine wpAnyH_take (i := 7) (v := .pointer (some ⟨Bd, 3, none⟩)) rfl (by kernel_rfl) (by kernel_rfl) (by kernel_rfl) (fun _ _ _ h => h) (Or.inl ⟨by rfl, fun wq hSw => by (try dsimp only at hSw); go_simp⟩) hHeld ?_
            try simp only [Act.put, List.getElem_toArray, List.getElem_cons_succ, List.getElem_cons_zero, List.setIfInBounds_toArray, List.set_cons_zero, List.set_cons_succ]
            refine wpAnyH_ready (rs := [8]) (by kernel_rfl) (by simp) ?_
            refine (AllReadyH.cons rfl (fun K hK => ?_) AllReadyH.nil)
            · have q3 := at_cells bx (j := 3) rfl
              have f3 := rw_cells bx 3
              go_simp
              refine hK.out _ _ trivial (fun hHeld => ?_)
              clear hK K
              try simp only [Act.put, List.getElem_toArray, List.getElem_cons_succ, List.getElem_cons_zero, List.setIfInBounds_toArray, List.set_cons_zero, List.set_cons_succ]
              obtain ⟨Y38, hZ⟩ : ∃ Z, Kp (Z = Y37.setCell ⟨Bd, 3, none⟩ (.slice (some ⟨b4, 0, none⟩) M M)) := ⟨_, ⟨rfl⟩⟩
              rw [← hZ.out]
              have ez : ∀ k, k ≠ Bd → Y38.heap[k]? = Y37.heap[k]? := fun k hk => by rw [hZ.out]; exact heap_set _ _ _ _ _ hk
              have bz : Y38.heap[Bd]? = some (Go.Obj.cells #[.slice (some ⟨b1, 0, none⟩) M c1, .slice (some ⟨b2, 0, none⟩) M c2, .slice (some ⟨b3, 0, none⟩) nb nb, .slice (some ⟨b4, 0, none⟩) M M, .slice none 0 0, .slice none 0 0] 58 (0, 0)) := by rw [hZ.out]; exact (set_cells bx 3 _).trans rfl
              replace hb : Below Bd X0 Y38 := ⟨by rw [hZ.out]; exact hb.os, by rw [hZ.out]; exact hb.tape, by rw [hZ.out]; exact hb.output, by rw [hZ.out]; simpa [World.setCell] using hb.size, fun k hk => (ez k (by omega)).trans (hb.block k hk)⟩
              replace bx := bz
              replace sz : Bd < Y38.heap.size := (Array.getElem?_eq_some_iff.1 bz).1
              clear bz
              replace rA := rA.same (ez _ (by omega))
              replace r6 := r6.same (ez _ (by omega))
              replace rB := rB.same (ez _ (by omega))
              clear ez q3 f3
              refine wpAnyH_take (i := 9) (v := .pointer (some ⟨Bd, 4, none⟩)) rfl (by kernel_rfl) (by kernel_rfl) (by kernel_rfl) (fun _ _ _ h => h) (Or.inl ⟨by rfl, fun wq hSw => by (try dsimp only at hSw); go_simp⟩) hHeld ?_
              try simp only [Act.put, List.getElem_toArray, List.getElem_cons_succ, List.getElem_cons_zero, List.setIfInBounds_toArray, List.set_cons_zero, List.set_cons_succ]
              have q4 := at_cells bx (j := 4) rfl
              have f4 := rw_cells bx 4
              refine wpAnyH_ready (rs := [10]) (by kernel_rfl) (by simp) ?_
              refine (AllReadyH.cons rfl (fun K hK => ?_) AllReadyH.nil)
              go_simp
              refine hK.out _ _ trivial (fun hHeld => ?_)
              clear hK K
              try simp only [Act.put, List.getElem_toArray, List.getElem_cons_succ, List.getElem_cons_zero, List.setIfInBounds_toArray, List.set_cons_zero, List.set_cons_succ]
              obtain ⟨Y39, hZ⟩ : ∃ Z, Kp (Z = Y38.setCell ⟨Bd, 4, none⟩ (.slice (some ⟨b5, 0, none⟩) M M)) := ⟨_, ⟨rfl⟩⟩
              rw [← hZ.out]
              have ez : ∀ k, k ≠ Bd → Y39.heap[k]? = Y38.heap[k]? := fun k hk => by rw [hZ.out]; exact heap_set _ _ _ _ _ hk
              have bz : Y39.heap[Bd]? = some (Go.Obj.cells #[.slice (some ⟨b1, 0, none⟩) M c1, .slice (some ⟨b2, 0, none⟩) M c2, .slice (some ⟨b3, 0, none⟩) nb nb, .slice (some ⟨b4, 0, none⟩) M M, .slice (some ⟨b5, 0, none⟩) M M, .slice none 0 0] 58 (0, 0)) := by rw [hZ.out]; exact (set_cells bx 4 _).trans rfl
              replace hb : Below Bd X0 Y39 := ⟨by rw [hZ.out]; exact hb.os, by rw [hZ.out]; exact hb.tape, by rw [hZ.out]; exact hb.output, by rw [hZ.out]; simpa [World.setCell] using hb.size, fun k hk => (ez k (by omega)).trans (hb.block k hk)⟩
              replace bx := bz
              replace sz : Bd < Y39.heap.size := (Array.getElem?_eq_some_iff.1 bz).1
              clear bz
              replace rA := rA.same (ez _ (by omega))
              replace r6 := r6.same (ez _ (by omega))
              replace rB := rB.same (ez _ (by omega))
              clear ez q4 f4
              refine wpAnyH_take (i := 11) (v := .pointer (some ⟨Bd, 5, none⟩)) rfl (by kernel_rfl) (by kernel_rfl) (by kernel_rfl) (fun _ _ _ h => h) (Or.inl ⟨by rfl, fun wq hSw => by (try dsimp only at hSw); go_simp⟩) hHeld ?_
              try simp only [Act.put, List.getElem_toArray, List.getElem_cons_succ, List.getElem_cons_zero, List.setIfInBounds_toArray, List.set_cons_zero, List.set_cons_succ]
              have q5 := at_cells bx (j := 5) rfl
              have f5 := rw_cells bx 5
              refine wpAnyH_ready (rs := [12]) (by kernel_rfl) (by simp) ?_
              refine (AllReadyH.cons rfl (fun K hK => ?_) AllReadyH.nil)
              go_simp
              refine hK.out _ _ trivial (fun hHeld => ?_)
              clear hK K
              try simp only [Act.put, List.getElem_toArray, List.getElem_cons_succ, List.getElem_cons_zero, List.setIfInBounds_toArray, List.set_cons_zero, List.set_cons_succ]
              obtain ⟨Y40, hZ⟩ : ∃ Z, Kp (Z = Y39.setCell ⟨Bd, 5, none⟩ (.slice (some ⟨b6, 0, none⟩) M M)) := ⟨_, ⟨rfl⟩⟩
              rw [← hZ.out]
              have ez : ∀ k, k ≠ Bd → Y40.heap[k]? = Y39.heap[k]? := fun k hk => by rw [hZ.out]; exact heap_set _ _ _ _ _ hk
              have bz : Y40.heap[Bd]? = some (Go.Obj.cells #[.slice (some ⟨b1, 0, none⟩) M c1, .slice (some ⟨b2, 0, none⟩) M c2, .slice (some ⟨b3, 0, none⟩) nb nb, .slice (some ⟨b4, 0, none⟩) M M, .slice (some ⟨b5, 0, none⟩) M M, .slice (some ⟨b6, 0, none⟩) M M] 58 (0, 0)) := by rw [hZ.out]; exact (set_cells bx 5 _).trans rfl
              replace hb : Below Bd X0 Y40 := ⟨by rw [hZ.out]; exact hb.os, by rw [hZ.out]; exact hb.tape, by rw [hZ.out]; exact hb.output, by rw [hZ.out]; simpa [World.setCell] using hb.size, fun k hk => (ez k (by omega)).trans (hb.block k hk)⟩
              replace bx := bz
              replace sz : Bd < Y40.heap.size := (Array.getElem?_eq_some_iff.1 bz).1
              clear bz
              replace rA := rA.same (ez _ (by omega))
              replace r6 := r6.same (ez _ (by omega))
              replace rB := rB.same (ez _ (by omega))
              clear ez q5 f5
              refine wpAnyH_done (by kernel_rfl) ?_ _
              replace hb := Kp.mk hb
              replace bx := Kp.mk bx
              replace rA := Kp.mk rA
              replace rB := Kp.mk rB
              replace r6 := Kp.mk r6
              go_wp2_with fail
              go_meet
              exact ⟨b4, b5, b6, bx.out, rA.out, rB.out, r6.out, by omega, by omega, by omega, g_b4, g_b5, g_b6, hb.out⟩
    · go_simp
      refine hK.out _ _ trivial (fun hHeld => ?_)
      clear hK K
      try simp only [Act.put, List.getElem_toArray, List.getElem_cons_succ, List.getElem_cons_zero, List.setIfInBounds_toArray, List.set_cons_zero, List.set_cons_succ]
      obtain ⟨Y41, hZ⟩ : ∃ Z, Kp (Z = Y0.alloc (Go.Obj.cells #[.int .i64 1] 2)) := ⟨_, ⟨rfl⟩⟩
      rw [← hZ.out]
      have kz : Below Y0.heap.size Y0 Y41 := by rw [hZ.out]; exact bel_alloc _ _
      have rC : At Y41 Y0.heap.size 0 (.int .i64 1) := by rw [hZ.out]; exact at_cells (new_cells _ _) rfl
      obtain ⟨bC, hb_bC⟩ : ∃ b, Kp (Y0.heap.size = b) := ⟨_, ⟨rfl⟩⟩
      rw [hb_bC.out]
      rw [hb_bC.out] at rC
      replace hb := hb.trans (kz.mono (by omega))
      replace bx := keep_cells bx kz
      replace sz : Bd < Y41.heap.size := by have := kz.size; omega
      clear kz
      refine wpAnyH_ready (rs := [1, 3, 6]) (by kernel_rfl) (by simp) ?_
      refine (AllReadyH.cons rfl (fun K hK => ?_) (AllReadyH.cons rfl (fun K hK => ?_) (AllReadyH.cons rfl (fun K hK => ?_) AllReadyH.nil)))
      · go_simp
        refine hK.out _ _ trivial (fun hHeld => ?_)
        clear hK K
        try simp only [Act.put, List.getElem_toArray, List.getElem_cons_succ, List.getElem_cons_zero, List.setIfInBounds_toArray, List.set_cons_zero, List.set_cons_succ]
        obtain ⟨Y42, hZ⟩ : ∃ Z, Kp (Z = Y41.alloc O) := ⟨_, ⟨rfl⟩⟩
        rw [← hZ.out]
        have kz : Below Y41.heap.size Y41 Y42 := by rw [hZ.out]; exact bel_alloc _ _
        have rn : RowI Y42 Y41.heap.size M (fun _ => 0) := by rw [hZ.out]; exact hRO.out Y41
        obtain ⟨b4, hb_b4⟩ : ∃ b, Kp (Y41.heap.size = b) := ⟨_, ⟨rfl⟩⟩
        rw [hb_b4.out]
        rw [hb_b4.out] at rn
        have g_b4 : Bd < b4 := by have := hb_b4.out; omega
        replace rC := at_keep rC kz
        replace hb := hb.trans (kz.mono (by omega))
        replace bx := keep_cells bx kz
        replace sz : Bd < Y42.heap.size := by have := kz.size; omega
        have rA := rn
        clear rn kz
        refine wpAnyH_take (i := 7) (v := .pointer (some ⟨Bd, 3, none⟩)) rfl (by kernel_rfl) (by kernel_rfl) (by kernel_rfl) (fun _ _ _ h => h) (Or.inl ⟨by rfl, fun wq hSw => by (try dsimp only at hSw); go_simp⟩) hHeld ?_
        try simp only [Act.put, List.getElem_toArray, List.getElem_cons_succ, List.getElem_cons_zero, List.setIfInBounds_toArray, List.set_cons_zero, List.set_cons_succ]
        refine wpAnyH_ready (rs := [3, 6]) (by kernel_rfl) (by simp) ?_
        refine (AllReadyH.cons rfl (fun K hK => ?_) (AllReadyH.cons rfl (fun K hK => ?_) AllReadyH.nil))
        · go_simp
          refine hK.out _ _ trivial (fun hHeld => ?_)
          clear hK K
          try simp only [Act.put, List.getElem_toArray, List.getElem_cons_succ, List.getElem_cons_zero, List.setIfInBounds_toArray, List.set_cons_zero, List.set_cons_succ]
          obtain ⟨Y43, hZ⟩ : ∃ Z, Kp (Z = Y42.alloc O) := ⟨_, ⟨rfl⟩⟩
          rw [← hZ.out]
          have kz : Below Y42.heap.size Y42 Y43 := by rw [hZ.out]; exact bel_alloc _ _
          have rn : RowI Y43 Y42.heap.size M (fun _ => 0) := by rw [hZ.out]; exact hRO.out Y42
          obtain ⟨b5, hb_b5⟩ : ∃ b, Kp (Y42.heap.size = b) := ⟨_, ⟨rfl⟩⟩
          rw [hb_b5.out]
          rw [hb_b5.out] at rn
          have g_b5 : Bd < b5 := by have := hb_b5.out; omega
          have n_b4_b5 : b4 ≠ b5 := by have h1 := hb_b5.out; have h2 := rA.lt; omega
          replace rA := rA.keep kz
          replace rC := at_keep rC kz
          replace hb := hb.trans (kz.mono (by omega))
          replace bx := keep_cells bx kz
          replace sz : Bd < Y43.heap.size := by have := kz.size; omega
          have rB := rn
          clear rn kz
          refine wpAnyH_ready (rs := [6]) (by kernel_rfl) (by simp) ?_
          refine (AllReadyH.cons rfl (fun K hK => ?_) AllReadyH.nil)
          · go_simp
            refine (CR.out _ _ rC).mono ?_
            rintro e Y44 ⟨rfl, r6, kz⟩
            refine hK.out _ _ trivial (fun hHeld => ?_)
            clear hK K
            try simp only [Act.put, List.getElem_toArray, List.getElem_cons_succ, List.getElem_cons_zero, List.setIfInBounds_toArray, List.set_cons_zero, List.set_cons_succ]
            obtain ⟨b6, hb_b6⟩ : ∃ b, Kp (Y43.heap.size = b) := ⟨_, ⟨rfl⟩⟩
            rw [hb_b6.out]
            rw [hb_b6.out] at r6
            have g_b6 : Bd < b6 := by have := hb_b6.out; omega
            have n_b4_b6 : b4 ≠ b6 := by have h1 := hb_b6.out; have h2 := rA.lt; omega
            have n_b5_b6 : b5 ≠ b6 := by have h1 := hb_b6.out; have h2 := rB.lt; omega
            replace rA := rA.keep kz
            replace rB := rB.keep kz
            replace hb := hb.trans (kz.mono (by omega))
            replace bx := keep_cells bx kz
            replace sz : Bd < Y44.heap.size := by have := kz.size; omega
            clear kz rC
            refine wpAnyH_ready (rs := [8]) (by kernel_rfl) (by simp) ?_
            refine (AllReadyH.cons rfl (fun K hK => ?_) AllReadyH.nil)
            · have q3 := at_cells bx (j := 3) rfl
              have f3 := rw_cells bx 3
              go_simp
              refine hK.out _ _ trivial (fun hHeld => ?_)
              clear hK K
              try simp only [Act.put, List.getElem_toArray, List.getElem_cons_succ, List.getElem_cons_zero, List.setIfInBounds_toArray, List.set_cons_zero, List.set_cons_succ]
              obtain ⟨Y45, hZ⟩ : ∃ Z, Kp (Z = Y44.setCell ⟨Bd, 3, none⟩ (.slice (some ⟨b4, 0, none⟩) M M)) := ⟨_, ⟨rfl⟩⟩
              rw [← hZ.out]
              have ez : ∀ k, k ≠ Bd → Y45.heap[k]? = Y44.heap[k]? := fun k hk => by rw [hZ.out]; exact heap_set _ _ _ _ _ hk
              have bz : Y45.heap[Bd]? = some (Go.Obj.cells #[.slice (some ⟨b1, 0, none⟩) M c1, .slice (some ⟨b2, 0, none⟩) M c2, .slice (some ⟨b3, 0, none⟩) nb nb, .slice (some ⟨b4, 0, none⟩) M M, .slice none 0 0, .slice none 0 0] 58 (0, 0)) := by rw [hZ.out]; exact (set_cells bx 3 _).trans rfl
              replace hb : Below Bd X0 Y45 := ⟨by rw [hZ.out]; exact hb.os, by rw [hZ.out]; exact hb.tape, by rw [hZ.out]; exact hb.output, by rw [hZ.out]; simpa [World.setCell] using hb.size, fun k hk => (ez k (by omega)).trans (hb.block k hk)⟩
              replace bx := bz
              replace sz : Bd < Y45.heap.size := (Array.getElem?_eq_some_iff.1 bz).1
              clear bz
              replace rA := rA.same (ez _ (by omega))
              replace r6 := r6.same (ez _ (by omega))
              replace rB := rB.same (ez _ (by omega))
              clear ez q3 f3
              refine wpAnyH_take (i := 9) (v := .pointer (some ⟨Bd, 4, none⟩)) rfl (by kernel_rfl) (by kernel_rfl) (by kernel_rfl) (fun _ _ _ h => h) (Or.inl ⟨by rfl, fun wq hSw => by (try dsimp only at hSw); go_simp⟩) hHeld ?_
              try simp only [Act.put, List.getElem_toArray, List.getElem_cons_succ, List.getElem_cons_zero, List.setIfInBounds_toArray, List.set_cons_zero, List.set_cons_succ]
              have q4 := at_cells bx (j := 4) rfl
              have f4 := rw_cells bx 4
              refine wpAnyH_ready (rs := [10]) (by kernel_rfl) (by simp) ?_
              refine (AllReadyH.cons rfl (fun K hK => ?_) AllReadyH.nil)
              go_simp
              refine hK.out _ _ trivial (fun hHeld => ?_)
              clear hK K
              try simp only [Act.put, List.getElem_toArray, List.getElem_cons_succ, List.getElem_cons_zero, List.setIfInBounds_toArray, List.set_cons_zero, List.set_cons_succ]
              obtain ⟨Y46, hZ⟩ : ∃ Z, Kp (Z = Y45.setCell ⟨Bd, 4, none⟩ (.slice (some ⟨b5, 0, none⟩) M M)) := ⟨_, ⟨rfl⟩⟩
              rw [← hZ.out]
              have ez : ∀ k, k ≠ Bd → Y46.heap[k]? = Y45.heap[k]? := fun k hk => by rw [hZ.out]; exact heap_set _ _ _ _ _ hk
              have bz : Y46.heap[Bd]? = some (Go.Obj.cells #[.slice (some ⟨b1, 0, none⟩) M c1, .slice (some ⟨b2, 0, none⟩) M c2, .slice (some ⟨b3, 0, none⟩) nb nb, .slice (some ⟨b4, 0, none⟩) M M, .slice (some ⟨b5, 0, none⟩) M M, .slice none 0 0] 58 (0, 0)) := by rw [hZ.out]; exact (set_cells bx 4 _).trans rfl
              replace hb : Below Bd X0 Y46 := ⟨by rw [hZ.out]; exact hb.os, by rw [hZ.out]; exact hb.tape, by rw [hZ.out]; exact hb.output, by rw [hZ.out]; simpa [World.setCell] using hb.size, fun k hk => (ez k (by omega)).trans (hb.block k hk)⟩
              replace bx := bz
              replace sz : Bd < Y46.heap.size := (Array.getElem?_eq_some_iff.1 bz).1
              clear bz
              replace rA := rA.same (ez _ (by omega))
              replace r6 := r6.same (ez _ (by omega))
              replace rB := rB.same (ez _ (by omega))
              clear ez q4 f4
              refine wpAnyH_take (i := 11) (v := .pointer (some ⟨Bd, 5, none⟩)) rfl (by kernel_rfl) (by kernel_rfl) (by kernel_rfl) (fun _ _ _ h => h) (Or.inl ⟨by rfl, fun wq hSw => by (try dsimp only at hSw); go_simp⟩) hHeld ?_
              try simp only [Act.put, List.getElem_toArray, List.getElem_cons_succ, List.getElem_cons_zero, List.setIfInBounds_toArray, List.set_cons_zero, List.set_cons_succ]
              have q5 := at_cells bx (j := 5) rfl
              have f5 := rw_cells bx 5
              refine wpAnyH_ready (rs := [12]) (by kernel_rfl) (by simp) ?_
              refine (AllReadyH.cons rfl (fun K hK => ?_) AllReadyH.nil)
              go_simp
              refine hK.out _ _ trivial (fun hHeld => ?_)
              clear hK K
              try simp only [Act.put, List.getElem_toArray, List.getElem_cons_succ, List.getElem_cons_zero, List.setIfInBounds_toArray, List.set_cons_zero, List.set_cons_succ]
              obtain ⟨Y47, hZ⟩ : ∃ Z, Kp (Z = Y46.setCell ⟨Bd, 5, none⟩ (.slice (some ⟨b6, 0, none⟩) M M)) := ⟨_, ⟨rfl⟩⟩
              rw [← hZ.out]
              have ez : ∀ k, k ≠ Bd → Y47.heap[k]? = Y46.heap[k]? := fun k hk => by rw [hZ.out]; exact heap_set _ _ _ _ _ hk
              have bz : Y47.heap[Bd]? = some (Go.Obj.cells #[.slice (some ⟨b1, 0, none⟩) M c1, .slice (some ⟨b2, 0, none⟩) M c2, .slice (some ⟨b3, 0, none⟩) nb nb, .slice (some ⟨b4, 0, none⟩) M M, .slice (some ⟨b5, 0, none⟩) M M, .slice (some ⟨b6, 0, none⟩) M M] 58 (0, 0)) := by rw [hZ.out]; exact (set_cells bx 5 _).trans rfl
              replace hb : Below Bd X0 Y47 := ⟨by rw [hZ.out]; exact hb.os, by rw [hZ.out]; exact hb.tape, by rw [hZ.out]; exact hb.output, by rw [hZ.out]; simpa [World.setCell] using hb.size, fun k hk => (ez k (by omega)).trans (hb.block k hk)⟩
              replace bx := bz
              replace sz : Bd < Y47.heap.size := (Array.getElem?_eq_some_iff.1 bz).1
              clear bz
              replace rA := rA.same (ez _ (by omega))
              replace r6 := r6.same (ez _ (by omega))
              replace rB := rB.same (ez _ (by omega))
              clear ez q5 f5
              refine wpAnyH_done (by kernel_rfl) ?_ _
              replace hb := Kp.mk hb
              replace bx := Kp.mk bx
              replace rA := Kp.mk rA
              replace rB := Kp.mk rB
              replace r6 := Kp.mk r6
              go_wp2_with fail
              go_meet
              exact ⟨b4, b5, b6, bx.out, rA.out, rB.out, r6.out, by omega, by omega, by omega, g_b4, g_b5, g_b6, hb.out⟩
        · go_simp
          refine (CR.out _ _ rC).mono ?_
          rintro e Y48 ⟨rfl, r6, kz⟩
          refine hK.out _ _ trivial (fun hHeld => ?_)
          clear hK K
          try simp only [Act.put, List.getElem_toArray, List.getElem_cons_succ, List.getElem_cons_zero, List.setIfInBounds_toArray, List.set_cons_zero, List.set_cons_succ]
          obtain ⟨b6, hb_b6⟩ : ∃ b, Kp (Y42.heap.size = b) := ⟨_, ⟨rfl⟩⟩
          rw [hb_b6.out]
          rw [hb_b6.out] at r6
          have g_b6 : Bd < b6 := by have := hb_b6.out; omega
          have n_b4_b6 : b4 ≠ b6 := by have h1 := hb_b6.out; have h2 := rA.lt; omega
          replace rA := rA.keep kz
          replace hb := hb.trans (kz.mono (by omega))
          replace bx := keep_cells bx kz
          replace sz : Bd < Y48.heap.size := by have := kz.size; omega
          clear kz rC
          refine wpAnyH_ready (rs := [3, 8]) (by kernel_rfl) (by simp) ?_
          refine (AllReadyH.cons rfl (fun K hK => ?_) (AllReadyH.cons rfl (fun K hK => ?_) AllReadyH.nil))
          · go_simp
            refine hK.out _ _ trivial (fun hHeld => ?_)
            clear hK K
            try simp only [Act.put, List.getElem_toArray, List.getElem_cons_succ, List.getElem_cons_zero, List.setIfInBounds_toArray, List.set_cons_zero, List.set_cons_succ]
            obtain ⟨Y49, hZ⟩ : ∃ Z, Kp (Z = Y48.alloc O) := ⟨_, ⟨rfl⟩⟩
            rw [← hZ.out]
            have kz : Below Y48.heap.size Y48 Y49 := by rw [hZ.out]; exact bel_alloc _ _
            have rn : RowI Y49 Y48.heap.size M (fun _ => 0) := by rw [hZ.out]; exact hRO.out Y48
            obtain ⟨b5, hb_b5⟩ : ∃ b, Kp (Y48.heap.size = b) := ⟨_, ⟨rfl⟩⟩
            rw [hb_b5.out]
            rw [hb_b5.out] at rn
            have g_b5 : Bd < b5 := by have := hb_b5.out; omega
            have n_b4_b5 : b4 ≠ b5 := by have h1 := hb_b5.out; have h2 := rA.lt; omega
            have n_b6_b5 : b6 ≠ b5 := by have h1 := hb_b5.out; have h2 := r6.lt; omega
            replace rA := rA.keep kz
            replace r6 := r6.keep kz
            replace hb := hb.trans (kz.mono (by omega))
            replace bx := keep_cells bx kz
            replace sz : Bd < Y49.heap.size := by have := kz.size; omega
            have rB := rn
            clear rn kz
            refine wpAnyH_ready (rs := [8]) (by kernel_rfl) (by simp) ?_
            refine (AllReadyH.cons rfl (fun K hK => ?_) AllReadyH.nil)
            · have q3 := at_cells bx (j := 3) rfl
              have f3 := rw_cells bx 3
              go_simp
              refine hK.out _ _ trivial (fun hHeld => ?_)
              clear hK K
              try simp only [Act.put, List.getElem_toArray, List.getElem_cons_succ, List.getElem_cons_zero, List.setIfInBounds_toArray, List.set_cons_zero, List.set_cons_succ]
              obtain ⟨Y50, hZ⟩ : ∃ Z, Kp (Z = Y49.setCell ⟨Bd, 3, none⟩ (.slice (some ⟨b4, 0, none⟩) M M)) := ⟨_, ⟨rfl⟩⟩
              rw [← hZ.out]
              have ez : ∀ k, k ≠ Bd → Y50.heap[k]? = Y49.heap[k]? := fun k hk => by rw [hZ.out]; exact heap_set _ _ _ _ _ hk
              have bz : Y50.heap[Bd]? = some (Go.Obj.cells #[.slice (some ⟨b1, 0, none⟩) M c1, .slice (some ⟨b2, 0, none⟩) M c2, .slice (some ⟨b3, 0, none⟩) nb nb, .slice (some ⟨b4, 0, none⟩) M M, .slice none 0 0, .slice none 0 0] 58 (0, 0)) := by rw [hZ.out]; exact (set_cells bx 3 _).trans rfl
              replace hb : Below Bd X0 Y50 := ⟨by rw [hZ.out]; exact hb.os, by rw [hZ.out]; exact hb.tape, by rw [hZ.out]; exact hb.output, by rw [hZ.out]; simpa [World.setCell] using hb.size, fun k hk => (ez k (by omega)).trans (hb.block k hk)⟩
              replace bx := bz
              replace sz : Bd < Y50.heap.size := (Array.getElem?_eq_some_iff.1 bz).1
              clear bz
              replace rA := rA.same (ez _ (by omega))
              replace r6 := r6.same (ez _ (by omega))
              replace rB := rB.same (ez _ (by omega))
              clear ez q3 f3
              refine wpAnyH_take (i := 9) (v := .pointer (some ⟨Bd, 4, none⟩)) rfl (by kernel_rfl) (by kernel_rfl) (by kernel_rfl) (fun _ _ _ h => h) (Or.inl ⟨by rfl, fun wq hSw => by (try dsimp only at hSw); go_simp⟩) hHeld ?_
              try simp only [Act.put, List.getElem_toArray, List.getElem_cons_succ, List.getElem_cons_zero, List.setIfInBounds_toArray, List.set_cons_zero, List.set_cons_succ]
              have q4 := at_cells bx (j := 4) rfl
              have f4 := rw_cells bx 4
              refine wpAnyH_ready (rs := [10]) (by kernel_rfl) (by simp) ?_
              refine (AllReadyH.cons rfl (fun K hK => ?_) AllReadyH.nil)
              go_simp
              refine hK.out _ _ trivial (fun hHeld => ?_)
              clear hK K
              try simp only [Act.put, List.getElem_toArray, List.getElem_cons_succ, List.getElem_cons_zero, List.setIfInBounds_toArray, List.set_cons_zero, List.set_cons_succ]
              obtain ⟨Y51, hZ⟩ : ∃ Z, Kp (Z = Y50.setCell ⟨Bd, 4, none⟩ (.slice (some ⟨b5, 0, none⟩) M M)) := ⟨_, ⟨rfl⟩⟩
              rw [← hZ.out]
              have ez : ∀ k, k ≠ Bd → Y51.heap[k]? = Y50.heap[k]? := fun k hk => by rw [hZ.out]; exact heap_set _ _ _ _ _ hk
              have bz : Y51.heap[Bd]? = some (Go.Obj.cells #[.slice (some ⟨b1, 0, none⟩) M c1, .slice (some ⟨b2, 0, none⟩) M c2, .slice (some ⟨b3, 0, none⟩) nb nb, .slice (some ⟨b4, 0, none⟩) M M, .slice (some ⟨b5, 0, none⟩) M M, .slice none 0 0] 58 (0, 0)) := by rw [hZ.out]; exact (set_cells bx 4 _).trans rfl
              replace hb : Below Bd X0 Y51 := ⟨by rw [hZ.out]; exact hb.os, by rw [hZ.out]; exact hb.tape, by rw [hZ.out]; exact hb.output, by rw [hZ.out]; simpa [World.setCell] using hb.size, fun k hk => (ez k (by omega)).trans (hb.block k hk)⟩
              replace bx := bz
              replace sz : Bd < Y51.heap.size := (Array.getElem?_eq_some_iff.1 bz).1
              clear bz
              replace rA := rA.same (ez _ (by omega))
              replace r6 := r6.same (ez _ (by omega))
              replace rB := rB.same (ez _ (by omega))
              clear ez q4 f4
              refine wpAnyH_take (i := 11) (v := .pointer (some ⟨Bd, 5, none⟩)) rfl (by kernel_rfl) (by kernel_rfl) (by kernel_rfl) (fun _ _ _ h => h) (Or.inl ⟨by rfl, fun wq hSw => by (try dsimp only at hSw); go_simp⟩) hHeld ?_
              try simp only [Act.put, List.getElem_toArray, List.getElem_cons_succ, List.getElem_cons_zero, List.setIfInBounds_toArray, List.set_cons_zero, List.set_cons_succ]
              have q5 := at_cells bx (j := 5) rfl
              have f5 := rw_cells bx 5
              refine wpAnyH_ready (rs := [12]) (by kernel_rfl) (by simp) ?_
              refine (AllReadyH.cons rfl (fun K hK => ?_) AllReadyH.nil)
              go_simp
              refine hK.out _ _ trivial (fun hHeld => ?_)
              clear hK K
              try simp only [Act.put, List.getElem_toArray, List.getElem_cons_succ, List.getElem_cons_zero, List.setIfInBounds_toArray, List.set_cons_zero, List.set_cons_succ]
              obtain ⟨Y52, hZ⟩ : ∃ Z, Kp (Z = Y51.setCell ⟨Bd, 5, none⟩ (.slice (some ⟨b6, 0, none⟩) M M)) := ⟨_, ⟨rfl⟩⟩
              rw [← hZ.out]
              have ez : ∀ k, k ≠ Bd → Y52.heap[k]? = Y51.heap[k]? := fun k hk => by rw [hZ.out]; exact heap_set _ _ _ _ _ hk
              have bz : Y52.heap[Bd]? = some (Go.Obj.cells #[.slice (some ⟨b1, 0, none⟩) M c1, .slice (some ⟨b2, 0, none⟩) M c2, .slice (some ⟨b3, 0, none⟩) nb nb, .slice (some ⟨b4, 0, none⟩) M M, .slice (some ⟨b5, 0, none⟩) M M, .slice (some ⟨b6, 0, none⟩) M M] 58 (0, 0)) := by rw [hZ.out]; exact (set_cells bx 5 _).trans rfl
              replace hb : Below Bd X0 Y52 := ⟨by rw [hZ.out]; exact hb.os, by rw [hZ.out]; exact hb.tape, by rw [hZ.out]; exact hb.output, by rw [hZ.out]; simpa [World.setCell] using hb.size, fun k hk => (ez k (by omega)).trans (hb.block k hk)⟩
              replace bx := bz
              replace sz : Bd < Y52.heap.size := (Array.getElem?_eq_some_iff.1 bz).1
              clear bz
              replace rA := rA.same (ez _ (by omega))
              replace r6 := r6.same (ez _ (by omega))
              replace rB := rB.same (ez _ (by omega))
              clear ez q5 f5
              refine wpAnyH_done (by kernel_rfl) ?_ _
              replace hb := Kp.mk hb
              replace bx := Kp.mk bx
              replace rA := Kp.mk rA
              replace rB := Kp.mk rB
              replace r6 := Kp.mk r6
              go_wp2_with fail
              go_meet
              exact ⟨b4, b5, b6, bx.out, rA.out, rB.out, r6.out, by omega, by omega, by omega, g_b4, g_b5, g_b6, hb.out⟩
          · have q3 := at_cells bx (j := 3) rfl
            have f3 := rw_cells bx 3
            go_simp
            refine hK.out _ _ trivial (fun hHeld => ?_)
            clear hK K
            try simp only [Act.put, List.getElem_toArray, List.getElem_cons_succ, List.getElem_cons_zero, List.setIfInBounds_toArray, List.set_cons_zero, List.set_cons_succ]
            obtain ⟨Y53, hZ⟩ : ∃ Z, Kp (Z = Y48.setCell ⟨Bd, 3, none⟩ (.slice (some ⟨b4, 0, none⟩) M M)) := ⟨_, ⟨rfl⟩⟩
            rw [← hZ.out]
            have ez : ∀ k, k ≠ Bd → Y53.heap[k]? = Y48.heap[k]? := fun k hk => by rw [hZ.out]; exact heap_set _ _ _ _ _ hk
            have bz : Y53.heap[Bd]? = some (Go.Obj.cells #[.slice (some ⟨b1, 0, none⟩) M c1, .slice (some ⟨b2, 0, none⟩) M c2, .slice (some ⟨b3, 0, none⟩) nb nb, .slice (some ⟨b4, 0, none⟩) M M, .slice none 0 0, .slice none 0 0] 58 (0, 0)) := by rw [hZ.out]; exact (set_cells bx 3 _).trans rfl
            replace hb : Below Bd X0 Y53 := ⟨by rw [hZ.out]; exact hb.os, by rw [hZ.out]; exact hb.tape, by rw [hZ.out]; exact hb.output, by rw [hZ.out]; simpa [World.setCell] using hb.size, fun k hk => (ez k (by omega)).trans (hb.block k hk)⟩
            replace bx := bz
            replace sz : Bd < Y53.heap.size := (Array.getElem?_eq_some_iff.1 bz).1
            clear bz
            replace rA := rA.same (ez _ (by omega))
            replace r6 := r6.same (ez _ (by omega))
            clear ez q3 f3
            refine wpAnyH_ready (rs := [3]) (by kernel_rfl) (by simp) ?_
            refine (AllReadyH.cons rfl (fun K hK => ?_) AllReadyH.nil)
            · go_simp
              refine hK.out _ _ trivial (fun hHeld => ?_)
              clear hK K
              try simp only [Act.put, List.getElem_toArray, List.getElem_cons_succ, List.getElem_cons_zero, List.setIfInBounds_toArray, List.set_cons_zero, List.set_cons_succ]
              obtain ⟨Y54, hZ⟩ : ∃ Z, Kp (Z = Y53.alloc O) := ⟨_, ⟨rfl⟩⟩
              rw [← hZ.out]
              have kz : Below Y53.heap.size Y53 Y54 := by rw [hZ.out]; exact bel_alloc _ _
              have rn : RowI Y54 Y53.heap.size M (fun _ => 0) := by rw [hZ.out]; exact hRO.out Y53
              obtain ⟨b5, hb_b5⟩ : ∃ b, Kp (Y53.heap.size = b) := ⟨_, ⟨rfl⟩⟩
              rw [hb_b5.out]
              rw [hb_b5.out] at rn
              have g_b5 : Bd < b5 := by have := hb_b5.out; omega
              have n_b4_b5 : b4 ≠ b5 := by have h1 := hb_b5.out; have h2 := rA.lt; omega
              have n_b6_b5 : b6 ≠ b5 := by have h1 := hb_b5.out; have h2 := r6.lt; omega
              replace rA := rA.keep kz
              replace r6 := r6.keep kz
              replace hb := hb.trans (kz.mono (by omega))
              replace bx := keep_cells bx kz
              replace sz : Bd < Y54.heap.size := by have := kz.size; omega
              have rB := rn
              clear rn kz
              refine wpAnyH_take (i := 9) (v := .pointer (some ⟨Bd, 4, none⟩)) rfl (by kernel_rfl) (by kernel_rfl) (by kernel_rfl) (fun _ _ _ h => h) (Or.inl ⟨by rfl, fun wq hSw => by (try dsimp only at hSw); go_simp⟩) hHeld ?_
              try simp only [Act.put, List.getElem_toArray, List.getElem_cons_succ, List.getElem_cons_zero, List.setIfInBounds_toArray, List.set_cons_zero, List.set_cons_succ]
              have q4 := at_cells bx (j := 4) rfl
              have f4 := rw_cells bx 4
              refine wpAnyH_ready (rs := [10]) (by kernel_rfl) (by simp) ?_
              refine (AllReadyH.cons rfl (fun K hK => ?_) AllReadyH.nil)
              go_simp
              refine hK.out _ _ trivial (fun hHeld => ?_)
              clear hK K
              try simp only [Act.put, List.getElem_toArray, List.getElem_cons_succ, List.getElem_cons_zero, List.setIfInBounds_toArray, List.set_cons_zero, List.set_cons_succ]
              obtain ⟨Y55, hZ⟩ : ∃ Z, Kp (Z = Y54.setCell ⟨Bd, 4, none⟩ (.slice (some ⟨b5, 0, none⟩) M M)) := ⟨_, ⟨rfl⟩⟩
              rw [← hZ.out]
              have ez : ∀ k, k ≠ Bd → Y55.heap[k]? = Y54.heap[k]? := fun k hk => by rw [hZ.out]; exact heap_set _ _ _ _ _ hk
              have bz : Y55.heap[Bd]? = some (Go.Obj.cells #[.slice (some ⟨b1, 0, none⟩) M c1, .slice (some ⟨b2, 0, none⟩) M c2, .slice (some ⟨b3, 0, none⟩) nb nb, .slice (some ⟨b4, 0, none⟩) M M, .slice (some ⟨b5, 0, none⟩) M M, .slice none 0 0] 58 (0, 0)) := by rw [hZ.out]; exact (set_cells bx 4 _).trans rfl
              replace hb : Below Bd X0 Y55 := ⟨by rw [hZ.out]; exact hb.os, by rw [hZ.out]; exact hb.tape, by rw [hZ.out]; exact hb.output, by rw [hZ.out]; simpa [World.setCell] using hb.size, fun k hk => (ez k (by omega)).trans (hb.block k hk)⟩
              replace bx := bz
              replace sz : Bd < Y55.heap.size := (Array.getElem?_eq_some_iff.1 bz).1
              clear bz
              replace rA := rA.same (ez _ (by omega))
              replace r6 := r6.same (ez _ (by omega))
              replace rB := rB.same (ez _ (by omega))
              clear ez q4 f4
              refine wpAnyH_take (i := 11) (v := .pointer (some ⟨Bd, 5, none⟩)) rfl (by kernel_rfl) (by kernel_rfl) (by kernel_rfl) (fun _ _ _ h => h) (Or.inl ⟨by rfl, fun wq hSw => by (try dsimp only at hSw); go_simp⟩) hHeld ?_
              try simp only [Act.put, List.getElem_toArray, List.getElem_cons_succ, List.getElem_cons_zero, List.setIfInBounds_toArray, List.set_cons_zero, List.set_cons_succ]
              have q5 := at_cells bx (j := 5) rfl
              have f5 := rw_cells bx 5
              refine wpAnyH_ready (rs := [12]) (by kernel_rfl) (by simp) ?_
              refine (AllReadyH.cons rfl (fun K hK => ?_) AllReadyH.nil)
              go_simp
              refine hK.out _ _ trivial (fun hHeld => ?_)
              clear hK K
              try simp only [Act.put, List.getElem_toArray, List.getElem_cons_succ, List.getElem_cons_zero, List.setIfInBounds_toArray, List.set_cons_zero, List.set_cons_succ]
              obtain ⟨Y56, hZ⟩ : ∃ Z, Kp (Z = Y55.setCell ⟨Bd, 5, none⟩ (.slice (some ⟨b6, 0, none⟩) M M)) := ⟨_, ⟨rfl⟩⟩
              rw [← hZ.out]
              have ez : ∀ k, k ≠ Bd → Y56.heap[k]? = Y55.heap[k]? := fun k hk => by rw [hZ.out]; exact heap_set _ _ _ _ _ hk
              have bz : Y56.heap[Bd]? = some (Go.Obj.cells #[.slice (some ⟨b1, 0, none⟩) M c1, .slice (some ⟨b2, 0, none⟩) M c2, .slice (some ⟨b3, 0, none⟩) nb nb, .slice (some ⟨b4, 0, none⟩) M M, .slice (some ⟨b5, 0, none⟩) M M, .slice (some ⟨b6, 0, none⟩) M M] 58 (0, 0)) := by rw [hZ.out]; exact (set_cells bx 5 _).trans rfl
              replace hb : Below Bd X0 Y56 := ⟨by rw [hZ.out]; exact hb.os, by rw [hZ.out]; exact hb.tape, by rw [hZ.out]; exact hb.output, by rw [hZ.out]; simpa [World.setCell] using hb.size, fun k hk => (ez k (by omega)).trans (hb.block k hk)⟩
              replace bx := bz
              replace sz : Bd < Y56.heap.size := (Array.getElem?_eq_some_iff.1 bz).1
              clear bz
              replace rA := rA.same (ez _ (by omega))
              replace r6 := r6.same (ez _ (by omega))
              replace rB := rB.same (ez _ (by omega))
              clear ez q5 f5
              refine wpAnyH_done (by kernel_rfl) ?_ _
              replace hb := Kp.mk hb
              replace bx := Kp.mk bx
              replace rA := Kp.mk rA
              replace rB := Kp.mk rB
              replace r6 := Kp.mk r6
              go_wp2_with fail
              go_meet
              exact ⟨b4, b5, b6, bx.out, rA.out, rB.out, r6.out, by omega, by omega, by omega, g_b4, g_b5, g_b6, hb.out⟩
      · go_simp
        refine hK.out _ _ trivial (fun hHeld => ?_)
        clear hK K
        try simp only [Act.put, List.getElem_toArray, List.getElem_cons_succ, List.getElem_cons_zero, List.setIfInBounds_toArray, List.set_cons_zero, List.set_cons_succ]
        obtain ⟨Y57, hZ⟩ : ∃ Z, Kp (Z = Y41.alloc O) := ⟨_, ⟨rfl⟩⟩
        rw [← hZ.out]
        have kz : Below Y41.heap.size Y41 Y57 := by rw [hZ.out]; exact bel_alloc _ _
        have rn : RowI Y57 Y41.heap.size M (fun _ => 0) := by rw [hZ.out]; exact hRO.out Y41
        obtain ⟨b5, hb_b5⟩ : ∃ b, Kp (Y41.heap.size = b) := ⟨_, ⟨rfl⟩⟩
        rw [hb_b5.out]
        rw [hb_b5.out] at rn
        have g_b5 : Bd < b5 := by have := hb_b5.out; omega
        replace rC := at_keep rC kz
        replace hb := hb.trans (kz.mono (by omega))
        replace bx := keep_cells bx kz
        replace sz : Bd < Y57.heap.size := by have := kz.size; omega
        have rB := rn
        clear rn kz
        refine wpAnyH_ready (rs := [1, 6]) (by kernel_rfl) (by simp) ?_
        refine (AllReadyH.cons rfl (fun K hK => ?_) (AllReadyH.cons rfl (fun K hK => ?_) AllReadyH.nil))
        · go_simp
          refine hK.out _ _ trivial (fun hHeld => ?_)
          clear hK K
          try simp only [Act.put, List.getElem_toArray, List.getElem_cons_succ, List.getElem_cons_zero, List.setIfInBounds_toArray, List.set_cons_zero, List.set_cons_succ]
          obtain ⟨Y58, hZ⟩ : ∃ Z, Kp (Z = Y57.alloc O) := ⟨_, ⟨rfl⟩⟩
          rw [← hZ.out]
          have kz : Below Y57.heap.size Y57 Y58 := by rw [hZ.out]; exact bel_alloc _ _
          have rn : RowI Y58 Y57.heap.size M (fun _ => 0) := by rw [hZ.out]; exact hRO.out Y57
          obtain ⟨b4, hb_b4⟩ : ∃ b, Kp (Y57.heap.size = b) := ⟨_, ⟨rfl⟩⟩
          rw [hb_b4.out]
          rw [hb_b4.out] at rn
          have g_b4 : Bd < b4 := by have := hb_b4.out; omega
          have n_b5_b4 : b5 ≠ b4 := by have h1 := hb_b4.out; have h2 := rB.lt; omega
          replace rB := rB.keep kz
          replace rC := at_keep rC kz
          replace hb := hb.trans (kz.mono (by omega))
          replace bx := keep_cells bx kz
          replace sz : Bd < Y58.heap.size := by have := kz.size; omega
          have rA := rn
          clear rn kz
          refine wpAnyH_take (i := 7) (v := .pointer (some ⟨Bd, 3, none⟩)) rfl (by kernel_rfl) (by kernel_rfl) (by kernel_rfl) (fun _ _ _ h => h) (Or.inl ⟨by rfl, fun wq hSw => by (try dsimp only at hSw); go_simp⟩) hHeld ?_
          try simp only [Act.put, List.getElem_toArray, List.getElem_cons_succ, List.getElem_cons_zero, List.setIfInBounds_toArray, List.set_cons_zero, List.set_cons_succ]
          refine wpAnyH_ready (rs := [6]) (by kernel_rfl) (by simp) ?_
          refine (AllReadyH.cons rfl (fun K hK => ?_) AllReadyH.nil)
          · go_simp
            refine (CR.out _ _ rC).mono ?_
            rintro e Y59 ⟨rfl, r6, kz⟩
            refine hK.out _ _ trivial (fun hHeld => ?_)
            clear hK K
            try simp only [Act.put, List.getElem_toArray, List.getElem_cons_succ, List.getElem_cons_zero, List.setIfInBounds_toArray, List.set_cons_zero, List.set_cons_succ]
            obtain ⟨b6, hb_b6⟩ : ∃ b, Kp (Y58.heap.size = b) := ⟨_, ⟨rfl⟩⟩
            rw [hb_b6.out]
            rw [hb_b6.out] at r6
            have g_b6 : Bd < b6 := by have := hb_b6.out; omega
            have n_b4_b6 : b4 ≠ b6 := by have h1 := hb_b6.out; have h2 := rA.lt; omega
            have n_b5_b6 : b5 ≠ b6 := by have h1 := hb_b6.out; have h2 := rB.lt; omega
            replace rA := rA.keep kz
            replace rB := rB.keep kz
            replace hb := hb.trans (kz.mono (by omega))
            replace bx := keep_cells bx kz
            replace sz : Bd < Y59.heap.size := by have := kz.size; omega
            clear kz rC
            refine wpAnyH_ready (rs := [8]) (by kernel_rfl) (by simp) ?_
            refine (AllReadyH.cons rfl (fun K hK => ?_) AllReadyH.nil)
            · have q3 := at_cells bx (j := 3) rfl
              have f3 := rw_cells bx 3
              go_simp
              refine hK.out _ _ trivial (fun hHeld => ?_)
              clear hK K
              try simp only [Act.put, List.getElem_toArray, List.getElem_cons_succ, List.getElem_cons_zero, List.setIfInBounds_toArray, List.set_cons_zero, List.set_cons_succ]
              obtain ⟨Y60, hZ⟩ : ∃ Z, Kp (Z = Y59.setCell ⟨Bd, 3, none⟩ (.slice (some ⟨b4, 0, none⟩) M M)) := ⟨_, ⟨rfl⟩⟩
              rw [← hZ.out]
              have ez : ∀ k, k ≠ Bd → Y60.heap[k]? = Y59.heap[k]? := fun k hk => by rw [hZ.out]; exact heap_set _ _ _ _ _ hk
              have bz : Y60.heap[Bd]? = some (Go.Obj.cells #[.slice (some ⟨b1, 0, none⟩) M c1, .slice (some ⟨b2, 0, none⟩) M c2, .slice (some ⟨b3, 0, none⟩) nb nb, .slice (some ⟨b4, 0, none⟩) M M, .slice none 0 0, .slice none 0 0] 58 (0, 0)) := by rw [hZ.out]; exact (set_cells bx 3 _).trans rfl
              replace hb : Below Bd X0 Y60 := ⟨by rw [hZ.out]; exact hb.os, by rw [hZ.out]; exact hb.tape, by rw [hZ.out]; exact hb.output, by rw [hZ.out]; simpa [World.setCell] using hb.size, fun k hk => (ez k (by omega)).trans (hb.block k hk)⟩
              replace bx := bz
              replace sz : Bd < Y60.heap.size := (Array.getElem?_eq_some_iff.1 bz).1
              clear bz
              replace rA := rA.same (ez _ (by omega))
              replace r6 := r6.same (ez _ (by omega))
              replace rB := rB.same (ez _ (by omega))
              clear ez q3 f3
              refine wpAnyH_take (i := 9) (v := .pointer (some ⟨Bd, 4, none⟩)) rfl (by kernel_rfl) (by kernel_rfl) (by kernel_rfl) (fun _ _ _ h => h) (Or.inl ⟨by rfl, fun wq hSw => by (try dsimp only at hSw); go_simp⟩) hHeld ?_
              try simp only [Act.put, List.getElem_toArray, List.getElem_cons_succ, List.getElem_cons_zero, List.setIfInBounds_toArray, List.set_cons_zero, List.set_cons_succ]
              have q4 := at_cells bx (j := 4) rfl
              have f4 := rw_cells bx 4
              refine wpAnyH_ready (rs := [10]) (by kernel_rfl) (by simp) ?_
              refine (AllReadyH.cons rfl (fun K hK => ?_) AllReadyH.nil)
              go_simp
              refine hK.out _ _ trivial (fun hHeld => ?_)
              clear hK K
              try simp only [Act.put, List.getElem_toArray, List.getElem_cons_succ, List.getElem_cons_zero, List.setIfInBounds_toArray, List.set_cons_zero, List.set_cons_succ]
              obtain ⟨Y61, hZ⟩ : ∃ Z, Kp (Z = Y60.setCell ⟨Bd, 4, none⟩ (.slice (some ⟨b5, 0, none⟩) M M)) := ⟨_, ⟨rfl⟩⟩
              rw [← hZ.out]
              have ez : ∀ k, k ≠ Bd → Y61.heap[k]? = Y60.heap[k]? := fun k hk => by rw [hZ.out]; exact heap_set _ _ _ _ _ hk
              have bz : Y61.heap[Bd]? = some (Go.Obj.cells #[.slice (some ⟨b1, 0, none⟩) M c1, .slice (some ⟨b2, 0, none⟩) M c2, .slice (some ⟨b3, 0, none⟩) nb nb, .slice (some ⟨b4, 0, none⟩) M M, .slice (some ⟨b5, 0, none⟩) M M, .slice none 0 0] 58 (0, 0)) := by rw [hZ.out]; exact (set_cells bx 4 _).trans rfl
              replace hb : Below Bd X0 Y61 := ⟨by rw [hZ.out]; exact hb.os, by rw [hZ.out]; exact hb.tape, by rw [hZ.out]; exact hb.output, by rw [hZ.out]; simpa [World.setCell] using hb.size, fun k hk => (ez k (by omega)).trans (hb.block k hk)⟩
              replace bx := bz
              replace sz : Bd < Y61.heap.size := (Array.getElem?_eq_some_iff.1 bz).1
              clear bz
              replace rA := rA.same (ez _ (by omega))
              replace r6 := r6.same (ez _ (by omega))
              replace rB := rB.same (ez _ (by omega))
              clear ez q4 f4
              refine wpAnyH_take (i := 11) (v := .pointer (some ⟨Bd, 5, none⟩)) rfl (by kernel_rfl) (by kernel_rfl) (by kernel_rfl) (fun _ _ _ h => h) (Or.inl ⟨by rfl, fun wq hSw => by (try dsimp only at hSw); go_simp⟩) hHeld ?_
              try simp only [Act.put, List.getElem_toArray, List.getElem_cons_succ, List.getElem_cons_zero, List.setIfInBounds_toArray, List.set_cons_zero, List.set_cons_succ]
              have q5 := at_cells bx (j := 5) rfl
              have f5 := rw_cells bx 5
              refine wpAnyH_ready (rs := [12]) (by kernel_rfl) (by simp) ?_
              refine (AllReadyH.cons rfl (fun K hK => ?_) AllReadyH.nil)
              go_simp
              refine hK.out _ _ trivial (fun hHeld => ?_)
              clear hK K
              try simp only [Act.put, List.getElem_toArray, List.getElem_cons_succ, List.getElem_cons_zero, List.setIfInBounds_toArray, List.set_cons_zero, List.set_cons_succ]
              obtain ⟨Y62, hZ⟩ : ∃ Z, Kp (Z = Y61.setCell ⟨Bd, 5, none⟩ (.slice (some ⟨b6, 0, none⟩) M M)) := ⟨_, ⟨rfl⟩⟩
              rw [← hZ.out]
              have ez : ∀ k, k ≠ Bd → Y62.heap[k]? = Y61.heap[k]? := fun k hk => by rw [hZ.out]; exact heap_set _ _ _ _ _ hk
              have bz : Y62.heap[Bd]? = some (Go.Obj.cells #[.slice (some ⟨b1, 0, none⟩) M c1, .slice (some ⟨b2, 0, none⟩) M c2, .slice (some ⟨b3, 0, none⟩) nb nb, .slice (some ⟨b4, 0, none⟩) M M, .slice (some ⟨b5, 0, none⟩) M M, .slice (some ⟨b6, 0, none⟩) M M] 58 (0, 0)) := by rw [hZ.out]; exact (set_cells bx 5 _).trans rfl
              replace hb : Below Bd X0 Y62 := ⟨by rw [hZ.out]; exact hb.os, by rw [hZ.out]; exact hb.tape, by rw [hZ.out]; exact hb.output, by rw [hZ.out]; simpa [World.setCell] using hb.size, fun k hk => (ez k (by omega)).trans (hb.block k hk)⟩
              replace bx := bz
              replace sz : Bd < Y62.heap.size := (Array.getElem?_eq_some_iff.1 bz).1
              clear bz
              replace rA := rA.same (ez _ (by omega))
              replace r6 := r6.same (ez _ (by omega))
              replace rB := rB.same (ez _ (by omega))
              clear ez q5 f5
              refine wpAnyH_done (by kernel_rfl) ?_ _
              replace hb := Kp.mk hb
              replace bx := Kp.mk bx
              replace rA := Kp.mk rA
              replace rB := Kp.mk rB
              replace r6 := Kp.mk r6
              go_wp2_with fail
              go_meet
              exact ⟨b4, b5, b6, bx.out, rA.out, rB.out, r6.out, by omega, by omega, by omega, g_b4, g_b5, g_b6, hb.out⟩
        · go_simp
          refine (CR.out _ _ rC).mono ?_
          rintro e Y63 ⟨rfl, r6, kz⟩
          refine hK.out _ _ trivial (fun hHeld => ?_)
          clear hK K
          try simp only [Act.put, List.getElem_toArray, List.getElem_cons_succ, List.getElem_cons_zero, List.setIfInBounds_toArray, List.set_cons_zero, List.set_cons_succ]
          obtain ⟨b6, hb_b6⟩ : ∃ b, Kp (Y57.heap.size = b) := ⟨_, ⟨rfl⟩⟩
          rw [hb_b6.out]
          rw [hb_b6.out] at r6
          have g_b6 : Bd < b6 := by have := hb_b6.out; omega
          have n_b5_b6 : b5 ≠ b6 := by have h1 := hb_b6.out; have h2 := rB.lt; omega
          replace rB := rB.keep kz
          replace hb := hb.trans (kz.mono (by omega))
          replace bx := keep_cells bx kz
          replace sz : Bd < Y63.heap.size := by have := kz.size; omega
          clear kz rC
          refine wpAnyH_ready (rs := [1]) (by kernel_rfl) (by simp) ?_
          refine (AllReadyH.cons rfl (fun K hK => ?_) AllReadyH.nil)
          · go_simp
            refine hK.out _ _ trivial (fun hHeld => ?_)
            clear hK K
            try simp only [Act.put, List.getElem_toArray, List.getElem_cons_succ, List.getElem_cons_zero, List.setIfInBounds_toArray, List.set_cons_zero, List.set_cons_succ]
            obtain ⟨Y64, hZ⟩ : ∃ Z, Kp (Z = Y63.alloc O) := ⟨_, ⟨rfl⟩⟩
            rw [← hZ.out]
            have kz : Below Y63.heap.size Y63 Y64 := by rw [hZ.out]; exact bel_alloc _ _
            have rn : RowI Y64 Y63.heap.size M (fun _ => 0) := by rw [hZ.out]; exact hRO.out Y63
            obtain ⟨b4, hb_b4⟩ : ∃ b, Kp (Y63.heap.size = b) := ⟨_, ⟨rfl⟩⟩
            rw [hb_b4.out]
            rw [hb_b4.out] at rn
            have g_b4 : Bd < b4 := by have := hb_b4.out; omega
            have n_b5_b4 : b5 ≠ b4 := by have h1 := hb_b4.out; have h2 := rB.lt; omega
            have n_b6_b4 : b6 ≠ b4 := by have h1 := hb_b4.out; have h2 := r6.lt; omega
            replace rB := rB.keep kz
            replace r6 := r6.keep kz
            replace hb := hb.trans (kz.mono (by omega))
            replace bx := keep_cells bx kz
            replace sz : Bd < Y64.heap.size := by have := kz.size; omega
            have rA := rn
            clear rn kz
            refine wpAnyH_take (i := 7) (v := .pointer (some ⟨Bd, 3, none⟩)) rfl (by kernel_rfl) (by kernel_rfl) (by kernel_rfl) (fun _ _ _ h => h) (Or.inl ⟨by rfl, fun wq hSw => by (try dsimp only at hSw); go_simp⟩) hHeld ?_
            try simp only [Act.put, List.getElem_toArray, List.getElem_cons_succ, List.getElem_cons_zero, List.setIfInBounds_toArray, List.set_cons_zero, List.set_cons_succ]
            refine wpAnyH_ready (rs := [8]) (by kernel_rfl) (by simp) ?_
            refine (AllReadyH.cons rfl (fun K hK => ?_) AllReadyH.nil)
            · have q3 := at_cells bx (j := 3) rfl
              have f3 := rw_cells bx 3
              go_simp
              refine hK.out _ _ trivial (fun hHeld => ?_)
              clear hK K
              try simp only [Act.put, List.getElem_toArray, List.getElem_cons_succ, List.getElem_cons_zero, List.setIfInBounds_toArray, List.set_cons_zero, List.set_cons_succ]
              obtain ⟨Y65, hZ⟩ : ∃ Z, Kp (Z = Y64.setCell ⟨Bd, 3, none⟩ (.slice (some ⟨b4, 0, none⟩) M M)) := ⟨_, ⟨rfl⟩⟩
              rw [← hZ.out]
              have ez : ∀ k, k ≠ Bd → Y65.heap[k]? = Y64.heap[k]? := fun k hk => by rw [hZ.out]; exact heap_set _ _ _ _ _ hk
              have bz : Y65.heap[Bd]? = some (Go.Obj.cells #[.slice (some ⟨b1, 0, none⟩) M c1, .slice (some ⟨b2, 0, none⟩) M c2, .slice (some ⟨b3, 0, none⟩) nb nb, .slice (some ⟨b4, 0, none⟩) M M, .slice none 0 0, .slice none 0 0] 58 (0, 0)) := by rw [hZ.out]; exact (set_cells bx 3 _).trans rfl
              replace hb : Below Bd X0 Y65 := ⟨by rw [hZ.out]; exact hb.os, by rw [hZ.out]; exact hb.tape, by rw [hZ.out]; exact hb.output, by rw [hZ.out]; simpa [World.setCell] using hb.size, fun k hk => (ez k (by omega)).trans (hb.block k hk)⟩
              replace bx := bz
              replace sz : Bd < Y65.heap.size := (Array.getElem?_eq_some_iff.1 bz).1
              clear bz
              replace rA := rA.same (ez _ (by omega))
              replace r6 := r6.same (ez _ (by omega))
              replace rB := rB.same (ez _ (by omega))
              clear ez q3 f3
              refine wpAnyH_take (i := 9) (v := .pointer (some ⟨Bd, 4, none⟩)) rfl (by kernel_rfl) (by kernel_rfl) (by kernel_rfl) (fun _ _ _ h => h) (Or.inl ⟨by rfl, fun wq hSw => by (try dsimp only at hSw); go_simp⟩) hHeld ?_
              try simp only [Act.put, List.getElem_toArray, List.getElem_cons_succ, List.getElem_cons_zero, List.setIfInBounds_toArray, List.set_cons_zero, List.set_cons_succ]
              have q4 := at_cells bx (j := 4) rfl
              have f4 := rw_cells bx 4
              refine wpAnyH_ready (rs := [10]) (by kernel_rfl) (by simp) ?_
              refine (AllReadyH.cons rfl (fun K hK => ?_) AllReadyH.nil)
              go_simp
              refine hK.out _ _ trivial (fun hHeld => ?_)
              clear hK K
              try simp only [Act.put, List.getElem_toArray, List.getElem_cons_succ, List.getElem_cons_zero, List.setIfInBounds_toArray, List.set_cons_zero, List.set_cons_succ]
              obtain ⟨Y66, hZ⟩ : ∃ Z, Kp (Z = Y65.setCell ⟨Bd, 4, none⟩ (.slice (some ⟨b5, 0, none⟩) M M)) := ⟨_, ⟨rfl⟩⟩
              rw [← hZ.out]
              have ez : ∀ k, k ≠ Bd → Y66.heap[k]? = Y65.heap[k]? := fun k hk => by rw [hZ.out]; exact heap_set _ _ _ _ _ hk
              have bz : Y66.heap[Bd]? = some (Go.Obj.cells #[.slice (some ⟨b1, 0, none⟩) M c1, .slice (some ⟨b2, 0, none⟩) M c2, .slice (some ⟨b3, 0, none⟩) nb nb, .slice (some ⟨b4, 0, none⟩) M M, .slice (some ⟨b5, 0, none⟩) M M, .slice none 0 0] 58 (0, 0)) := by rw [hZ.out]; exact (set_cells bx 4 _).trans rfl
              replace hb : Below Bd X0 Y66 := ⟨by rw [hZ.out]; exact hb.os, by rw [hZ.out]; exact hb.tape, by rw [hZ.out]; exact hb.output, by rw [hZ.out]; simpa [World.setCell] using hb.size, fun k hk => (ez k (by omega)).trans (hb.block k hk)⟩
              replace bx := bz
              replace sz : Bd < Y66.heap.size := (Array.getElem?_eq_some_iff.1 bz).1
              clear bz
              replace rA := rA.same (ez _ (by omega))
              replace r6 := r6.same (ez _ (by omega))
              replace rB := rB.same (ez _ (by omega))
              clear ez q4 f4
              refine wpAnyH_take (i := 11) (v := .pointer (some ⟨Bd, 5, none⟩)) rfl (by kernel_rfl) (by kernel_rfl) (by kernel_rfl) (fun _ _ _ h => h) (Or.inl ⟨by rfl, fun wq hSw => by (try dsimp only at hSw); go_simp⟩) hHeld ?_
              try simp only [Act.put, List.getElem_toArray, List.getElem_cons_succ, List.getElem_cons_zero, List.setIfInBounds_toArray, List.set_cons_zero, List.set_cons_succ]
              have q5 := at_cells bx (j := 5) rfl
              have f5 := rw_cells bx 5
              refine wpAnyH_ready (rs := [12]) (by kernel_rfl) (by simp) ?_
              refine (AllReadyH.cons rfl (fun K hK => ?_) AllReadyH.nil)
              go_simp
              refine hK.out _ _ trivial (fun hHeld => ?_)
              clear hK K
              try simp only [Act.put, List.getElem_toArray, List.getElem_cons_succ, List.getElem_cons_zero, List.setIfInBounds_toArray, List.set_cons_zero, List.set_cons_succ]
              obtain ⟨Y67, hZ⟩ : ∃ Z, Kp (Z = Y66.setCell ⟨Bd, 5, none⟩ (.slice (some ⟨b6, 0, none⟩) M M)) := ⟨_, ⟨rfl⟩⟩
              rw [← hZ.out]
              have ez : ∀ k, k ≠ Bd → Y67.heap[k]? = Y66.heap[k]? := fun k hk => by rw [hZ.out]; exact heap_set _ _ _ _ _ hk
              have bz : Y67.heap[Bd]? = some (Go.Obj.cells #[.slice (some ⟨b1, 0, none⟩) M c1, .slice (some ⟨b2, 0, none⟩) M c2, .slice (some ⟨b3, 0, none⟩) nb nb, .slice (some ⟨b4, 0, none⟩) M M, .slice (some ⟨b5, 0, none⟩) M M, .slice (some ⟨b6, 0, none⟩) M M] 58 (0, 0)) := by rw [hZ.out]; exact (set_cells bx 5 _).trans rfl
              replace hb : Below Bd X0 Y67 := ⟨by rw [hZ.out]; exact hb.os, by rw [hZ.out]; exact hb.tape, by rw [hZ.out]; exact hb.output, by rw [hZ.out]; simpa [World.setCell] using hb.size, fun k hk => (ez k (by omega)).trans (hb.block k hk)⟩
              replace bx := bz
              replace sz : Bd < Y67.heap.size := (Array.getElem?_eq_some_iff.1 bz).1
              clear bz
              replace rA := rA.same (ez _ (by omega))
              replace r6 := r6.same (ez _ (by omega))
              replace rB := rB.same (ez _ (by omega))
              clear ez q5 f5
              refine wpAnyH_done (by kernel_rfl) ?_ _
              replace hb := Kp.mk hb
              replace bx := Kp.mk bx
              replace rA := Kp.mk rA
              replace rB := Kp.mk rB
              replace r6 := Kp.mk r6
              go_wp2_with fail
              go_meet
              exact ⟨b4, b5, b6, bx.out, rA.out, rB.out, r6.out, by omega, by omega, by omega, g_b4, g_b5, g_b6, hb.out⟩
      · go_simp
        refine (CR.out _ _ rC).mono ?_
        rintro e Y68 ⟨rfl, r6, kz⟩
        refine hK.out _ _ trivial (fun hHeld => ?_)
        clear hK K
        try simp only [Act.put, List.getElem_toArray, List.getElem_cons_succ, List.getElem_cons_zero, List.setIfInBounds_toArray, List.set_cons_zero, List.set_cons_succ]
        obtain ⟨b6, hb_b6⟩ : ∃ b, Kp (Y41.heap.size = b) := ⟨_, ⟨rfl⟩⟩
        rw [hb_b6.out]
        rw [hb_b6.out] at r6
        have g_b6 : Bd < b6 := by have := hb_b6.out; omega
        replace hb := hb.trans (kz.mono (by omega))
        replace bx := keep_cells bx kz
        replace sz : Bd < Y68.heap.size := by have := kz.size; omega
        clear kz rC
        refine wpAnyH_ready (rs := [1, 3]) (by kernel_rfl) (by simp) ?_
        refine (AllReadyH.cons rfl (fun K hK => ?_) (AllReadyH.cons rfl (fun K hK => ?_) AllReadyH.nil))
        · go_simp
          refine hK.out _ _ trivial (fun hHeld => ?_)
          clear hK K
          try simp only [Act.put, List.getElem_toArray, List.getElem_cons_succ, List.getElem_cons_zero, List.setIfInBounds_toArray, List.set_cons_zero, List.set_cons_succ]
          obtain ⟨Y69, hZ⟩ : ∃ Z, Kp (Z = Y68.alloc O) := ⟨_, ⟨rfl⟩⟩
          rw [← hZ.out]
          have kz : Below Y68.heap.size Y68 Y69 := by rw [hZ.out]; exact bel_alloc _ _
          have rn : RowI Y69 Y68.heap.size M (fun _ => 0) := by rw [hZ.out]; exact hRO.out Y68
          obtain ⟨b4, hb_b4⟩ : ∃ b, Kp (Y68.heap.size = b) := ⟨_, ⟨rfl⟩⟩
          rw [hb_b4.out]
          rw [hb_b4.out] at rn
          have g_b4 : Bd < b4 := by have := hb_b4.out; omega
          have n_b6_b4 : b6 ≠ b4 := by have h1 := hb_b4.out; have h2 := r6.lt; omega
          replace r6 := r6.keep kz
          replace hb := hb.trans (kz.mono (by omega))
          replace bx := keep_cells bx kz
          replace sz : Bd < Y69.heap.size := by have := kz.size; omega
          have rA := rn
          clear rn kz
          refine wpAnyH_take (i := 7) (v := .pointer (some ⟨Bd, 3, none⟩)) rfl (by kernel_rfl) (by kernel_rfl) (by kernel_rfl) (fun _ _ _ h => h) (Or.inl ⟨by rfl, fun wq hSw => by (try dsimp only at hSw); go_simp⟩) hHeld ?_
          try simp only [Act.put, List.getElem_toArray, List.getElem_cons_succ, List.getElem_cons_zero, List.setIfInBounds_toArray, List.set_cons_zero, List.set_cons_succ]
          refine wpAnyH_ready (rs := [3, 8]) (by kernel_rfl) (by simp) ?_
          refine (AllReadyH.cons rfl (fun K hK => ?_) (AllReadyH.cons rfl (fun K hK => ?_) AllReadyH.nil))
          · go_simp
            refine hK.out _ _ trivial (fun hHeld => ?_)
            clear hK K
            try simp only [Act.put, List.getElem_toArray, List.getElem_cons_succ, List.getElem_cons_zero, List.setIfInBounds_toArray, List.set_cons_zero, List.set_cons_succ]
            obtain ⟨Y70, hZ⟩ : ∃ Z, Kp (Z = Y69.alloc O) := ⟨_, ⟨rfl⟩⟩
            rw [← hZ.out]
            have kz : Below Y69.heap.size Y69 Y70 := by rw [hZ.out]; exact bel_alloc _ _
            have rn : RowI Y70 Y69.heap.size M (fun _ => 0) := by rw [hZ.out]; exact hRO.out Y69
            obtain ⟨b5, hb_b5⟩ : ∃ b, Kp (Y69.heap.size = b) := ⟨_, ⟨rfl⟩⟩
            rw [hb_b5.out]
            rw [hb_b5.out] at rn
            have g_b5 : Bd < b5 := by have := hb_b5.out; omega
            have n_b4_b5 : b4 ≠ b5 := by have h1 := hb_b5.out; have h2 := rA.lt; omega
            have n_b6_b5 : b6 ≠ b5 := by have h1 := hb_b5.out; have h2 := r6.lt; omega
            replace rA := rA.keep kz
            replace r6 := r6.keep kz
            replace hb := hb.trans (kz.mono (by omega))
            replace bx := keep_cells bx kz
            replace sz : Bd < Y70.heap.size := by have := kz.size; omega
            have rB := rn
            clear rn kz
            refine wpAnyH_ready (rs := [8]) (by kernel_rfl) (by simp) ?_
            refine (AllReadyH.cons rfl (fun K hK => ?_) AllReadyH.nil)
            · have q3 := at_cells bx (j := 3) rfl
              have f3 := rw_cells bx 3
              go_simp
              refine hK.out _ _ trivial (fun hHeld => ?_)
              clear hK K
              try simp only [Act.put, List.getElem_toArray, List.getElem_cons_succ, List.getElem_cons_zero, List.setIfInBounds_toArray, List.set_cons_zero, List.set_cons_succ]
              obtain ⟨Y71, hZ⟩ : ∃ Z, Kp (Z = Y70.setCell ⟨Bd, 3, none⟩ (.slice (some ⟨b4, 0, none⟩) M M)) := ⟨_, ⟨rfl⟩⟩
              rw [← hZ.out]
              have ez : ∀ k, k ≠ Bd → Y71.heap[k]? = Y70.heap[k]? := fun k hk => by rw [hZ.out]; exact heap_set _ _ _ _ _ hk
              have bz : Y71.heap[Bd]? = some (Go.Obj.cells #[.slice (some ⟨b1, 0, none⟩) M c1, .slice (some ⟨b2, 0, none⟩) M c2, .slice (some ⟨b3, 0, none⟩) nb nb, .slice (some ⟨b4, 0, none⟩) M M, .slice none 0 0, .slice none 0 0] 58 (0, 0)) := by rw [hZ.out]; exact (set_cells bx 3 _).trans rfl
              replace hb : Below Bd X0 Y71 := ⟨by rw [hZ.out]; exact hb.os, by rw [hZ.out]; exact hb.tape, by rw [hZ.out]; exact hb.output, by rw [hZ.out]; simpa [World.setCell] using hb.size, fun k hk => (ez k (by omega)).trans (hb.block k hk)⟩
              replace bx := bz
              replace sz : Bd < Y71.heap.size := (Array.getElem?_eq_some_iff.1 bz).1
              clear bz
              replace rA := rA.same (ez _ (by omega))
              replace r6 := r6.same (ez _ (by omega))
              replace rB := rB.same (ez _ (by omega))
              clear ez q3 f3
              refine wpAnyH_take (i := 9) (v := .pointer (some ⟨Bd, 4, none⟩)) rfl (by kernel_rfl) (by kernel_rfl) (by kernel_rfl) (fun _ _ _ h => h) (Or.inl ⟨by rfl, fun wq hSw => by (try dsimp only at hSw); go_simp⟩) hHeld ?_
              try simp only [Act.put, List.getElem_toArray, List.getElem_cons_succ, List.getElem_cons_zero, List.setIfInBounds_toArray, List.set_cons_zero, List.set_cons_succ]
              have q4 := at_cells bx (j := 4) rfl
              have f4 := rw_cells bx 4
              refine wpAnyH_ready (rs := [10]) (by kernel_rfl) (by simp) ?_
              refine (AllReadyH.cons rfl (fun K hK => ?_) AllReadyH.nil)
              go_simp
              refine hK.out _ _ trivial (fun hHeld => ?_)
              clear hK K
              try simp only [Act.put, List.getElem_toArray, List.getElem_cons_succ, List.getElem_cons_zero, List.setIfInBounds_toArray, List.set_cons_zero, List.set_cons_succ]
              obtain ⟨Y72, hZ⟩ : ∃ Z, Kp (Z = Y71.setCell ⟨Bd, 4, none⟩ (.slice (some ⟨b5, 0, none⟩) M M)) := ⟨_, ⟨rfl⟩⟩
              rw [← hZ.out]
              have ez : ∀ k, k ≠ Bd → Y72.heap[k]? = Y71.heap[k]? := fun k hk => by rw [hZ.out]; exact heap_set _ _ _ _ _ hk
              have bz : Y72.heap[Bd]? = some (Go.Obj.cells #[.slice (some ⟨b1, 0, none⟩) M c1, .slice (some ⟨b2, 0, none⟩) M c2, .slice (some ⟨b3, 0, none⟩) nb nb, .slice (some ⟨b4, 0, none⟩) M M, .slice (some ⟨b5, 0, none⟩) M M, .slice none 0 0] 58 (0, 0)) := by rw [hZ.out]; exact (set_cells bx 4 _).trans rfl
              replace hb : Below Bd X0 Y72 := ⟨by rw [hZ.out]; exact hb.os, by rw [hZ.out]; exact hb.tape, by rw [hZ.out]; exact hb.output, by rw [hZ.out]; simpa [World.setCell] using hb.size, fun k hk => (ez k (by omega)).trans (hb.block k hk)⟩
              replace bx := bz
              replace sz : Bd < Y72.heap.size := (Array.getElem?_eq_some_iff.1 bz).1
              clear bz
              replace rA := rA.same (ez _ (by omega))
              replace r6 := r6.same (ez _ (by omega))
              replace rB := rB.same (ez _ (by omega))
              clear ez q4 f4
              refine wpAnyH_take (i := 11) (v := .pointer (some ⟨Bd, 5, none⟩)) rfl (by kernel_rfl) (by kernel_rfl) (by kernel_rfl) (fun _ _ _ h => h) (Or.inl ⟨by rfl, fun wq hSw => by (try dsimp only at hSw); go_simp⟩) hHeld ?_
              try simp only [Act.put, List.getElem_toArray, List.getElem_cons_succ, List.getElem_cons_zero, List.setIfInBounds_toArray, List.set_cons_zero, List.set_cons_succ]
              have q5 := at_cells bx (j := 5) rfl
              have f5 := rw_cells bx 5
              refine wpAnyH_ready (rs := [12]) (by kernel_rfl) (by simp) ?_
              refine (AllReadyH.cons rfl (fun K hK => ?_) AllReadyH.nil)
              go_simp
              refine hK.out _ _ trivial (fun hHeld => ?_)
              clear hK K
              try simp only [Act.put, List.getElem_toArray, List.getElem_cons_succ, List.getElem_cons_zero, List.setIfInBounds_toArray, List.set_cons_zero, List.set_cons_succ]
              obtain ⟨Y73, hZ⟩ : ∃ Z, Kp (Z = Y72.setCell ⟨Bd, 5, none⟩ (.slice (some ⟨b6, 0, none⟩) M M)) := ⟨_, ⟨rfl⟩⟩
              rw [← hZ.out]
              have ez : ∀ k, k ≠ Bd → Y73.heap[k]? = Y72.heap[k]? := fun k hk => by rw [hZ.out]; exact heap_set _ _ _ _ _ hk
              have bz : Y73.heap[Bd]? = some (Go.Obj.cells #[.slice (some ⟨b1, 0, none⟩) M c1, .slice (some ⟨b2, 0, none⟩) M c2, .slice (some ⟨b3, 0, none⟩) nb nb, .slice (some ⟨b4, 0, none⟩) M M, .slice (some ⟨b5, 0, none⟩) M M, .slice (some ⟨b6, 0, none⟩) M M] 58 (0, 0)) := by rw [hZ.out]; exact (set_cells bx 5 _).trans rfl
              replace hb : Below Bd X0 Y73 := ⟨by rw [hZ.out]; exact hb.os, by rw [hZ.out]; exact hb.tape, by rw [hZ.out]; exact hb.output, by rw [hZ.out]; simpa [World.setCell] using hb.size, fun k hk => (ez k (by omega)).trans (hb.block k hk)⟩
              replace bx := bz
              replace sz : Bd < Y73.heap.size := (Array.getElem?_eq_some_iff.1 bz).1
              clear bz
              replace rA := rA.same (ez _ (by omega))
              replace r6 := r6.same (ez _ (by omega))
              replace rB := rB.same (ez _ (by omega))
              clear ez q5 f5
              refine wpAnyH_done (by kernel_rfl) ?_ _
              replace hb := Kp.mk hb
              replace bx := Kp.mk bx
              replace rA := Kp.mk rA
              replace rB := Kp.mk rB
              replace r6 := Kp.mk r6
              go_wp2_with fail
              go_meet
              exact ⟨b4, b5, b6, bx.out, rA.out, rB.out, r6.out, by omega, by omega, by omega, g_b4, g_b5, g_b6, hb.out⟩
          · have q3 := at_cells bx (j := 3) rfl
            have f3 := rw_cells bx 3
            go_simp
            refine hK.out _ _ trivial (fun hHeld => ?_)
            clear hK K
            try simp only [Act.put, List.getElem_toArray, List.getElem_cons_succ, List.getElem_cons_zero, List.setIfInBounds_toArray, List.set_cons_zero, List.set_cons_succ]
            obtain ⟨Y74, hZ⟩ : ∃ Z, Kp (Z = Y69.setCell ⟨Bd, 3, none⟩ (.slice (some ⟨b4, 0, none⟩) M M)) := ⟨_, ⟨rfl⟩⟩
            rw [← hZ.out]
            have ez : ∀ k, k ≠ Bd → Y74.heap[k]? = Y69.heap[k]? := fun k hk => by rw [hZ.out]; exact heap_set _ _ _ _ _ hk
            have bz : Y74.heap[Bd]? = some (Go.Obj.cells #[.slice (some ⟨b1, 0, none⟩) M c1, .slice (some ⟨b2, 0, none⟩) M c2, .slice (some ⟨b3, 0, none⟩) nb nb, .slice (some ⟨b4, 0, none⟩) M M, .slice none 0 0, .slice none 0 0] 58 (0, 0)) := by rw [hZ.out]; exact (set_cells bx 3 _).trans rfl
            replace hb : Below Bd X0 Y74 := ⟨by rw [hZ.out]; exact hb.os, by rw [hZ.out]; exact hb.tape, by rw [hZ.out]; exact hb.output, by rw [hZ.out]; simpa [World.setCell] using hb.size, fun k hk => (ez k (by omega)).trans (hb.block k hk)⟩
            replace bx := bz
            replace sz : Bd < Y74.heap.size := (Array.getElem?_eq_some_iff.1 bz).1
            clear bz
            replace rA := rA.same (ez _ (by omega))
            replace r6 := r6.same (ez _ (by omega))
            clear ez q3 f3
            refine wpAnyH_ready (rs := [3]) (by kernel_rfl) (by simp) ?_
            refine (AllReadyH.cons rfl (fun K hK => ?_) AllReadyH.nil)
            · go_simp
              refine hK.out _ _ trivial (fun hHeld => ?_)
              clear hK K
              try simp only [Act.put, List.getElem_toArray, List.getElem_cons_succ, List.getElem_cons_zero, List.setIfInBounds_toArray, List.set_cons_zero, List.set_cons_succ]
              obtain ⟨Y75, hZ⟩ : ∃ Z, Kp (Z = Y74.alloc O) := ⟨_, ⟨rfl⟩⟩
              rw [← hZ.out]
              have kz : Below Y74.heap.size Y74 Y75 := by rw [hZ.out]; exact bel_alloc _ _
              have rn : RowI Y75 Y74.heap.size M (fun _ => 0) := by rw [hZ.out]; exact hRO.out Y74
              obtain ⟨b5, hb_b5⟩ : ∃ b, Kp (Y74.heap.size = b) := ⟨_, ⟨rfl⟩⟩
              rw [hb_b5.out]
              rw [hb_b5.out] at rn
              have g_b5 : Bd < b5 := by have := hb_b5.out; omega
              have n_b4_b5 : b4 ≠ b5 := by have h1 := hb_b5.out; have h2 := rA.lt; omega
              have n_b6_b5 : b6 ≠ b5 := by have h1 := hb_b5.out; have h2 := r6.lt; omega
              replace rA := rA.keep kz
              replace r6 := r6.keep kz
              replace hb := hb.trans (kz.mono (by omega))
              replace bx := keep_cells bx kz
              replace sz : Bd < Y75.heap.size := by have := kz.size; omega
              have rB := rn
              clear rn kz
              refine wpAnyH_take (i := 9) (v := .pointer (some ⟨Bd, 4, none⟩)) rfl (by kernel_rfl) (by kernel_rfl) (by kernel_rfl) (fun _ _ _ h => h) (Or.inl ⟨by rfl, fun wq hSw => by (try dsimp only at hSw); go_simp⟩) hHeld ?_
              try simp only [Act.put, List.getElem_toArray, List.getElem_cons_succ, List.getElem_cons_zero, List.setIfInBounds_toArray, List.set_cons_zero, List.set_cons_succ]
              have q4 := at_cells bx (j := 4) rfl
              have f4 := rw_cells bx 4
              refine wpAnyH_ready (rs := [10]) (by kernel_rfl) (by simp) ?_
              refine (AllReadyH.cons rfl (fun K hK => ?_) AllReadyH.nil)
              go_simp
              refine hK.out _ _ trivial (fun hHeld => ?_)
              clear hK K
              try simp only [Act.put, List.getElem_toArray, List.getElem_cons_succ, List.getElem_cons_zero, List.setIfInBounds_toArray, List.set_cons_zero, List.set_cons_succ]
              obtain ⟨Y76, hZ⟩ : ∃ Z, Kp (Z = Y75.setCell ⟨Bd, 4, none⟩ (.slice (some ⟨b5, 0, none⟩) M M)) := ⟨_, ⟨rfl⟩⟩
              rw [← hZ.out]
              have ez : ∀ k, k ≠ Bd → Y76.heap[k]? = Y75.heap[k]? := fun k hk => by rw [hZ.out]; exact heap_set _ _ _ _ _ hk
              have bz : Y76.heap[Bd]? = some (Go.Obj.cells #[.slice (some ⟨b1, 0, none⟩) M c1, .slice (some ⟨b2, 0, none⟩) M c2, .slice (some ⟨b3, 0, none⟩) nb nb, .slice (some ⟨b4, 0, none⟩) M M, .slice (some ⟨b5, 0, none⟩) M M, .slice none 0 0] 58 (0, 0)) := by rw [hZ.out]; exact (set_cells bx 4 _).trans rfl
              replace hb : Below Bd X0 Y76 := ⟨by rw [hZ.out]; exact hb.os, by rw [hZ.out]; exact hb.tape, by rw [hZ.out]; exact hb.output, by rw [hZ.out]; simpa [World.setCell] using hb.size, fun k hk => (ez k (by omega)).trans (hb.block k hk)⟩
              replace bx := bz
              replace sz : Bd < Y76.heap.size := (Array.getElem?_eq_some_iff.1 bz).1
              clear bz
              replace rA := rA.same (ez _ (by omega))
              replace r6 := r6.same (ez _ (by omega))
              replace rB := rB.same (ez _ (by omega))
              clear ez q4 f4
              refine wpAnyH_take (i := 11) (v := .pointer (some ⟨Bd, 5, none⟩)) rfl (by kernel_rfl) (by kernel_rfl) (by kernel_rfl) (fun _ _ _ h => h) (Or.inl ⟨by rfl, fun wq hSw => by (try dsimp only at hSw); go_simp⟩) hHeld ?_
              try simp only [Act.put, List.getElem_toArray, List.getElem_cons_succ, List.getElem_cons_zero, List.setIfInBounds_toArray, List.set_cons_zero, List.set_cons_succ]
              have q5 := at_cells bx (j := 5) rfl
              have f5 := rw_cells bx 5
              refine wpAnyH_ready (rs := [12]) (by kernel_rfl) (by simp) ?_
              refine (AllReadyH.cons rfl (fun K hK => ?_) AllReadyH.nil)
              go_simp
              refine hK.out _ _ trivial (fun hHeld => ?_)
              clear hK K
              try simp only [Act.put, List.getElem_toArray, List.getElem_cons_succ, List.getElem_cons_zero, List.setIfInBounds_toArray, List.set_cons_zero, List.set_cons_succ]
              obtain ⟨Y77, hZ⟩ : ∃ Z, Kp (Z = Y76.setCell ⟨Bd, 5, none⟩ (.slice (some ⟨b6, 0, none⟩) M M)) := ⟨_, ⟨rfl⟩⟩
              rw [← hZ.out]
              have ez : ∀ k, k ≠ Bd → Y77.heap[k]? = Y76.heap[k]? := fun k hk => by rw [hZ.out]; exact heap_set _ _ _ _ _ hk
              have bz : Y77.heap[Bd]? = some (Go.Obj.cells #[.slice (some ⟨b1, 0, none⟩) M c1, .slice (some ⟨b2, 0, none⟩) M c2, .slice (some ⟨b3, 0, none⟩) nb nb, .slice (some ⟨b4, 0, none⟩) M M, .slice (some ⟨b5, 0, none⟩) M M, .slice (some ⟨b6, 0, none⟩) M M] 58 (0, 0)) := by rw [hZ.out]; exact (set_cells bx 5 _).trans rfl
              replace hb : Below Bd X0 Y77 := ⟨by rw [hZ.out]; exact hb.os, by rw [hZ.out]; exact hb.tape, by rw [hZ.out]; exact hb.output, by rw [hZ.out]; simpa [World.setCell] using hb.size, fun k hk => (ez k (by omega)).trans (hb.block k hk)⟩
              replace bx := bz
              replace sz : Bd < Y77.heap.size := (Array.getElem?_eq_some_iff.1 bz).1
              clear bz
              replace rA := rA.same (ez _ (by omega))
              replace r6 := r6.same (ez _ (by omega))
              replace rB := rB.same (ez _ (by omega))
              clear ez q5 f5
              refine wpAnyH_done (by kernel_rfl) ?_ _
              replace hb := Kp.mk hb
              replace bx := Kp.mk bx
              replace rA := Kp.mk rA
              replace rB := Kp.mk rB
              replace r6 := Kp.mk r6
              go_wp2_with fail
              go_meet
              exact ⟨b4, b5, b6, bx.out, rA.out, rB.out, r6.out, by omega, by omega, by omega, g_b4, g_b5, g_b6, hb.out⟩
        · go_simp
          refine hK.out _ _ trivial (fun hHeld => ?_)
          clear hK K
          try simp only [Act.put, List.getElem_toArray, List.getElem_cons_succ, List.getElem_cons_zero, List.setIfInBounds_toArray, List.set_cons_zero, List.set_cons_succ]
          obtain ⟨Y78, hZ⟩ : ∃ Z, Kp (Z = Y68.alloc O) := ⟨_, ⟨rfl⟩⟩
          rw [← hZ.out]
          have kz : Below Y68.heap.size Y68 Y78 := by rw [hZ.out]; exact bel_alloc _ _
          have rn : RowI Y78 Y68.heap.size M (fun _ => 0) := by rw [hZ.out]; exact hRO.out Y68
          obtain ⟨b5, hb_b5⟩ : ∃ b, Kp (Y68.heap.size = b) := ⟨_, ⟨rfl⟩⟩
          rw [hb_b5.out]
          rw [hb_b5.out] at rn
          have g_b5 : Bd < b5 := by have := hb_b5.out; omega
          have n_b6_b5 : b6 ≠ b5 := by have h1 := hb_b5.out; have h2 := r6.lt; omega
          replace r6 := r6.keep kz
          replace hb := hb.trans (kz.mono (by omega))
          replace bx := keep_cells bx kz
          replace sz : Bd < Y78.heap.size := by have := kz.size; omega
          have rB := rn
          clear rn kz
          refine wpAnyH_ready (rs := [1]) (by kernel_rfl) (by simp) ?_
          refine (AllReadyH.cons rfl (fun K hK => ?_) AllReadyH.nil)
          · go_simp
            refine hK.out _ _ trivial (fun hHeld => ?_)
            clear hK K
            try simp only [Act.put, List.getElem_toArray, List.getElem_cons_succ, List.getElem_cons_zero, List.setIfInBounds_toArray, List.set_cons_zero, List.set_cons_succ]
            obtain ⟨Y79, hZ⟩ : ∃ Z, Kp (Z = Y78.alloc O) := ⟨_, ⟨rfl⟩⟩
            rw [← hZ.out]
            have kz : Below Y78.heap.size Y78 Y79 := by rw [hZ.out]; exact bel_alloc _ _
            have rn : RowI Y79 Y78.heap.size M (fun _ => 0) := by rw [hZ.out]; exact hRO.out Y78
            obtain ⟨b4, hb_b4⟩ : ∃ b, Kp (Y78.heap.size = b) := ⟨_, ⟨rfl⟩⟩
            rw [hb_b4.out]
            rw [hb_b4.out] at rn
            have g_b4 : Bd < b4 := by have := hb_b4.out; omega
            have n_b5_b4 : b5 ≠ b4 := by have h1 := hb_b4.out; have h2 := rB.lt; omega
            have n_b6_b4 : b6 ≠ b4 := by have h1 := hb_b4.out; have h2 := r6.lt; omega
            replace rB := rB.keep kz
            replace r6 := r6.keep kz
            replace hb := hb.trans (kz.mono (by omega))
            replace bx := keep_cells bx kz
            replace sz : Bd < Y79.heap.size := by have := kz.size; omega
            have rA := rn
            clear rn kz
            refine wpAnyH_take (i := 7) (v := .pointer (some ⟨Bd, 3, none⟩)) rfl (by kernel_rfl) (by kernel_rfl) (by kernel_rfl) (fun _ _ _ h => h) (Or.inl ⟨by rfl, fun wq hSw => by (try dsimp only at hSw); go_simp⟩) hHeld ?_
            try simp only [Act.put, List.getElem_toArray, List.getElem_cons_succ, List.getElem_cons_zero, List.setIfInBounds_toArray, List.set_cons_zero, List.set_cons_succ]
            refine wpAnyH_ready (rs := [8]) (by kernel_rfl) (by simp) ?_
            refine (AllReadyH.cons rfl (fun K hK => ?_) AllReadyH.nil)
            · have q3 := at_cells bx (j := 3) rfl
              have f3 := rw_cells bx 3
              go_simp
              refine hK.out _ _ trivial (fun hHeld => ?_)
              clear hK K
              try simp only [Act.put, List.getElem_toArray, List.getElem_cons_succ, List.getElem_cons_zero, List.setIfInBounds_toArray, List.set_cons_zero, List.set_cons_succ]
              obtain ⟨Y80, hZ⟩ : ∃ Z, Kp (Z = Y79.setCell ⟨Bd, 3, none⟩ (.slice (some ⟨b4, 0, none⟩) M M)) := ⟨_, ⟨rfl⟩⟩
              rw [← hZ.out]
              have ez : ∀ k, k ≠ Bd → Y80.heap[k]? = Y79.heap[k]? := fun k hk => by rw [hZ.out]; exact heap_set _ _ _ _ _ hk
              have bz : Y80.heap[Bd]? = some (Go.Obj.cells #[.slice (some ⟨b1, 0, none⟩) M c1, .slice (some ⟨b2, 0, none⟩) M c2, .slice (some ⟨b3, 0, none⟩) nb nb, .slice (some ⟨b4, 0, none⟩) M M, .slice none 0 0, .slice none 0 0] 58 (0, 0)) := by rw [hZ.out]; exact (set_cells bx 3 _).trans rfl
              replace hb : Below Bd X0 Y80 := ⟨by rw [hZ.out]; exact hb.os, by rw [hZ.out]; exact hb.tape, by rw [hZ.out]; exact hb.output, by rw [hZ.out]; simpa [World.setCell] using hb.size, fun k hk => (ez k (by omega)).trans (hb.block k hk)⟩
              replace bx := bz
              replace sz : Bd < Y80.heap.size := (Array.getElem?_eq_some_iff.1 bz).1
              clear bz
              replace rA := rA.same (ez _ (by omega))
              replace r6 := r6.same (ez _ (by omega))
              replace rB := rB.same (ez _ (by omega))
              clear ez q3 f3
              refine wpAnyH_take (i := 9) (v := .pointer (some ⟨Bd, 4, none⟩)) rfl (by kernel_rfl) (by kernel_rfl) (by kernel_rfl) (fun _ _ _ h => h) (Or.inl ⟨by rfl, fun wq hSw => by (try dsimp only at hSw); go_simp⟩) hHeld ?_
              try simp only [Act.put, List.getElem_toArray, List.getElem_cons_succ, List.getElem_cons_zero, List.setIfInBounds_toArray, List.set_cons_zero, List.set_cons_succ]
              have q4 := at_cells bx (j := 4) rfl
              have f4 := rw_cells bx 4
              refine wpAnyH_ready (rs := [10]) (by kernel_rfl) (by simp) ?_
              refine (AllReadyH.cons rfl (fun K hK => ?_) AllReadyH.nil)
              go_simp
              refine hK.out _ _ trivial (fun hHeld => ?_)
              clear hK K
              try simp only [Act.put, List.getElem_toArray, List.getElem_cons_succ, List.getElem_cons_zero, List.setIfInBounds_toArray, List.set_cons_zero, List.set_cons_succ]
              obtain ⟨Y81, hZ⟩ : ∃ Z, Kp (Z = Y80.setCell ⟨Bd, 4, none⟩ (.slice (some ⟨b5, 0, none⟩) M M)) := ⟨_, ⟨rfl⟩⟩
              rw [← hZ.out]
              have ez : ∀ k, k ≠ Bd → Y81.heap[k]? = Y80.heap[k]? := fun k hk => by rw [hZ.out]; exact heap_set _ _ _ _ _ hk
              have bz : Y81.heap[Bd]? = some (Go.Obj.cells #[.slice (some ⟨b1, 0, none⟩) M c1, .slice (some ⟨b2, 0, none⟩) M c2, .slice (some ⟨b3, 0, none⟩) nb nb, .slice (some ⟨b4, 0, none⟩) M M, .slice (some ⟨b5, 0, none⟩) M M, .slice none 0 0] 58 (0, 0)) := by rw [hZ.out]; exact (set_cells bx 4 _).trans rfl
              replace hb : Below Bd X0 Y81 := ⟨by rw [hZ.out]; exact hb.os, by rw [hZ.out]; exact hb.tape, by rw [hZ.out]; exact hb.output, by rw [hZ.out]; simpa [World.setCell] using hb.size, fun k hk => (ez k (by omega)).trans (hb.block k hk)⟩
              replace bx := bz
              replace sz : Bd < Y81.heap.size := (Array.getElem?_eq_some_iff.1 bz).1
              clear bz
              replace rA := rA.same (ez _ (by omega))
              replace r6 := r6.same (ez _ (by omega))
              replace rB := rB.same (ez _ (by omega))
              clear ez q4 f4
              refine wpAnyH_take (i := 11) (v := .pointer (some ⟨Bd, 5, none⟩)) rfl (by kernel_rfl) (by kernel_rfl) (by kernel_rfl) (fun _ _ _ h => h) (Or.inl ⟨by rfl, fun wq hSw => by (try dsimp only at hSw); go_simp⟩) hHeld ?_
              try simp only [Act.put, List.getElem_toArray, List.getElem_cons_succ, List.getElem_cons_zero, List.setIfInBounds_toArray, List.set_cons_zero, List.set_cons_succ]
              have q5 := at_cells bx (j := 5) rfl
              have f5 := rw_cells bx 5
              refine wpAnyH_ready (rs := [12]) (by kernel_rfl) (by simp) ?_
              refine (AllReadyH.cons rfl (fun K hK => ?_) AllReadyH.nil)
              go_simp
              refine hK.out _ _ trivial (fun hHeld => ?_)
              clear hK K
              try simp only [Act.put, List.getElem_toArray, List.getElem_cons_succ, List.getElem_cons_zero, List.setIfInBounds_toArray, List.set_cons_zero, List.set_cons_succ]
              obtain ⟨Y82, hZ⟩ : ∃ Z, Kp (Z = Y81.setCell ⟨Bd, 5, none⟩ (.slice (some ⟨b6, 0, none⟩) M M)) := ⟨_, ⟨rfl⟩⟩
              rw [← hZ.out]
              have ez : ∀ k, k ≠ Bd → Y82.heap[k]? = Y81.heap[k]? := fun k hk => by rw [hZ.out]; exact heap_set _ _ _ _ _ hk
              have bz : Y82.heap[Bd]? = some (Go.Obj.cells #[.slice (some ⟨b1, 0, none⟩) M c1, .slice (some ⟨b2, 0, none⟩) M c2, .slice (some ⟨b3, 0, none⟩) nb nb, .slice (some ⟨b4, 0, none⟩) M M, .slice (some ⟨b5, 0, none⟩) M M, .slice (some ⟨b6, 0, none⟩) M M] 58 (0, 0)) := by rw [hZ.out]; exact (set_cells bx 5 _).trans rfl
              replace hb : Below Bd X0 Y82 := ⟨by rw [hZ.out]; exact hb.os, by rw [hZ.out]; exact hb.tape, by rw [hZ.out]; exact hb.output, by rw [hZ.out]; simpa [World.setCell] using hb.size, fun k hk => (ez k (by omega)).trans (hb.block k hk)⟩
              replace bx := bz
              replace sz : Bd < Y82.heap.size := (Array.getElem?_eq_some_iff.1 bz).1
              clear bz
              replace rA := rA.same (ez _ (by omega))
              replace r6 := r6.same (ez _ (by omega))
              replace rB := rB.same (ez _ (by omega))
              clear ez q5 f5
              refine wpAnyH_done (by kernel_rfl) ?_ _
              replace hb := Kp.mk hb
              replace bx := Kp.mk bx
              replace rA := Kp.mk rA
              replace rB := Kp.mk rB
              replace r6 := Kp.mk r6
              go_wp2_with fail
              go_meet
              exact ⟨b4, b5, b6, bx.out, rA.out, rB.out, r6.out, by omega, by omega, by omega, g_b4, g_b5, g_b6, hb.out⟩
  case rest =>
    obtain ⟨b4, b5, b6, hbx, h4, h5, h6, n45, n46, n56, g4, g5, g6, hbc⟩ := hcut
    obtain ⟨Ro, hRo⟩ : ∃ Ro, Kp (Ro = Go.Obj.cells #[.slice none 0 0, .slice none 0 0, .slice none 0 0, .slice none 0 0, .slice none 0 0, .slice none 0 0] 58 (0, 0)) := ⟨_, ⟨rfl⟩⟩
    have hI : DoI nx M nb Bd b1 b2 b3 b4 b5 b6 c1 c2 prs Ro w wc (fun _ => 0) (fun _ => 0) (fun _ => 1) := ⟨hbx, h1X.same (hbc.block _ hb1), h2X.same (hbc.block _ hb2), h3X.same (hbc.block _ hb3), h4, h5, h6, by rw [hRo.out]; exact (hbc.block _ (by omega)).trans hrX, ⟨hbc.os.trans hbelX.os, hbc.tape.trans hbelX.tape, hbc.output.trans hbelX.output, Nat.le_trans hbelX.size hbc.size, fun k hk => (hbc.block k (by omega)).trans (hbelX.block k hk)⟩⟩
    have gb := (hbc.block (w.heap.size) (by omega)).trans hgX
    have u0 := at_cells hbx (j := 0) rfl
    have u1 := at_cells hbx (j := 1) rfl
    have u2 := at_cells hbx (j := 2) rfl
    have v0 := at_cells gb (j := 0) rfl
    have v1 := at_cells gb (j := 1) rfl
    have CLw := Kp.mk (CL.out wc b1 b2 b3 c1 c2 hI.bel hI.r1 hI.r2 hI.r3 hc2)
    have hws : Bd < wc.heap.size := (Array.getElem?_eq_some_iff.1 hbx).1
    have l4 := h4.lt
    have l5 := h5.lt
    have l6 := h6.lt
    replace hI := Kp.mk hI
    replace hbx := Kp.mk hbx
    replace h1X := Kp.mk h1X
    replace h2X := Kp.mk h2X
    replace h3X := Kp.mk h3X
    replace h1 := Kp.mk h1
    replace h2 := Kp.mk h2
    replace h3 := Kp.mk h3
    replace h4 := Kp.mk h4
    replace h5 := Kp.mk h5
    replace h6 := Kp.mk h6
    replace hbX := Kp.mk hbX
    replace hgX := Kp.mk hgX
    replace hrX := Kp.mk hrX
    replace hsX := Kp.mk hsX
    replace gb := Kp.mk gb
    clear z0
    go_wp2_with fail
    refine CLw.out.mono ?_
    rintro e w4 ⟨ls, rfl, hls, hB4, hls0, hleast⟩
    obtain ⟨bl, hbl⟩ : ∃ bl, Kp (wc.heap.size + 2 = bl) := ⟨_, ⟨rfl⟩⟩
    rw [hbl.out] at hls ⊢
    have hblw : wc.heap.size < bl := by have := hbl.out; omega
    have hI4 := hI.out.keep hB4
    replace hleast := Kp.mk hleast
    replace hls0 := Kp.mk hls0
    replace hI4 := Kp.mk hI4
    replace hls := Kp.mk hls
    clear u0 u1 u2 v0 v1 CLw
    go_wp2_with fail
    go_loopw [37] (fun s wr => ∃ k : Nat, k ≤ M ∧ s = .int .i64 k ∧ ∃ ab : Nat → Nat, DoI nx M nb Bd b1 b2 b3 b4 b5 b6 c1 c2 prs Ro w wr ab (fun _ => 0) (fun _ => 1) ∧ RowI wr bl M (fun i => (ls i : Int)) ∧ ab 0 = 0 ∧ ∀ u, 0 < u → u < k → Near (EN nx (prs.map (·.1))) (ab u) u) (fun s _ => M - (intOf s).toNat)
    case atStart => exact ⟨0, Nat.zero_le _, rfl, _, hI4.out, hls.out, rfl, fun u h1 h2 => by omega⟩
    case round =>
      clear hI4 hls
      obtain ⟨k, hk, rfl, ab, hI, hls, hab0, hnear⟩ := hrel
      have k0 : (0 : Int) ≤ (k : Int) := by omega
      by_cases hlt : k < M
      · have k1 : (k : Int) < (M : Int) := by omega
        have cl := hls.at hlt
        have y1 := at_cells hI.bx (j := 1) rfl
        have y3 := at_cells hI.bx (j := 3) rfl
        have cf := hI.r2.at hlt
        have hfk : frN prs k ≤ k ∧ (0 < k → frN prs k < k) := by
          by_cases e : k = 0
          · subst e; rw [hA.out.fr0]; exact ⟨Nat.le_refl _, fun h => by omega⟩
          · have := (hDp.out.tree k (by omega) hlt).2.1
            exact ⟨by omega, fun _ => this⟩
        have hlab : ∀ v, 0 < v → v < k → ab v < v := fun v h1 h2 => (hnear v h1 h2).lt
        obtain ⟨r, hr⟩ : ∃ r, Climb ab (ls k) (frN prs k) r := by
          by_cases e : k = 0
          · subst e
            rw [hA.out.fr0]
            exact ⟨0, .stop 0 (Nat.zero_le _)⟩
          · exact climb_end hlab (frN prs k) (hfk.2 (by omega))
        have hnr : 0 < k → Near (EN nx (prs.map (·.1))) r k := fun h0 => by
          have hl := hleast.out k h0 hlt
          exact hr.near hDp.out h0 hlt hl.1 hl.2 hnear
        have hrk : r ≤ k := by
          by_cases e : k = 0
          · subst e
            have := hr.inv_stop (by rw [hA.out.fr0]; exact Nat.zero_le _)
            rw [this, hA.out.fr0]
            exact Nat.le_refl _
          · have := (hnr (by omega)).lt; omega
        have hI2 := hI.set (b := b4) (j := k) (y := r) ⟨by omega, by omega, by omega, by omega, by omega⟩ hlt (.inl ⟨rfl, rfl⟩) (.inr ⟨n45, rfl⟩) (.inr ⟨n46, rfl⟩)
        have hls2 : RowI (wr.setCell ⟨b4, k, none⟩ (.int .i64 (r : Int))) bl M (fun i => (ls i : Int)) := hls.setOther _ (by omega)
        have ck := hI.r4.at hlt
        have fk := hI.r4.rw k
        have hab2 : setN ab k r 0 = 0 := by
          by_cases e : k = 0
          · subst e; rw [setN_same]; omega
          · rw [setN_other _ _ (by omega)]; exact hab0
        have hnear2 : ∀ u, 0 < u → u < k + 1 → Near (EN nx (prs.map (·.1))) (setN ab k r u) u := fun u h1 h2 => by
          by_cases e : u = k
          · subst e; rw [setN_same]; exact hnr h1
          · rw [setN_other _ _ e]; exact hnear u h1 (by omega)
        have R4 : Kp (∀ a, a < M → At wr b4 a (.int .i64 (ab a : Int))) := ⟨fun a ha => hI.r4.at ha⟩
        obtain ⟨lk, hlk⟩ : ∃ v, ls k = v := ⟨_, rfl⟩
        obtain ⟨fk', hfk'⟩ : ∃ v, frN prs k = v := ⟨_, rfl⟩
        rw [hlk] at cl hr
        rw [hfk'] at cf hr hfk
        replace hI := Kp.mk hI
        replace hls := Kp.mk hls
        replace hI2 := Kp.mk hI2
        replace hls2 := Kp.mk hls2
        replace hnear := Kp.mk hnear
        replace hnear2 := Kp.mk hnear2
        replace hlk := Kp.mk hlk
        replace hfk' := Kp.mk hfk'
        replace hab0 := Kp.mk hab0
        replace hab2 := Kp.mk hab2
        replace hlab := Kp.mk hlab
        clear hnr
        go_wp2_with fail
        go_loopw [9] (fun s wz => ∃ a : Nat, s = .int .i64 a ∧ Climb ab lk a r ∧ a ≤ k ∧ (0 < k → a < k) ∧ wz = wr) (fun s _ => (intOf s).toNat)
        case atStart => exact ⟨fk', rfl, hr, hfk.1, hfk.2, rfl⟩
        case round =>
          obtain ⟨a, rfl, hca, hak, hak2, rfl⟩ := hrel
          have a0 : (0 : Int) ≤ (a : Int) := by omega
          have a1 : (a : Int) < (M : Int) := by omega
          by_cases hla : lk < a
          · have hla' : (lk : Int) < (a : Int) := by omega
            have hcu := hca.inv_up hla
            have hlt2 := hlab.out a (by omega) (hak2 (by omega))
            have ca := R4.out a (by omega)
            generalize ab a = p at *
            go_wp2_with fail
            exact ⟨⟨p, rfl, hcu, by omega, fun h => by omega, trivial⟩, by simp [intOf]; omega⟩
          · have hla' : ¬ (lk : Int) < (a : Int) := by omega
            obtain rfl := hca.inv_stop (by omega)
            clear hr
            go_wp2_with fail
            exact ⟨⟨k + 1, by omega, by go_num, _, hI2.out, hls2.out, hab2.out, hnear2.out⟩, by simp [intOf]; omega⟩
      · obtain rfl : M = k := by omega
        have hI0 := hI
        have hsz0 := Szs.start (M := M) ab hM0
        have hlab : ∀ v, 0 < v → v < M → ab v < v := fun v h1 h2 => (hnear v h1 h2).lt
        have hab0' : ab 0 < M := by omega
        have hMp : ((M - 1 : Nat) : Int) = (M : Int) - 1 := by omega
        have hb7 : b4 < wr.heap.size := hI.r4.lt
        replace hI := Kp.mk hI
        replace hI0 := Kp.mk hI0
        replace hls := Kp.mk hls
        replace hnear := Kp.mk hnear
        replace hsz0 := Kp.mk hsz0
        replace hab0 := Kp.mk hab0
        replace hlab := Kp.mk hlab
        replace hMp := Kp.mk hMp
        go_wp2_with fail
        go_loopw [10] (fun s wr => ∃ k : Nat, k < M ∧ s = .int .i64 k ∧ ∃ sz : Nat → Nat, DoI nx M nb Bd b1 b2 b3 b4 b5 b6 c1 c2 prs Ro w wr ab (fun _ => 0) sz ∧ Szs M ab sz k) (fun s _ => (intOf s).toNat)
        case atStart => exact ⟨M - 1, by omega, by rw [hMp.out], _, hI0.out, hsz0.out⟩
        case round =>
          clear hI0 hI hsz0
          obtain ⟨k, hk, rfl, sz, hI, hsz⟩ := hrel
          have k0 : (0 : Int) ≤ (k : Int) := by omega
          have k1 : (k : Int) < (M : Int) := by omega
          by_cases hk0 : 0 < k
          · have kpos : (0 : Int) < (k : Int) := by omega
            obtain ⟨hle, hsz2⟩ := hsz.step hk0 hk hlab.out
            have hak := hlab.out k hk0 hk
            have x5 := at_cells hI.bx (j := 5) rfl
            have x3 := at_cells hI.bx (j := 3) rfl
            have ca := hI.r4.at hk
            have cy := hI.r6.at hk
            have hI2 := (hI.keep (bel_drew wr)).set (b := b6) (j := ab k) (y := sz (ab k) + sz k) ⟨by omega, by omega, by omega, by omega, by omega⟩ (by omega) (.inr ⟨Ne.symm n46, rfl⟩) (.inr ⟨Ne.symm n56, rfl⟩) (.inl ⟨rfl, rfl⟩)
            obtain ⟨a, ha⟩ : ∃ a, ab k = a := ⟨_, rfl⟩
            rw [ha] at hle hsz2 hak ca hI2
            have cx := hI.r6.at (i := a) (by omega)
            have fx := hI.r6.rw a
            obtain ⟨x, hx⟩ : ∃ x, sz a = x := ⟨_, rfl⟩
            obtain ⟨y, hy⟩ : ∃ y, sz k = y := ⟨_, rfl⟩
            rw [hx] at hle hsz2 cx hI2
            rw [hy] at hle hsz2 cy hI2
            have a0 : (0 : Int) ≤ (a : Int) := by omega
            have a1 : (a : Int) < (M : Int) := by omega
            have hxy : (((x + y : Nat) : Int)) = (x : Int) + (y : Int) := by omega
            rw [hxy] at hI2
            have t5 := at_cells hI2.bx (j := 5) rfl
            have t3 := at_cells hI2.bx (j := 3) rfl
            have t4 := hI2.r4.at hk
            rw [ha] at t4
            have t6 := hI2.r6.at hk
            rw [setN_other _ _ (by omega), hy] at t6
            have s15 : wr.drew.cell? ⟨Bd, 5, none⟩ = some (.slice (some ⟨b6, 0, none⟩) M M) ∧ wr.drew.cell? ⟨Bd, 3, none⟩ = some (.slice (some ⟨b4, 0, none⟩) M M) ∧ wr.drew.cell? ⟨b4, k, none⟩ = some (.int .i64 (a : Int)) ∧ wr.drew.cell? ⟨b6, k, none⟩ = some (.int .i64 (y : Int)) := ⟨x5, x3, ca, cy⟩
            have t15 : (wr.drew.setCell ⟨b6, a, none⟩ (.int .i64 ((x : Int) + (y : Int)))).cell? ⟨Bd, 5, none⟩ = some (.slice (some ⟨b6, 0, none⟩) M M) ∧ (wr.drew.setCell ⟨b6, a, none⟩ (.int .i64 ((x : Int) + (y : Int)))).cell? ⟨Bd, 3, none⟩ = some (.slice (some ⟨b4, 0, none⟩) M M) ∧ (wr.drew.setCell ⟨b6, a, none⟩ (.int .i64 ((x : Int) + (y : Int)))).cell? ⟨b4, k, none⟩ = some (.int .i64 (a : Int)) ∧ (wr.drew.setCell ⟨b6, a, none⟩ (.int .i64 ((x : Int) + (y : Int)))).cell? ⟨b6, k, none⟩ = some (.int .i64 (y : Int)) := ⟨t5, t3, t4, t6⟩
            have cxd : wr.drew.cell? ⟨b6, a, none⟩ = some (.int .i64 (x : Int)) := cx
            have fxd : wr.drew.frozen? ⟨b6, a, none⟩ = false := fx
            have hwk : IntKind.i64.wrap ((x : Int) + (y : Int)) = (x : Int) + (y : Int) := by rw [IntKind.wrap_i64]; omega
            replace hI := Kp.mk hI
            replace hI2 := Kp.mk hI2
            replace hsz := Kp.mk hsz
            replace hsz2 := Kp.mk hsz2
            replace ha := Kp.mk ha
            replace hx := Kp.mk hx
            replace hy := Kp.mk hy
            replace hxy := Kp.mk hxy
            clear t5 t3 t4 t6 x5 x3 ca cy
            go_upto_region 15 with fail
            refine wp_region_held_drew (S := fun W' => W'.cell? ⟨Bd, 5, none⟩ = some (.slice (some ⟨b6, 0, none⟩) M M) ∧ W'.cell? ⟨Bd, 3, none⟩ = some (.slice (some ⟨b4, 0, none⟩) M M) ∧ W'.cell? ⟨b4, k, none⟩ = some (.int .i64 (a : Int)) ∧ W'.cell? ⟨b6, k, none⟩ = some (.int .i64 (y : Int))) (by kernel_rfl) s15 (fun hHeld => ?_)
            refine wpAnyH_take (i := 0) (v := .pointer (some ⟨Bd, 5, none⟩)) rfl (by kernel_rfl) (by kernel_rfl) (by kernel_rfl) (fun _ _ _ h => h) (Or.inl ⟨by rfl, fun wq hSw => by (try dsimp only at hSw); go_simp⟩) hHeld ?_
            try simp only [Act.put, List.getElem_toArray, List.getElem_cons_succ, List.getElem_cons_zero, List.setIfInBounds_toArray, List.set_cons_zero, List.set_cons_succ]
            refine wpAnyH_take (i := 1) (v := .slice (some ⟨b6, 0, none⟩) M M) rfl (by kernel_rfl) (by kernel_rfl) (by kernel_rfl) (fun _ _ _ h => h) (Or.inl ⟨by rfl, fun wq hSw => by (try dsimp only at hSw); go_simp⟩) hHeld ?_
            try simp only [Act.put, List.getElem_toArray, List.getElem_cons_succ, List.getElem_cons_zero, List.setIfInBounds_toArray, List.set_cons_zero, List.set_cons_succ]
            refine wpAnyH_take (i := 2) (v := .pointer (some ⟨Bd, 3, none⟩)) rfl (by kernel_rfl) (by kernel_rfl) (by kernel_rfl) (fun _ _ _ h => h) (Or.inl ⟨by rfl, fun wq hSw => by (try dsimp only at hSw); go_simp⟩) hHeld ?_
            try simp only [Act.put, List.getElem_toArray, List.getElem_cons_succ, List.getElem_cons_zero, List.setIfInBounds_toArray, List.set_cons_zero, List.set_cons_succ]
            refine wpAnyH_take (i := 3) (v := .slice (some ⟨b4, 0, none⟩) M M) rfl (by kernel_rfl) (by kernel_rfl) (by kernel_rfl) (fun _ _ _ h => h) (Or.inl ⟨by rfl, fun wq hSw => by (try dsimp only at hSw); go_simp⟩) hHeld ?_
            try simp only [Act.put, List.getElem_toArray, List.getElem_cons_succ, List.getElem_cons_zero, List.setIfInBounds_toArray, List.set_cons_zero, List.set_cons_succ]
            refine wpAnyH_take (i := 4) (v := .int .i64 (k : Int)) rfl (by kernel_rfl) (by kernel_rfl) (by kernel_rfl) (fun _ _ _ h => h) (Or.inl ⟨by rfl, fun wq hSw => by (try dsimp only at hSw); go_simp⟩) hHeld ?_
            try simp only [Act.put, List.getElem_toArray, List.getElem_cons_succ, List.getElem_cons_zero, List.setIfInBounds_toArray, List.set_cons_zero, List.set_cons_succ]
            refine wpAnyH_take (i := 5) (v := .pointer (some ⟨b4, k, none⟩)) rfl (by kernel_rfl) (by kernel_rfl) (by kernel_rfl) (fun _ _ _ h => h) (Or.inl ⟨by rfl, fun wq hSw => by (try dsimp only at hSw); go_simp⟩) hHeld ?_
            try simp only [Act.put, List.getElem_toArray, List.getElem_cons_succ, List.getElem_cons_zero, List.setIfInBounds_toArray, List.set_cons_zero, List.set_cons_succ]
            refine wpAnyH_take (i := 6) (v := .int .i64 (a : Int)) rfl (by kernel_rfl) (by kernel_rfl) (by kernel_rfl) (fun _ _ _ h => h) (Or.inl ⟨by rfl, fun wq hSw => by (try dsimp only at hSw); go_simp⟩) hHeld ?_
            try simp only [Act.put, List.getElem_toArray, List.getElem_cons_succ, List.getElem_cons_zero, List.setIfInBounds_toArray, List.set_cons_zero, List.set_cons_succ]
            refine wpAnyH_take (i := 7) (v := .pointer (some ⟨b6, a, none⟩)) rfl (by kernel_rfl) (by kernel_rfl) (by kernel_rfl) (fun _ _ _ h => h) (Or.inl ⟨by rfl, fun wq hSw => by (try dsimp only at hSw); go_simp⟩) hHeld ?_
            try simp only [Act.put, List.getElem_toArray, List.getElem_cons_succ, List.getElem_cons_zero, List.setIfInBounds_toArray, List.set_cons_zero, List.set_cons_succ]
            refine wpAnyH_take (i := 9) (v := .pointer (some ⟨Bd, 5, none⟩)) rfl (by kernel_rfl) (by kernel_rfl) (by kernel_rfl) (fun _ _ _ h => h) (Or.inl ⟨by rfl, fun wq hSw => by (try dsimp only at hSw); go_simp⟩) hHeld ?_
            try simp only [Act.put, List.getElem_toArray, List.getElem_cons_succ, List.getElem_cons_zero, List.setIfInBounds_toArray, List.set_cons_zero, List.set_cons_succ]
            refine wpAnyH_take (i := 10) (v := .slice (some ⟨b6, 0, none⟩) M M) rfl (by kernel_rfl) (by kernel_rfl) (by kernel_rfl) (fun _ _ _ h => h) (Or.inl ⟨by rfl, fun wq hSw => by (try dsimp only at hSw); go_simp⟩) hHeld ?_
            try simp only [Act.put, List.getElem_toArray, List.getElem_cons_succ, List.getElem_cons_zero, List.setIfInBounds_toArray, List.set_cons_zero, List.set_cons_succ]
            refine wpAnyH_take (i := 11) (v := .int .i64 (k : Int)) rfl (by kernel_rfl) (by kernel_rfl) (by kernel_rfl) (fun _ _ _ h => h) (Or.inl ⟨by rfl, fun wq hSw => by (try dsimp only at hSw); go_simp⟩) hHeld ?_
            try simp only [Act.put, List.getElem_toArray, List.getElem_cons_succ, List.getElem_cons_zero, List.setIfInBounds_toArray, List.set_cons_zero, List.set_cons_succ]
            refine wpAnyH_take (i := 12) (v := .pointer (some ⟨b6, k, none⟩)) rfl (by kernel_rfl) (by kernel_rfl) (by kernel_rfl) (fun _ _ _ h => h) (Or.inl ⟨by rfl, fun wq hSw => by (try dsimp only at hSw); go_simp⟩) hHeld ?_
            try simp only [Act.put, List.getElem_toArray, List.getElem_cons_succ, List.getElem_cons_zero, List.setIfInBounds_toArray, List.set_cons_zero, List.set_cons_succ]
            refine wpAnyH_take (i := 13) (v := .int .i64 (y : Int)) rfl (by kernel_rfl) (by kernel_rfl) (by kernel_rfl) (fun _ _ _ h => h) (Or.inl ⟨by rfl, fun wq hSw => by (try dsimp only at hSw); go_simp⟩) hHeld ?_
            try simp only [Act.put, List.getElem_toArray, List.getElem_cons_succ, List.getElem_cons_zero, List.setIfInBounds_toArray, List.set_cons_zero, List.set_cons_succ]
            refine wpAnyH_ready (rs := [8]) (by kernel_rfl) (by simp) ?_
            refine AllReadyH.cons rfl (fun K hK => ?_) AllReadyH.nil
            go_simp
            refine hK.out _ _ s15 (fun hHeld => ?_)
            clear hK K
            try simp only [Act.put, List.getElem_toArray, List.getElem_cons_succ, List.getElem_cons_zero, List.setIfInBounds_toArray, List.set_cons_zero, List.set_cons_succ]
            refine wpAnyH_take (i := 14) (v := .int .i64 ((x : Int) + (y : Int))) rfl (by kernel_rfl) (by kernel_rfl) (by kernel_rfl) (fun _ _ _ h => h) (Or.inl ⟨by rfl, fun wq hSw => by (try dsimp only at hSw); go_simp⟩) hHeld ?_
            try simp only [Act.put, List.getElem_toArray, List.getElem_cons_succ, List.getElem_cons_zero, List.setIfInBounds_toArray, List.set_cons_zero, List.set_cons_succ]
            refine wpAnyH_take (i := 15) (v := .pointer (some ⟨b6, a, none⟩)) rfl (by kernel_rfl) (by kernel_rfl) (by kernel_rfl) (fun _ _ _ h => h) (Or.inl ⟨by rfl, fun wq hSw => by (try dsimp only at hSw); go_simp⟩) hHeld ?_
            try simp only [Act.put, List.getElem_toArray, List.getElem_cons_succ, List.getElem_cons_zero, List.setIfInBounds_toArray, List.set_cons_zero, List.set_cons_succ]
            refine wpAnyH_ready (rs := [16]) (by kernel_rfl) (by simp) ?_
            refine AllReadyH.cons rfl (fun K hK => ?_) AllReadyH.nil
            go_simp
            refine hK.out _ _ t15 (fun hHeld => ?_)
            clear hK K
            try simp only [Act.put, List.getElem_toArray, List.getElem_cons_succ, List.getElem_cons_zero, List.setIfInBounds_toArray, List.set_cons_zero, List.set_cons_succ]
            refine wpAnyH_done (by kernel_rfl) ?_ _
            clear s15 t15 hHeld cxd fxd cx fx hwk
            go_wp2_with fail
            exact ⟨⟨k - 1, by omega, by rw [show ((k - 1 : Nat) : Int) = (k : Int) - 1 by omega], _, hI2.out, hsz2.out⟩, by simp [intOf]; omega⟩
          · obtain rfl : k = 0 := by omega
            have hszF : ∀ v, v < M → sz v = 1 + ks ab sz 1 v (M - 1) := fun v hv => hsz.sz v hv
            obtain ⟨W9, hW9⟩ : ∃ W9, Kp (W9 = wr.alloc (Go.Obj.cells #[.int .i64 1] 2)) := ⟨_, ⟨rfl⟩⟩
            have hB9 : Below wr.heap.size wr W9 := by rw [hW9.out]; exact bel_alloc _ _
            have ho9 : At W9 wr.heap.size 0 (.int .i64 1) := by rw [hW9.out]; exact at_cells (new_cells _ _) rfl
            have hI9 := hI.keep hB9
            have CR9 := Kp.mk (CR.out _ _ ho9)
            have hb47 : b4 < wr.heap.size ∧ b5 < wr.heap.size ∧ b6 < wr.heap.size ∧ Bd < wr.heap.size := ⟨hI.r4.lt, hI.r5.lt, hI.r6.lt, (Array.getElem?_eq_some_iff.1 hI.bx).1⟩
            have hs9 : wr.heap.size ≤ W9.heap.size := hB9.size
            have hszM : sz 0 ≤ M := hsz.le 0 hM0
            replace hI := Kp.mk hI
            replace hI9 := Kp.mk hI9
            replace hsz := Kp.mk hsz
            replace hszF := Kp.mk hszF
            go_wp2_with fail
            rw [← hW9.out]
            clear hW9
            refine CR9.out.mono ?_
            rintro e W10 ⟨rfl, hfree, hB10⟩
            obtain ⟨b7, hb7⟩ : ∃ b, Kp (W9.heap.size = b) := ⟨_, ⟨rfl⟩⟩
            rw [hb7.out] at hfree ⊢
            rw [hb7.out] at hs9
            have hI10 := hI9.out.keep hB10
            have hst0 := Sts.start (M := M) (ab := ab) (sz := sz) hszM
            replace hI10 := Kp.mk hI10
            replace hfree := Kp.mk hfree
            replace hst0 := Kp.mk hst0
            obtain ⟨q4, q5, q6, q7⟩ := hb47
            go_wp2_with fail
            go_loopw [12] (fun s wr => ∃ k : Nat, 1 ≤ k ∧ k ≤ M ∧ s = .int .i64 k ∧ ∃ (st fr : Nat → Nat), DoI nx M nb Bd b1 b2 b3 b4 b5 b6 c1 c2 prs Ro w wr ab st sz ∧ RowI wr b7 M (fun i => (fr i : Int)) ∧ Sts M ab sz st fr k) (fun s _ => M - (intOf s).toNat)
            case atStart => exact ⟨1, Nat.le_refl _, by omega, rfl, _, _, hI10.out, hfree.out, hst0.out⟩
            case round =>
              clear hI10 hfree hst0
              obtain ⟨k, hk1, hkM, rfl, st, fr, hI, hfree, hst⟩ := hrel
              have k0 : (0 : Int) ≤ (k : Int) := by omega
              by_cases hlt : k < M
              · have k1 : (k : Int) < (M : Int) := by omega
                obtain ⟨hle, hst2⟩ := hst.step (by omega) hlt hlab.out hszF.out
                have hak := hlab.out k (by omega) hlt
                have ca := hI.r4.at hlt
                obtain ⟨a, ha⟩ : ∃ a, ab k = a := ⟨_, rfl⟩
                rw [ha] at hle hst2 hak ca
                have cy := hI.r6.at hlt
                obtain ⟨y, hy⟩ : ∃ y, sz k = y := ⟨_, rfl⟩
                rw [hy] at hle hst2 cy
                have cf := hfree.at (i := a) (by omega)
                obtain ⟨f, hf⟩ : ∃ f, fr a = f := ⟨_, rfl⟩
                rw [hf] at hle hst2 cf
                have a0 : (0 : Int) ≤ (a : Int) := by omega
                have a1 : (a : Int) < (M : Int) := by omega
                have x3 := at_cells hI.bx (j := 3) rfl
                have x4 := at_cells hI.bx (j := 4) rfl
                have c5 := hI.r5.at hlt
                have f5 := hI.r5.rw k
                have hID := hI.keep (bel_drew wr)
                have hfD := hfree.keep (bel_drew wr)
                have hIA := hID.set (b := b5) (j := k) (y := f) ⟨by omega, by omega, by omega, by omega, by omega⟩ hlt (.inr ⟨Ne.symm n45, rfl⟩) (.inl ⟨rfl, rfl⟩) (.inr ⟨n56, rfl⟩)
                have hfA := hfD.setOther (.int .i64 (f : Int)) (b' := b5) (j := k) (by omega)
                obtain ⟨WA, hWA⟩ : ∃ W, Kp (W = (wr.setCell ⟨b5, k, none⟩ (.int .i64 (f : Int))).drew) := ⟨_, ⟨rfl⟩⟩
                have s21 : wr.drew.cell? ⟨Bd, 4, none⟩ = some (.slice (some ⟨b5, 0, none⟩) M M) ∧ wr.drew.cell? ⟨b7, a, none⟩ = some (.int .i64 (f : Int)) := ⟨x4, cf⟩
                have t21 : (wr.drew.setCell ⟨b5, k, none⟩ (.int .i64 (f : Int))).cell? ⟨Bd, 4, none⟩ = some (.slice (some ⟨b5, 0, none⟩) M M) ∧ (wr.drew.setCell ⟨b5, k, none⟩ (.int .i64 (f : Int))).cell? ⟨b7, a, none⟩ = some (.int .i64 (f : Int)) := ⟨at_cells hIA.bx (j := 4) rfl, by have := hfA.at (i := a) (by omega); rwa [hf] at this⟩
                have c5d : wr.drew.cell? ⟨b5, k, none⟩ = _ := c5
                have f5d : wr.drew.frozen? ⟨b5, k, none⟩ = false := f5
                rw [show wr.drew.setCell ⟨b5, k, none⟩ (.int .i64 (f : Int)) = (wr.setCell ⟨b5, k, none⟩ (.int .i64 (f : Int))).drew from rfl, ← hWA.out] at hIA hfA
                have hIAd := hIA.keep (bel_drew WA)
                have hfAd := hfA.keep (bel_drew WA)
                have hIB := hIAd.set (b := b7) (j := a) (y := f + y) ⟨by omega, by omega, by omega, by omega, by omega⟩ (by omega) (.inr ⟨by omega, rfl⟩) (.inr ⟨by omega, rfl⟩) (.inr ⟨by omega, rfl⟩)
                have hfB := hfAd.set (j := a) (by omega) ((f + y : Nat) : Int)
                have hfy : ((f + y : Nat) : Int) = (f : Int) + (y : Int) := by omega
                rw [hfy] at hIB hfB
                have s22 : WA.drew.cell? ⟨Bd, 5, none⟩ = some (.slice (some ⟨b6, 0, none⟩) M M) ∧ WA.drew.cell? ⟨b6, k, none⟩ = some (.int .i64 (y : Int)) := ⟨at_cells hIAd.bx (j := 5) rfl, by have := hIAd.r6.at hlt; rwa [hy] at this⟩
                have t22 : (WA.drew.setCell ⟨b7, a, none⟩ (.int .i64 ((f : Int) + (y : Int)))).cell? ⟨Bd, 5, none⟩ = some (.slice (some ⟨b6, 0, none⟩) M M) ∧ (WA.drew.setCell ⟨b7, a, none⟩ (.int .i64 ((f : Int) + (y : Int)))).cell? ⟨b6, k, none⟩ = some (.int .i64 (y : Int)) := ⟨at_cells hIB.bx (j := 5) rfl, by have := hIB.r6.at hlt; rwa [hy] at this⟩
                have cfA : WA.drew.cell? ⟨b7, a, none⟩ = some (.int .i64 (f : Int)) := by have := hfAd.at (i := a) (by omega); rwa [hf] at this
                have cfA' : WA.cell? ⟨b7, a, none⟩ = some (.int .i64 (f : Int)) := cfA
                have ffA : WA.drew.frozen? ⟨b7, a, none⟩ = false := hfAd.rw a
                have ffA' : WA.frozen? ⟨b7, a, none⟩ = false := ffA
                obtain ⟨WB, hWB⟩ : ∃ W, Kp (W = (WA.setCell ⟨b7, a, none⟩ (.int .i64 ((f : Int) + (y : Int)))).drew) := ⟨_, ⟨rfl⟩⟩
                rw [show WA.drew.setCell ⟨b7, a, none⟩ (.int .i64 ((f : Int) + (y : Int))) = (WA.setCell ⟨b7, a, none⟩ (.int .i64 ((f : Int) + (y : Int)))).drew from rfl, ← hWB.out] at hIB hfB
                have hIC := hIB.set (b := b7) (j := k) (y := f + 1) ⟨by omega, by omega, by omega, by omega, by omega⟩ hlt (.inr ⟨by omega, rfl⟩) (.inr ⟨by omega, rfl⟩) (.inr ⟨by omega, rfl⟩)
                have hfC := hfB.set (j := k) hlt ((f + 1 : Nat) : Int)
                have hf1 : ((f + 1 : Nat) : Int) = (f : Int) + 1 := by omega
                rw [hf1] at hIC hfC
                have hfC2 : RowI (WB.setCell ⟨b7, k, none⟩ (.int .i64 ((f : Int) + 1))) b7 M (fun i => (setN (setN fr a (f + y)) k (f + 1) i : Int)) := hfC.congr (fun i hi => by
                  by_cases e : i = k
                  · subst e; rw [setN_same, upd_same]; omega
                  · rw [setN_other _ _ e, upd_other _ _ _ _ e]
                    by_cases e2 : i = a
                    · subst e2; rw [setN_same, upd_same]; omega
                    · rw [setN_other _ _ e2, upd_other _ _ _ _ e2])
                have z4 := at_cells hIB.bx (j := 4) rfl
                have z5 := hIB.r5.at hlt
                rw [setN_same] at z5
                have z7 := hfB.at hlt
                have zf := hfB.rw k
                have hwk : IntKind.i64.wrap ((f : Int) + (y : Int)) = (f : Int) + (y : Int) := by rw [IntKind.wrap_i64]; omega
                have hfb : (f : Int) + 1 ≤ 1048577 := by omega
                have hf0 : (0 : Int) ≤ (f : Int) := by omega
                replace hI := Kp.mk hI
                replace hID := Kp.mk hID
                replace hfD := Kp.mk hfD
                replace hIA := Kp.mk hIA
                replace hfA := Kp.mk hfA
                replace hIAd := Kp.mk hIAd
                replace hfAd := Kp.mk hfAd
                replace hIB := Kp.mk hIB
                replace hfB := Kp.mk hfB
                replace hIC := Kp.mk hIC
                replace hfC := Kp.mk hfC
                replace hfC2 := Kp.mk hfC2
                replace hfree := Kp.mk hfree
                replace hst := Kp.mk hst
                replace hst2 := Kp.mk hst2
                replace ha := Kp.mk ha
                replace hy := Kp.mk hy
                replace hf := Kp.mk hf
                replace hfy := Kp.mk hfy
                replace hf1 := Kp.mk hf1
                go_upto_region 21 with fail
                refine wp_region_held_drew (S := fun W' => W'.cell? ⟨Bd, 4, none⟩ = some (.slice (some ⟨b5, 0, none⟩) M M) ∧ W'.cell? ⟨b7, a, none⟩ = some (.int .i64 (f : Int))) (by kernel_rfl) s21 (fun hHeld => ?_)
                refine wpAnyH_take (i := 0) (v := .pointer (some ⟨Bd, 4, none⟩)) rfl (by kernel_rfl) (by kernel_rfl) (by kernel_rfl) (fun _ _ _ h => h) (Or.inl ⟨by rfl, fun wq hSw => by (try dsimp only at hSw); go_simp⟩) hHeld ?_
                try simp only [Act.put, List.getElem_toArray, List.getElem_cons_succ, List.getElem_cons_zero, List.setIfInBounds_toArray, List.set_cons_zero, List.set_cons_succ]
                refine wpAnyH_take (i := 1) (v := .slice (some ⟨b5, 0, none⟩) M M) rfl (by kernel_rfl) (by kernel_rfl) (by kernel_rfl) (fun _ _ _ h => h) (Or.inl ⟨by rfl, fun wq hSw => by (try dsimp only at hSw); go_simp⟩) hHeld ?_
                try simp only [Act.put, List.getElem_toArray, List.getElem_cons_succ, List.getElem_cons_zero, List.setIfInBounds_toArray, List.set_cons_zero, List.set_cons_succ]
                refine wpAnyH_take (i := 2) (v := .int .i64 (k : Int)) rfl (by kernel_rfl) (by kernel_rfl) (by kernel_rfl) (fun _ _ _ h => h) (Or.inl ⟨by rfl, fun wq hSw => by (try dsimp only at hSw); go_simp⟩) hHeld ?_
                try simp only [Act.put, List.getElem_toArray, List.getElem_cons_succ, List.getElem_cons_zero, List.setIfInBounds_toArray, List.set_cons_zero, List.set_cons_succ]
                refine wpAnyH_take (i := 3) (v := .slice (some ⟨b7, 0, none⟩) M M) rfl (by kernel_rfl) (by kernel_rfl) (by kernel_rfl) (fun _ _ _ h => h) (Or.inl ⟨by rfl, fun wq hSw => by (try dsimp only at hSw); go_simp⟩) hHeld ?_
                try simp only [Act.put, List.getElem_toArray, List.getElem_cons_succ, List.getElem_cons_zero, List.setIfInBounds_toArray, List.set_cons_zero, List.set_cons_succ]
                refine wpAnyH_take (i := 4) (v := .int .i64 (a : Int)) rfl (by kernel_rfl) (by kernel_rfl) (by kernel_rfl) (fun _ _ _ h => h) (Or.inl ⟨by rfl, fun wq hSw => by (try dsimp only at hSw); go_simp⟩) hHeld ?_
                try simp only [Act.put, List.getElem_toArray, List.getElem_cons_succ, List.getElem_cons_zero, List.setIfInBounds_toArray, List.set_cons_zero, List.set_cons_succ]
                refine wpAnyH_take (i := 5) (v := .pointer (some ⟨b7, a, none⟩)) rfl (by kernel_rfl) (by kernel_rfl) (by kernel_rfl) (fun _ _ _ h => h) (Or.inl ⟨by rfl, fun wq hSw => by (try dsimp only at hSw); go_simp⟩) hHeld ?_
                try simp only [Act.put, List.getElem_toArray, List.getElem_cons_succ, List.getElem_cons_zero, List.setIfInBounds_toArray, List.set_cons_zero, List.set_cons_succ]
                refine wpAnyH_take (i := 6) (v := .int .i64 (f : Int)) rfl (by kernel_rfl) (by kernel_rfl) (by kernel_rfl) (fun _ _ _ h => h) (Or.inl ⟨by rfl, fun wq hSw => by (try dsimp only at hSw); go_simp⟩) hHeld ?_
                try simp only [Act.put, List.getElem_toArray, List.getElem_cons_succ, List.getElem_cons_zero, List.setIfInBounds_toArray, List.set_cons_zero, List.set_cons_succ]
                refine wpAnyH_take (i := 7) (v := .pointer (some ⟨b5, k, none⟩)) rfl (by kernel_rfl) (by kernel_rfl) (by kernel_rfl) (fun _ _ _ h => h) (Or.inl ⟨by rfl, fun wq hSw => by (try dsimp only at hSw); go_simp⟩) hHeld ?_
                try simp only [Act.put, List.getElem_toArray, List.getElem_cons_succ, List.getElem_cons_zero, List.setIfInBounds_toArray, List.set_cons_zero, List.set_cons_succ]
                refine wpAnyH_ready (rs := [8]) (by kernel_rfl) (by simp) ?_
                refine AllReadyH.cons rfl (fun K hK => ?_) AllReadyH.nil
                go_simp
                refine hK.out _ _ t21 (fun hHeld => ?_)
                clear hK K
                try simp only [Act.put, List.getElem_toArray, List.getElem_cons_succ, List.getElem_cons_zero, List.setIfInBounds_toArray, List.set_cons_zero, List.set_cons_succ]
                refine wpAnyH_done (by kernel_rfl) ?_ _
                go_upto_region 22 with fail
                rw [← hWA.out]
                clear s21 t21 c5 f5 c5d f5d x3 x4 ca cf cy hHeld
                refine wp_region_held_drew (S := fun W' => W'.cell? ⟨Bd, 5, none⟩ = some (.slice (some ⟨b6, 0, none⟩) M M) ∧ W'.cell? ⟨b6, k, none⟩ = some (.int .i64 (y : Int))) (by kernel_rfl) s22 (fun hHeld => ?_)
                refine wpAnyH_take (i := 0) (v := .slice (some ⟨b7, 0, none⟩) M M) rfl (by kernel_rfl) (by kernel_rfl) (by kernel_rfl) (fun _ _ _ h => h) (Or.inl ⟨by rfl, fun wq hSw => by (try dsimp only at hSw); go_simp⟩) hHeld ?_
                try simp only [Act.put, List.getElem_toArray, List.getElem_cons_succ, List.getElem_cons_zero, List.setIfInBounds_toArray, List.set_cons_zero, List.set_cons_succ]
                refine wpAnyH_take (i := 1) (v := .int .i64 (a : Int)) rfl (by kernel_rfl) (by kernel_rfl) (by kernel_rfl) (fun _ _ _ h => h) (Or.inl ⟨by rfl, fun wq hSw => by (try dsimp only at hSw); go_simp⟩) hHeld ?_
                try simp only [Act.put, List.getElem_toArray, List.getElem_cons_succ, List.getElem_cons_zero, List.setIfInBounds_toArray, List.set_cons_zero, List.set_cons_succ]
                refine wpAnyH_take (i := 2) (v := .pointer (some ⟨b7, a, none⟩)) rfl (by kernel_rfl) (by kernel_rfl) (by kernel_rfl) (fun _ _ _ h => h) (Or.inl ⟨by rfl, fun wq hSw => by (try dsimp only at hSw); go_simp⟩) hHeld ?_
                try simp only [Act.put, List.getElem_toArray, List.getElem_cons_succ, List.getElem_cons_zero, List.setIfInBounds_toArray, List.set_cons_zero, List.set_cons_succ]
                refine wpAnyH_take (i := 4) (v := .pointer (some ⟨Bd, 5, none⟩)) rfl (by kernel_rfl) (by kernel_rfl) (by kernel_rfl) (fun _ _ _ h => h) (Or.inl ⟨by rfl, fun wq hSw => by (try dsimp only at hSw); go_simp⟩) hHeld ?_
                try simp only [Act.put, List.getElem_toArray, List.getElem_cons_succ, List.getElem_cons_zero, List.setIfInBounds_toArray, List.set_cons_zero, List.set_cons_succ]
                refine wpAnyH_take (i := 5) (v := .slice (some ⟨b6, 0, none⟩) M M) rfl (by kernel_rfl) (by kernel_rfl) (by kernel_rfl) (fun _ _ _ h => h) (Or.inl ⟨by rfl, fun wq hSw => by (try dsimp only at hSw); go_simp⟩) hHeld ?_
                try simp only [Act.put, List.getElem_toArray, List.getElem_cons_succ, List.getElem_cons_zero, List.setIfInBounds_toArray, List.set_cons_zero, List.set_cons_succ]
                refine wpAnyH_take (i := 6) (v := .int .i64 (k : Int)) rfl (by kernel_rfl) (by kernel_rfl) (by kernel_rfl) (fun _ _ _ h => h) (Or.inl ⟨by rfl, fun wq hSw => by (try dsimp only at hSw); go_simp⟩) hHeld ?_
                try simp only [Act.put, List.getElem_toArray, List.getElem_cons_succ, List.getElem_cons_zero, List.setIfInBounds_toArray, List.set_cons_zero, List.set_cons_succ]
                refine wpAnyH_take (i := 7) (v := .pointer (some ⟨b6, k, none⟩)) rfl (by kernel_rfl) (by kernel_rfl) (by kernel_rfl) (fun _ _ _ h => h) (Or.inl ⟨by rfl, fun wq hSw => by (try dsimp only at hSw); go_simp⟩) hHeld ?_
                try simp only [Act.put, List.getElem_toArray, List.getElem_cons_succ, List.getElem_cons_zero, List.setIfInBounds_toArray, List.set_cons_zero, List.set_cons_succ]
                refine wpAnyH_take (i := 8) (v := .int .i64 (y : Int)) rfl (by kernel_rfl) (by kernel_rfl) (by kernel_rfl) (fun _ _ _ h => h) (Or.inl ⟨by rfl, fun wq hSw => by (try dsimp only at hSw); go_simp⟩) hHeld ?_
                try simp only [Act.put, List.getElem_toArray, List.getElem_cons_succ, List.getElem_cons_zero, List.setIfInBounds_toArray, List.set_cons_zero, List.set_cons_succ]
                refine wpAnyH_ready (rs := [3]) (by kernel_rfl) (by simp) ?_
                refine AllReadyH.cons rfl (fun K hK => ?_) AllReadyH.nil
                go_simp
                refine hK.out _ _ s22 (fun hHeld => ?_)
                clear hK K
                try simp only [Act.put, List.getElem_toArray, List.getElem_cons_succ, List.getElem_cons_zero, List.setIfInBounds_toArray, List.set_cons_zero, List.set_cons_succ]
                refine wpAnyH_take (i := 9) (v := .int .i64 ((f : Int) + (y : Int))) rfl (by kernel_rfl) (by kernel_rfl) (by kernel_rfl) (fun _ _ _ h => h) (Or.inl ⟨by rfl, fun wq hSw => by (try dsimp only at hSw); go_simp⟩) hHeld ?_
                try simp only [Act.put, List.getElem_toArray, List.getElem_cons_succ, List.getElem_cons_zero, List.setIfInBounds_toArray, List.set_cons_zero, List.set_cons_succ]
                refine wpAnyH_take (i := 10) (v := .pointer (some ⟨b7, a, none⟩)) rfl (by kernel_rfl) (by kernel_rfl) (by kernel_rfl) (fun _ _ _ h => h) (Or.inl ⟨by rfl, fun wq hSw => by (try dsimp only at hSw); go_simp⟩) hHeld ?_
                try simp only [Act.put, List.getElem_toArray, List.getElem_cons_succ, List.getElem_cons_zero, List.setIfInBounds_toArray, List.set_cons_zero, List.set_cons_succ]
                refine wpAnyH_ready (rs := [11]) (by kernel_rfl) (by simp) ?_
                refine AllReadyH.cons rfl (fun K hK => ?_) AllReadyH.nil
                go_simp
                refine hK.out _ _ t22 (fun hHeld => ?_)
                clear hK K
                try simp only [Act.put, List.getElem_toArray, List.getElem_cons_succ, List.getElem_cons_zero, List.setIfInBounds_toArray, List.set_cons_zero, List.set_cons_succ]
                refine wpAnyH_done (by kernel_rfl) ?_ _
                go_upto_region 23 with fail
                rw [← hWB.out]
                clear s22 t22 cfA cfA' ffA ffA' hHeld
                go_wp2_with fail
                exact ⟨⟨k + 1, by omega, by omega, by go_num, _, _, hIC.out, hfC2.out, hst2.out⟩, by simp [intOf]; omega⟩
              · obtain rfl : M = k := by omega
                have hStr := hst.stretch hlab.out hszF.out
                have y0 := at_cells hI.bx (j := 0) rfl
                have y1 := at_cells hI.bx (j := 1) rfl
                have y2 := at_cells hI.bx (j := 2) rfl
                have y3 := at_cells hI.bx (j := 3) rfl
                have y4 := at_cells hI.bx (j := 4) rfl
                have y5 := at_cells hI.bx (j := 5) rfl
                have hrr := hI.rr
                rw [hRo.out] at hrr
                have r0 := at_cells hrr (j := 0) rfl
                have r1 := at_cells hrr (j := 1) rfl
                have r2 := at_cells hrr (j := 2) rfl
                have r3 := at_cells hrr (j := 3) rfl
                have r4 := at_cells hrr (j := 4) rfl
                have r5 := at_cells hrr (j := 5) rfl
                have e0 := rw_cells hrr 0
                have e1 := rw_cells hrr 1
                have e2 := rw_cells hrr 2
                have e3 := rw_cells hrr 3
                have e4 := rw_cells hrr 4
                have e5 := rw_cells hrr 5
                have nb1 : b1 ≠ w.heap.size + 1 := fun e => by
                  obtain ⟨cur, q, -⟩ := hI.r1.ex
                  rw [e, hrr] at q
                  have := (Obj.cells.inj (Option.some.inj q)).2.1
                  revert this; decide
                have nb2 : b2 ≠ w.heap.size + 1 := fun e => by
                  obtain ⟨cur, q, -⟩ := hI.r2.ex
                  rw [e, hrr] at q
                  have := (Obj.cells.inj (Option.some.inj q)).2.1
                  revert this; decide
                have nb3 : b3 ≠ w.heap.size + 1 := fun e => by
                  obtain ⟨cur, q, -⟩ := hI.r3.ex
                  rw [e, hrr] at q
                  have := (Obj.cells.inj (Option.some.inj q)).2.1
                  revert this; decide
                replace hI := Kp.mk hI
                replace hst := Kp.mk hst
                replace hfree := Kp.mk hfree
                replace hStr := Kp.mk hStr
                replace hrr := Kp.mk hrr
                go_wp2_with fail
                obtain ⟨F1, hF1⟩ : ∃ W, Kp (W = wr.setCell ⟨w.heap.size + 1, 0, none⟩ (.slice (some ⟨b1, 0, none⟩) M c1)) := ⟨_, ⟨rfl⟩⟩
                rw [← hF1.out]
                have eF1 : ∀ k, k ≠ w.heap.size + 1 → F1.heap[k]? = wr.heap[k]? := fun k hk => by rw [hF1.out]; exact heap_set _ _ _ _ _ hk
                have gF1 : F1.heap[w.heap.size + 1]? = some (Go.Obj.cells #[.slice (some ⟨b1, 0, none⟩) M c1, .slice none 0 0, .slice none 0 0, .slice none 0 0, .slice none 0 0, .slice none 0 0] 58 (0, 0)) := by rw [hF1.out]; exact (set_cells hrr.out 0 _).trans rfl
                have zF1 : F1.heap.size = wr.heap.size := by rw [hF1.out]; simp [World.setCell]
                have oF1 : F1.os = wr.os ∧ F1.tape = wr.tape ∧ F1.output = wr.output := by rw [hF1.out]; exact ⟨rfl, rfl, rfl⟩
                obtain ⟨F2, hF2⟩ : ∃ W, Kp (W = F1.setCell ⟨w.heap.size + 1, 1, none⟩ (.slice (some ⟨b2, 0, none⟩) M c2)) := ⟨_, ⟨rfl⟩⟩
                rw [← hF2.out]
                have eF2 : ∀ k, k ≠ w.heap.size + 1 → F2.heap[k]? = F1.heap[k]? := fun k hk => by rw [hF2.out]; exact heap_set _ _ _ _ _ hk
                have gF2 : F2.heap[w.heap.size + 1]? = some (Go.Obj.cells #[.slice (some ⟨b1, 0, none⟩) M c1, .slice (some ⟨b2, 0, none⟩) M c2, .slice none 0 0, .slice none 0 0, .slice none 0 0, .slice none 0 0] 58 (0, 0)) := by rw [hF2.out]; exact (set_cells gF1 1 _).trans rfl
                have zF2 : F2.heap.size = F1.heap.size := by rw [hF2.out]; simp [World.setCell]
                have oF2 : F2.os = F1.os ∧ F2.tape = F1.tape ∧ F2.output = F1.output := by rw [hF2.out]; exact ⟨rfl, rfl, rfl⟩
                obtain ⟨F3, hF3⟩ : ∃ W, Kp (W = F2.setCell ⟨w.heap.size + 1, 2, none⟩ (.slice (some ⟨b3, 0, none⟩) nb nb)) := ⟨_, ⟨rfl⟩⟩
                rw [← hF3.out]
                have eF3 : ∀ k, k ≠ w.heap.size + 1 → F3.heap[k]? = F2.heap[k]? := fun k hk => by rw [hF3.out]; exact heap_set _ _ _ _ _ hk
                have gF3 : F3.heap[w.heap.size + 1]? = some (Go.Obj.cells #[.slice (some ⟨b1, 0, none⟩) M c1, .slice (some ⟨b2, 0, none⟩) M c2, .slice (some ⟨b3, 0, none⟩) nb nb, .slice none 0 0, .slice none 0 0, .slice none 0 0] 58 (0, 0)) := by rw [hF3.out]; exact (set_cells gF2 2 _).trans rfl
                have zF3 : F3.heap.size = F2.heap.size := by rw [hF3.out]; simp [World.setCell]
                have oF3 : F3.os = F2.os ∧ F3.tape = F2.tape ∧ F3.output = F2.output := by rw [hF3.out]; exact ⟨rfl, rfl, rfl⟩
                obtain ⟨F4, hF4⟩ : ∃ W, Kp (W = F3.setCell ⟨w.heap.size + 1, 3, none⟩ (.slice (some ⟨b4, 0, none⟩) M M)) := ⟨_, ⟨rfl⟩⟩
                rw [← hF4.out]
                have eF4 : ∀ k, k ≠ w.heap.size + 1 → F4.heap[k]? = F3.heap[k]? := fun k hk => by rw [hF4.out]; exact heap_set _ _ _ _ _ hk
                have gF4 : F4.heap[w.heap.size + 1]? = some (Go.Obj.cells #[.slice (some ⟨b1, 0, none⟩) M c1, .slice (some ⟨b2, 0, none⟩) M c2, .slice (some ⟨b3, 0, none⟩) nb nb, .slice (some ⟨b4, 0, none⟩) M M, .slice none 0 0, .slice none 0 0] 58 (0, 0)) := by rw [hF4.out]; exact (set_cells gF3 3 _).trans rfl
                have zF4 : F4.heap.size = F3.heap.size := by rw [hF4.out]; simp [World.setCell]
                have oF4 : F4.os = F3.os ∧ F4.tape = F3.tape ∧ F4.output = F3.output := by rw [hF4.out]; exact ⟨rfl, rfl, rfl⟩
                obtain ⟨F5, hF5⟩ : ∃ W, Kp (W = F4.setCell ⟨w.heap.size + 1, 4, none⟩ (.slice (some ⟨b5, 0, none⟩) M M)) := ⟨_, ⟨rfl⟩⟩
                rw [← hF5.out]
                have eF5 : ∀ k, k ≠ w.heap.size + 1 → F5.heap[k]? = F4.heap[k]? := fun k hk => by rw [hF5.out]; exact heap_set _ _ _ _ _ hk
                have gF5 : F5.heap[w.heap.size + 1]? = some (Go.Obj.cells #[.slice (some ⟨b1, 0, none⟩) M c1, .slice (some ⟨b2, 0, none⟩) M c2, .slice (some ⟨b3, 0, none⟩) nb nb, .slice (some ⟨b4, 0, none⟩) M M, .slice (some ⟨b5, 0, none⟩) M M, .slice none 0 0] 58 (0, 0)) := by rw [hF5.out]; exact (set_cells gF4 4 _).trans rfl
                have zF5 : F5.heap.size = F4.heap.size := by rw [hF5.out]; simp [World.setCell]
                have oF5 : F5.os = F4.os ∧ F5.tape = F4.tape ∧ F5.output = F4.output := by rw [hF5.out]; exact ⟨rfl, rfl, rfl⟩
                obtain ⟨F6, hF6⟩ : ∃ W, Kp (W = F5.setCell ⟨w.heap.size + 1, 5, none⟩ (.slice (some ⟨b6, 0, none⟩) M M)) := ⟨_, ⟨rfl⟩⟩
                rw [← hF6.out]
                have eF6 : ∀ k, k ≠ w.heap.size + 1 → F6.heap[k]? = F5.heap[k]? := fun k hk => by rw [hF6.out]; exact heap_set _ _ _ _ _ hk
                have gF6 : F6.heap[w.heap.size + 1]? = some (Go.Obj.cells #[.slice (some ⟨b1, 0, none⟩) M c1, .slice (some ⟨b2, 0, none⟩) M c2, .slice (some ⟨b3, 0, none⟩) nb nb, .slice (some ⟨b4, 0, none⟩) M M, .slice (some ⟨b5, 0, none⟩) M M, .slice (some ⟨b6, 0, none⟩) M M] 58 (0, 0)) := by rw [hF6.out]; exact (set_cells gF5 5 _).trans rfl
                have zF6 : F6.heap.size = F5.heap.size := by rw [hF6.out]; simp [World.setCell]
                have oF6 : F6.os = F5.os ∧ F6.tape = F5.tape ∧ F6.output = F5.output := by rw [hF6.out]; exact ⟨rfl, rfl, rfl⟩
                have hF : ∀ k, k ≠ w.heap.size + 1 → F6.heap[k]? = wr.heap[k]? := fun k hk => by rw [eF6 k hk, eF5 k hk, eF4 k hk, eF3 k hk, eF2 k hk, eF1 k hk]
                have hF1 := gF6
                have hFs : F6.heap.size = wr.heap.size := by omega
                have hFo : F6.os = wr.os ∧ F6.tape = wr.tape ∧ F6.output = wr.output := ⟨by rw [oF6.1, oF5.1, oF4.1, oF3.1, oF2.1, oF1.1], by rw [oF6.2.1, oF5.2.1, oF4.2.1, oF3.2.1, oF2.2.1, oF1.2.1], by rw [oF6.2.2, oF5.2.2, oF4.2.2, oF3.2.2, oF2.2.2, oF1.2.2]⟩
                clear gF1 gF2 gF3 gF4 gF5 oF1 oF2 oF3 oF4 oF5 oF6 zF1 zF2 zF3 zF4 zF5 zF6 eF1 eF2 eF3 eF4 eF5 eF6
                have cc0 := at_cells hF1 (j := 0) rfl
                have cc1 := at_cells hF1 (j := 1) rfl
                have cc2 := at_cells hF1 (j := 2) rfl
                have cc3 := at_cells hF1 (j := 3) rfl
                have cc4 := at_cells hF1 (j := 4) rfl
                have cc5 := at_cells hF1 (j := 5) rfl
                refine bodyPost_ret (v := .agg #[.slice (some ⟨b1, 0, none⟩) M c1, .slice (some ⟨b2, 0, none⟩) M c2, .slice (some ⟨b3, 0, none⟩) nb nb, .slice (some ⟨b4, 0, none⟩) M M, .slice (some ⟨b5, 0, none⟩) M M, .slice (some ⟨b6, 0, none⟩) M M]) ?_ rfl ⟨ab, st, sz, _, rfl, ⟨b1, b2, b3, b4, b5, b6, c1, c2, nb, M, M, M, rfl, ?_, ?_, ?_, ?_, ?_, ?_, hc1⟩, ?_, hA.out, hDv.out, hnear.out, hStr.out, hst.out.top⟩
                · simp [results, Try.results30, go_sem, cc0, cc1, cc2, cc3, cc4, cc5]
                · exact hI.out.r1.same (hF _ nb1)
                · exact hI.out.r2.same (hF _ nb2)
                · exact hI.out.r3.same (hF _ nb3)
                · exact hI.out.r4.same (hF _ (by omega))
                · exact hI.out.r5.same (hF _ (by omega))
                · exact hI.out.r6.same (hF _ (by omega))
                · exact ⟨hFo.1.trans hI.out.bel.os, hFo.2.1.trans hI.out.bel.tape, hFo.2.2.trans hI.out.bel.output, by rw [hFs]; exact hI.out.bel.size, fun k hk => (hF k (by omega)).trans (hI.out.bel.block k hk)⟩
end Go.Proofs.Ytbfpfjkjeekbdaa
