/- The specification's order of a graph, by going down. -/
import Derived.Test.YtoajibpconhkdaaWs1
namespace Go.Proofs.Ytoajibpconhkdaa
open Go.ChangeShapes Go.WideShapes Go.ChangeAt Go.RowKit
set_option linter.unusedVariables false
set_option linter.unusedSimpArgs false
/-- 'make([]bool, n)'. -/
theorem mkSeen (n : Nat) (hn : n ≤ 1048576) : ∃ O : Obj, (∀ W : World, (Instr.makeSlice 80 (.int .i64 (n : Int)) (.int .i64 (n : Int))).run Try.prog W = .ok (.slice (some ⟨W.heap.size, 0, none⟩) n n) (W.alloc O)) ∧ ∀ W : World, SeenAt (W.alloc O) W.heap.size n [] := by
  obtain ⟨i, hi, hzz⟩ := Option.map_eq_some_iff.1 (show (Try.prog.info? 4).map (fun i => (i.zero, i.size, i.bytes)) = some (some (.bool false), 1, 1) by kernel_rfl)
  simp only [Prod.mk.injEq] at hzz
  obtain ⟨hz, hs, hbb⟩ := hzz
  refine ⟨.cells (madeCells (Value.bool false).cells (n * 1)) 4, fun W => ?_, fun W => ⟨_, new_cells W _, fun j hj => ?_⟩⟩
  · have hb' : (i.bytes : Int) * (n : Int) ≤ 281474976710656 := by rw [hbb]; omega
    have hr := run_make (P := Try.prog) W 80 4 i _ Try.underlying80 hi hz .i64 .i64 n n (by omega) (Int.le_refl _) hb' (by omega)
    simp only [Int.toNat_natCast, hs] at hr
    exact hr
  · have e := size_madeCells (Value.bool false).cells (n * 1)
    have hj2 : j < (madeCells (Value.bool false).cells (n * 1)).size := by rw [e]; omega
    rw [Array.getElem?_eq_getElem hj2]
    simp [madeCells, Value.cells, Nat.mod_one]
theorem own_base {w : World} {base base' size n : Nat} {e : TypeId} {v : Value} {xs : List Value} (h : w.ownsRow base e size v n xs) (hb : base' ≤ base) : w.ownsRow base' e size v n xs :=
  ⟨h.1, h.2.elim Or.inl (fun ⟨g, cap, cur, hv, hg, r⟩ => Or.inr ⟨g, cap, cur, hv, by omega, r⟩)⟩
/-- The lists that an order may be: of no blocks the empty one; else what a walk leaves, turned round. -/
def OrdOf (nx : Int → List Int) (n : Nat) (L : List Int) : Prop := (n = 0 ∧ L = []) ∨ (0 < n ∧ ∃ k M, Lw nx k [(0, nx 0)] [0] M ∧ L = M.reverse)
theorem Lw.det {nx : Int → List Int} {k k' : Nat} {st : List (Int × List Int)} {s L L' : List Int} (h : Lw nx k st s L) (h' : Lw nx k' st s L') : L = L' := by
  induction h generalizing k' L' with
  | nil s => cases h'; rfl
  | leave k b st s L h ih => cases h' with | leave _ _ _ _ L2 h2 => rw [ih h2]
  | skip k b c r st s L hc h ih =>
    cases h' with
    | skip _ _ _ _ _ _ _ hc2 h2 => exact ih h2
    | come _ _ _ _ _ _ L2 hc2 h2 => rw [hc] at hc2; cases hc2
  | come k b c r st s L hc h ih =>
    cases h' with
    | skip _ _ _ _ _ _ _ hc2 h2 => rw [hc] at hc2; cases hc2
    | come _ _ _ _ _ _ L2 hc2 h2 => exact ih h2
theorem OrdOf.det {nx : Int → List Int} {n : Nat} {L L' : List Int} (h : OrdOf nx n L) (h' : OrdOf nx n L') : L = L' := by
  rcases h with ⟨h0, rfl⟩ | ⟨h0, k, M, hM, rfl⟩
  · rcases h' with ⟨-, rfl⟩ | ⟨h1, -⟩
    · rfl
    · omega
  · rcases h' with ⟨h1, -⟩ | ⟨-, k', M', hM', rfl⟩
    · omega
    · rw [hM.det hM']
theorem Fr.own {w w' : World} {sb : Nat} {row : Option Nat} (h : Fr w w' sb row) {base size n : Nat} {e : TypeId} {v : Value} {xs : List Value} (ho : w.ownsRow base e size v n xs) (h1 : v.ownBlock ≠ some sb) (h2 : v.ownBlock = none ∨ v.ownBlock ≠ row) : w'.ownsRow base e size v n xs := by
  refine ⟨ho.1, ?_⟩
  rcases ho.2 with h0 | ⟨g, cap, cur, rfl, hb1, hg, rest⟩
  · exact .inl h0
  · refine .inr ⟨g, cap, cur, rfl, hb1, (h.block g (Array.getElem?_eq_some_iff.1 hg).1 (fun e => h1 (by rw [← e]; rfl)) (fun e => ?_)).trans hg, rest⟩
    rcases h2 with q | q
    · cases q
    · exact q e
set_option maxRecDepth 100000 in
set_option maxHeartbeats 8000000 in
theorem orderS (nx : Int → List Int) (n lo : Nat) (w : World) (vN vP : Value) (G : Rws lo w vN n (fun i => nx i)) (hP : ∃ a m c, vP = .slice a m c) (hn : n ≤ 1048576) (hnx : ∀ i : Nat, i < n → (nx i).length ≤ 1048576 ∧ ∀ y ∈ nx i, 0 ≤ y ∧ y < n) :
    Calls Try.prog 31 #[.agg #[vN, vP]] w fun e w' => ∃ v L, e = .returned v ∧ OrdOf nx n L ∧ L.length ≤ 1048576 ∧ OwnI w' w.heap.size v L ∧ Below w.heap.size w w' := by
  obtain ⟨ap, mp, cp, rfl⟩ := hP
  obtain ⟨_, _, ⟨⟨an, cn, rfl, -, -⟩, -⟩, -, -⟩ := G.ex
  obtain ⟨O, hmk, hSO⟩ := mkSeen n hn
  obtain ⟨i0, hi0, hz0, hz1, hz2⟩ := info_parts info64
  obtain ⟨Bo, hBo⟩ : ∃ Bo, Kp (Bo = Go.Obj.cells #[.slice an n cn, .slice ap mp cp] 59 (0, 0)) := ⟨_, ⟨rfl⟩⟩
  obtain ⟨W0, hW0⟩ : ∃ W0, Kp (W0 = (w.alloc (Go.Obj.cells #[.slice an n cn, .slice ap mp cp] 59)).alloc (Go.Obj.cells #[] 2)) := ⟨_, ⟨rfl⟩⟩
  have hbx : W0.heap[w.heap.size]? = some Bo := by rw [hW0.out, hBo.out]; exact keep_cells (new_cells w _) (bel_alloc _ _)
  have hown : W0.ownsRow (w.heap.size + 1) 2 1 (.slice (some ⟨w.heap.size + 1, 0, none⟩) 0 0) 0 [] := by
    have := World.ownsRow_made (base := w.heap.size + 1) (e := 2) (size := 1) (w.alloc (Go.Obj.cells #[.slice an n cn, .slice ap mp cp] 59)) #[] 0 (by simp) (Nat.zero_le _) rfl
    rw [hW0.out]
    rwa [World.size_alloc] at this
  have hB0 : Below w.heap.size w W0 := by rw [hW0.out]; exact bel_trans (bel_alloc _ _) (bel_alloc _ _)
  have hz0' : W0.heap.size = w.heap.size + 2 := by rw [hW0.out]; simp
  have SK : Kp (∀ W' : World, W'.heap[w.heap.size]? = some Bo → (W'.cell? ⟨w.heap.size, 0, none⟩ = some (.slice an n cn) ∧ W'.cell? ⟨w.heap.size, 1, none⟩ = some (.slice ap mp cp))) := ⟨fun W' h1 => by
    rw [hBo.out] at h1
    exact ⟨at_cells h1 rfl, at_cells h1 rfl⟩⟩
  have y0 := (SK.out W0 hbx).1
  by_cases h0 : n = 0
  · subst h0
    go_enter Try.func31, Try.ntmps31
    go_upto_region 2 with fail
    rw [← hW0.out]
    go_wp2_with fail
    go_ret
    exact ⟨_, [], rfl, .inl ⟨rfl, rfl⟩, by simp, ⟨own_base hown (by omega)⟩, hB0⟩
  · have hnp : 0 < n := by omega
    have hn0 : ((n : Int) == 0) = false := by simp; omega
    have CW := Kp.mk (walkS nx n lo (w.heap.size + 2) w an ap cn mp cp G hn hnx (by omega) n [] 0 [] (.slice none 0 0) (W0.drew.alloc O) (unS_nil n []) hnp rfl (bel_trans (bel_trans hB0 (bel_drew _)) (bel_alloc _ _)) (by have := hSO W0.drew; rwa [show W0.drew.heap.size = w.heap.size + 2 from hz0'] at this) ⟨World.ownsRow_nil _ _ _ _⟩ (by have := unS_nil n []; simp; omega))
    have hbel : Kp (∀ w2, Fr (W0.drew.alloc O) w2 (w.heap.size + 2) (Value.slice none 0 0).ownBlock → Below w.heap.size w w2 ∧ W0.heap.size + 1 ≤ w2.heap.size) := ⟨fun w2 h => ⟨h.below (bel_trans (bel_trans hB0 (bel_drew _)) (bel_alloc _ _)) (by simp; omega) (by omega) (fun g hg => by cases hg), by have := h.size; simp at this; omega⟩⟩
    have hmk0 := hmk W0.drew
    have hmk1 := hmk W0
    replace hSO := Kp.mk hSO
    replace G := Kp.mk G
    go_enter Try.func31, Try.ntmps31
    go_upto_region 2 with fail
    rw [← hW0.out]
    go_upto_region 4 with fail
    refine wp_region_held_drew (S := fun W' => W'.cell? ⟨w.heap.size, 0, none⟩ = some (.slice an n cn) ∧ W'.cell? ⟨w.heap.size, 1, none⟩ = some (.slice ap mp cp)) (by kernel_rfl) (SK.out W0 hbx) (fun hHeld => ?_)
    refine wpAnyH_take (i := 0) (v := .agg #[.slice an n cn, .slice ap mp cp]) rfl (by kernel_rfl) (by kernel_rfl) (by kernel_rfl) (fun _ _ _ h => h) (Or.inl ⟨by rfl, fun wq hSw => by (try dsimp only at hSw); go_simp⟩) hHeld ?_
    try simp only [Act.put, List.getElem_toArray, List.getElem_cons_succ, List.getElem_cons_zero, List.setIfInBounds_toArray, List.set_cons_zero, List.set_cons_succ]
    refine wpAnyH_take (i := 1) (v := .pointer (some ⟨w.heap.size, 0, none⟩)) rfl (by kernel_rfl) (by kernel_rfl) (by kernel_rfl) (fun _ _ _ h => h) (Or.inl ⟨by rfl, fun wq hSw => by (try dsimp only at hSw); go_simp⟩) hHeld ?_
    try simp only [Act.put, List.getElem_toArray, List.getElem_cons_succ, List.getElem_cons_zero, List.setIfInBounds_toArray, List.set_cons_zero, List.set_cons_succ]
    refine wpAnyH_take (i := 2) (v := .slice an n cn) rfl (by kernel_rfl) (by kernel_rfl) (by kernel_rfl) (fun _ _ _ h => h) (Or.inl ⟨by rfl, fun wq hSw => by (try dsimp only at hSw); go_simp⟩) hHeld ?_
    try simp only [Act.put, List.getElem_toArray, List.getElem_cons_succ, List.getElem_cons_zero, List.setIfInBounds_toArray, List.set_cons_zero, List.set_cons_succ]
    refine wpAnyH_take (i := 3) (v := .int .i64 n) rfl (by kernel_rfl) (by kernel_rfl) (by kernel_rfl) (fun _ _ _ h => h) (Or.inl ⟨by rfl, fun wq hSw => by (try dsimp only at hSw); go_simp⟩) hHeld ?_
    try simp only [Act.put, List.getElem_toArray, List.getElem_cons_succ, List.getElem_cons_zero, List.setIfInBounds_toArray, List.set_cons_zero, List.set_cons_succ]
    refine wpAnyH_ready (rs := [4]) (by kernel_rfl) (by simp) ?_
    refine AllReadyH.cons rfl (fun K hK => ?_) AllReadyH.nil
    go_simp
    refine hK.out _ _ (SK.out _ (keep_cells hbx (bel_trans (bel_drew _) (bel_alloc _ _)))) (fun hHeld => ?_)
    clear hK K
    try simp only [Act.put, List.getElem_toArray, List.getElem_cons_succ, List.getElem_cons_zero, List.setIfInBounds_toArray, List.set_cons_zero, List.set_cons_succ]
    refine wpAnyH_ready (rs := [5]) (by kernel_rfl) (by simp) ?_
    refine AllReadyH.cons rfl (fun K hK => ?_) AllReadyH.nil
    go_simp
    refine (CW.out).mono ?_
    rintro e w2 ⟨v2, s2, L, rfl, hR2, hS2, hO2, hF2, -, hn2⟩
    rw [List.nil_append] at hO2
    obtain ⟨a2, c2, rfl⟩ := hO2.shape
    have hbx2 := (hF2.block w.heap.size (by simp; omega) (by omega) (by simp [Value.ownBlock])).trans (keep_cells hbx (bel_trans (bel_drew W0) (bel_alloc _ O)))
    refine hK.out _ _ (SK.out _ hbx2) (fun hHeld => ?_)
    clear hK K
    try simp only [Act.put, List.getElem_toArray, List.getElem_cons_succ, List.getElem_cons_zero, List.setIfInBounds_toArray, List.set_cons_zero, List.set_cons_succ]
    refine wpAnyH_take (i := 6) (v := .slice a2 L.length c2) rfl (by kernel_rfl) (by kernel_rfl) (by kernel_rfl) (fun _ _ _ h => h) (Or.inl ⟨by rfl, fun wq hSw => by (try dsimp only at hSw); go_simp⟩) hHeld ?_
    try simp only [Act.put, List.getElem_toArray, List.getElem_cons_succ, List.getElem_cons_zero, List.setIfInBounds_toArray, List.set_cons_zero, List.set_cons_succ]
    refine wpAnyH_done (by kernel_rfl) ?_ _
    have hLn : L.length ≤ 1048576 := by have := unS_nil n []; omega
    obtain ⟨hB2, hz2'⟩ := hbel.out w2 hF2
    have hown2 : OwnI w2 (w.heap.size + 1) (.slice (some ⟨w.heap.size + 1, 0, none⟩) 0 0) [] := ⟨hF2.own (row_kept hown (bel_trans (bel_drew W0) (bel_alloc _ O))) (by simp [Value.ownBlock]) (.inr (by simp [Value.ownBlock]))⟩
    have hsep : (Value.slice (some ⟨w.heap.size + 1, 0, none⟩) 0 0).ownBlock ≠ (Value.slice a2 L.length c2).ownBlock := fun e => by have : w.heap.size + 2 + 1 ≤ w.heap.size + 1 := (hO2.r.lt _ e.symm).1; omega
    have hOrd : Kp (OrdOf nx n L.reverse) := ⟨by
      obtain ⟨k, E, h1, h2⟩ := hR2.root (f := 0)
      have h3 := h1.lw
      rw [h2] at h3
      exact .inr ⟨hnp, k, L, h3, rfl⟩⟩
    clear hR2 hS2 hF2 hn2 hbx2 hbx hown hB0 y0 CW hbel hmk hmk0 hmk1 hHeld
    go_wp2_with fail
    go_loopw [3, 5] (fun r q wr => ∃ k : Nat, k ≤ L.length ∧ q = .int .i64 ((k : Int) - 1) ∧ OwnI wr (w.heap.size + 1) r (L.drop k).reverse ∧ OwnI wr (w.heap.size + 2 + 1) (.slice a2 L.length c2) L ∧ r.ownBlock ≠ (Value.slice a2 L.length c2).ownBlock ∧ Below w.heap.size w wr ∧ w.heap.size + 1 ≤ wr.heap.size) (fun _ q _ => (intOf q + 1).toNat)
    case atStart => exact ⟨L.length, Nat.le_refl _, by simp, by rw [List.drop_eq_nil_of_le (Nat.le_refl _)]; exact hown2, hO2, hsep, hB2, by omega⟩
    case round =>
      clear hown2 hO2 hsep hB2
      obtain ⟨k, hk, rfl, hown, hO, hsep, hB, hsz⟩ := hrel
      by_cases k0 : k = 0
      · subst k0
        rw [List.drop_zero] at hown
        replace hown := Kp.mk hown
        go_wp2_with fail
        go_ret
        exact ⟨_, _, rfl, hOrd.out, by rw [List.length_reverse]; exact hLn, ⟨own_base hown.out.r (by omega)⟩, hB⟩
      · obtain ⟨j, rfl⟩ : ∃ j, k = j + 1 := ⟨k - 1, by omega⟩
        have ej : (((j + 1 : Nat) : Int) - 1) = (j : Int) := by omega
        rw [ej]
        have hj : j < L.length := by omega
        obtain ⟨gb, go, ⟨⟨_, _, eq, -, ga⟩, -⟩, -, gc⟩ := (hO.ints hLn).ex
        cases eq
        obtain rfl := ga (by omega)
        have c0 := gc j hj
        have hst : Kp ((L.drop j).reverse = (L.drop (j + 1)).reverse ++ [L[j]]) := ⟨by rw [List.drop_eq_getElem_cons hj, List.reverse_cons]⟩
        obtain ⟨ys, hys⟩ : ∃ ys, Kp ((L.drop (j + 1)).reverse = ys) := ⟨_, ⟨rfl⟩⟩
        rw [hys.out] at hown hst
        have hyl : ys.length ≤ 1048576 := by rw [← hys.out, List.length_reverse, List.length_drop]; omega
        generalize L[j] = x at *
        have hj0 : (0 : Int) ≤ (j : Int) := by omega
        obtain ⟨ar, cr, hr⟩ := hown.shape
        subst hr
        replace hst := Kp.mk hst
        clear gc
        go_wp2_with (at_builtin; refine wpList_append_lies _ rfl _ _ _ rfl (w.heap.size + 1) 2 i0 _ 1 8 Try.underlying22 hi0 hz0 hz1 hz2 rfl (by omega) (.slice ar ys.length cr) ys.length (ys.map (Value.int .i64)) rfl (hown.r.alloc _) ⟨wr.heap.size, 0, none⟩ 1 1 [.int .i64 x] rfl rfl (World.news_of_block (cs := #[.int .i64 x]) (t := 2) (fr := (0, 0)) (heap_alloc_new wr _)) (by simp [Value.oneCell']) (by omega) (by unfold maxLen; omega) (by omega) (by simp; omega) (wr.heap.size + 1) (by simp) ?_; intro gg cap w3 hown3 hgrow hat hlt3)
        have hO3 : OwnI w3 (w.heap.size + 2 + 1) (.slice (some ⟨gb, go, none⟩) L.length c2) L := (hO.keep (bel_alloc _ _)).kept hgrow (.inr (Ne.symm hsep))
        have hB3 := (hB.alloc hB.size (Go.Obj.cells #[.int .i64 x] 2)).grown hgrow (by simp; omega) (fun g hg => by have := (hown.r.lt _ hg).1; omega)
        have hs3 : w.heap.size + 1 ≤ w3.heap.size := by have := hgrow.size; simp at this; omega
        have hsep3 : (Value.slice (some ⟨gg, 0, none⟩) (ys.length + 1) cap).ownBlock ≠ (Value.slice (some ⟨gb, go, none⟩) L.length c2).ownBlock := by
          rcases hat with q | q
          · show some gg ≠ _
            rw [← q]; exact hsep
          · intro e
            have h1 := (hO.r.lt gb rfl).2
            simp only [Value.ownBlock, Option.some.injEq] at e
            omega
        have hown4 : OwnI w3 (w.heap.size + 1) (.slice (some ⟨gg, 0, none⟩) (ys.length + 1) cap) (L.drop j).reverse := ⟨by rw [hst.out.out]; simpa using hown3⟩
        replace hown4 := Kp.mk hown4
        clear hown hO hB hown3 hgrow hsep
        go_wp2_with fail
        exact ⟨⟨j, by omega, by go_num, hown4.out, hO3, hsep3, hB3, hs3⟩, by simp [intOf]⟩
end Go.Proofs.Ytoajibpconhkdaa
