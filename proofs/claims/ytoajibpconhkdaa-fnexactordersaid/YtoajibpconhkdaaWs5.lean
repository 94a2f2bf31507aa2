/- The specification's order, and the order by name. -/
import Derived.Test.YtoajibpconhkdaaWs4
import Derived.Test.YtoajibpconhkdaaOr1
namespace Go.Proofs.Ytoajibpconhkdaa
open Go.ChangeShapes Go.WideShapes Go.ChangeAt Go.RowKit
set_option linter.unusedVariables false
set_option linter.unusedSimpArgs false
theorem OwnI.low {w : World} {b b2 : Nat} {v : Value} {xs : List Int} (h : OwnI w b v xs) (hb : b2 ≤ b) : OwnI w b2 v xs := by
  obtain ⟨hl, q | ⟨g, cap, cur, e, h1, h2⟩⟩ := h.r
  · exact ⟨hl, .inl q⟩
  · exact ⟨hl, .inr ⟨g, cap, cur, e, by omega, h2⟩⟩
theorem ord_ex (blocks : List (List InD)) : ∃ L, OrdOf (nextL blocks) blocks.length L ∧ L.length ≤ blocks.length := by
  by_cases h0 : blocks.length = 0
  · exact ⟨[], .inl ⟨h0, rfl⟩, by simp⟩
  have hnp : 0 < blocks.length := by omega
  have hnx : ∀ i : Nat, i < blocks.length → ∀ y ∈ nextL blocks i, 0 ≤ y ∧ y < blocks.length := fun i hi y hy => nextL_bd hy
  obtain ⟨k0, E, hE⟩ := exists_root (nextL blocks) blocks.length hnx 0 hnp
  refine ⟨(lefts E).reverse, .inr ⟨hnp, k0, lefts E, hE.lw, rfl⟩, ?_⟩
  have h1 := hE.left_len hnx (fun x hx y hy => by
    obtain rfl := List.mem_singleton.1 hx
    exact hnx 0 hnp y hy)
  have h2 := unS_add blocks.length (s := []) hnp rfl
  have h3 := unS_nil blocks.length []
  rw [List.nil_append] at h2
  rw [List.length_singleton] at h1
  rw [List.length_reverse]
  omega
/-- The order of a function's blocks. -/
noncomputable def ordL (blocks : List (List InD)) : List Int := Classical.choose (ord_ex blocks)
theorem ordL_len (blocks : List (List InD)) : (ordL blocks).length ≤ blocks.length := (Classical.choose_spec (ord_ex blocks)).2
theorem ordL_eq {blocks : List (List InD)} {L : List Int} (h : OrdOf (nextL blocks) blocks.length L) : L = ordL blocks := h.det (Classical.choose_spec (ord_ex blocks)).1
theorem ordIL (d : FnD) (vp vb : Value) (w : World) {lo : Nat} (h : FnAt lo w d vp vb) (hn : fnN d ≤ 1048576) :
    Calls Try.prog 18 #[fnV d vp vb] w fun e w' => ∃ v, e = .returned v ∧ OwnI w' w.heap.size v (ordL d.blocks) ∧ Below w.heap.size w w' := by
  refine (ordI d vp vb w h hn).mono ?_
  rintro e w' ⟨v, L, rfl, hO, hL, hB⟩
  rw [ordL_eq hO] at hL
  exact ⟨v, rfl, hL, hB⟩
set_option maxRecDepth 100000 in
set_option maxHeartbeats 4000000 in
theorem ordS (d : FnD) (vp vb : Value) (w : World) {lo : Nat} (h : FnAt lo w d vp vb) (hn : fnN d ≤ 1048576) :
    Calls Try.prog 17 #[fnV d vp vb] w fun e w' => ∃ v, e = .returned v ∧ OwnI w' w.heap.size v (ordL d.blocks) ∧ Below w.heap.size w w' := by
  have hnn : d.blocks.length ≤ 1048576 := by have := blsN_nn d.blocks; unfold fnN at hn; omega
  have CG : Kp (∀ W, Below w.heap.size w W → Calls Try.prog 32 #[fnV d vp vb] W _) := ⟨fun W hW => graphS d vp vb W (h.keep hW) hn⟩
  have CL : Kp (∀ W, Below w.heap.size w W → 0 < d.blocks.length → Calls Try.prog 30 #[fnV d vp vb] W _) := ⟨fun W hW h0 => longS d vp vb W (h.keep hW) hn h0⟩
  have CO : Kp (∀ W l vN vP, Rws l W vN d.blocks.length (fun i => nextL d.blocks i) → (∃ a m c, vP = .slice a m c) → Calls Try.prog 31 #[.agg #[vN, vP]] W _) := ⟨fun W l vN vP G hP => orderS (nextL d.blocks) d.blocks.length l W vN vP G hP hnn (fun i hi => ⟨by have := @nextL_len d.blocks i; have := blsN_nn d.blocks; unfold fnN at hn; omega, fun y hy => nextL_bd hy⟩)⟩
  have hE : Kp (∀ L, OrdOf (nextL d.blocks) d.blocks.length L → L = ordL d.blocks) := ⟨fun L h => ordL_eq h⟩
  clear hn
  obtain ⟨name, link, params, res, blocks⟩ := d
  obtain ⟨-, hp, hb⟩ := h
  dsimp only [fnV] at *
  obtain ⟨a1, k1, rfl⟩ := hp.shape
  obtain ⟨a2, k2, rfl⟩ := hb.shape
  clear hp hb
  obtain ⟨R, hR⟩ : ∃ R, Kp (ordL blocks = R) := ⟨_, ⟨rfl⟩⟩
  rw [hR.out] at hE ⊢
  obtain ⟨n, hnl⟩ : ∃ n, Kp (blocks.length = n) := ⟨_, ⟨rfl⟩⟩
  rw [hnl.out] at CG CL CO hE hnn ⊢
  obtain ⟨W1, hW1⟩ : ∃ W1, Kp (W1 = w.alloc (Go.Obj.cells #[.string name, .int .i64 link, .slice a1 params.length k1, .int .i64 res, .slice a2 n k2] 30)) := ⟨_, ⟨rfl⟩⟩
  have hB1 : Below w.heap.size w W1 := by rw [hW1.out]; exact bel_alloc _ _
  have hx1 : W1.heap[w.heap.size]? = some (Go.Obj.cells #[.string name, .int .i64 link, .slice a1 params.length k1, .int .i64 res, .slice a2 n k2] 30 (0, 0)) := by rw [hW1.out]; exact new_cells w _
  have hs1 : w.heap.size ≤ W1.heap.size := hB1.size
  have x0 : W1.cell? ⟨w.heap.size, 0, none⟩ = _ := at_cells hx1 rfl
  have x1 : W1.cell? ⟨w.heap.size, 1, none⟩ = _ := at_cells hx1 rfl
  have x2 : W1.cell? ⟨w.heap.size, 2, none⟩ = _ := at_cells hx1 rfl
  have x3 : W1.cell? ⟨w.heap.size, 3, none⟩ = _ := at_cells hx1 rfl
  have x4 : W1.cell? ⟨w.heap.size, 4, none⟩ = _ := at_cells hx1 rfl
  replace hx1 := Kp.mk hx1
  replace hs1 := Kp.mk hs1
  go_enter Try.func17, Try.ntmps17
  by_cases hc : 4096 < n
  · have hc' : (4096 : Int) < (n : Int) := by omega
    have hnp : Kp (0 < n) := ⟨by omega⟩
    go_upto_region 1 with fail
    rw [← hW1.out]
    go_wp2_with fail
    refine (CL.out _ hB1 hnp.out).mono ?_
    rintro e W2 ⟨v, L, rfl, hO, hL, hB2⟩
    obtain rfl := hE.out L hO
    obtain ⟨a, c, rfl⟩ := hL.shape
    replace hL := Kp.mk hL
    go_wp2_with fail
    go_ret
    exact ⟨_, rfl, hL.out.low hs1.out, bel_trans hB1 hB2⟩
  · have hc' : ¬ (4096 : Int) < (n : Int) := by omega
    go_upto_region 1 with fail
    rw [← hW1.out]
    go_wp2_with fail
    refine (CG.out _ hB1).mono ?_
    rintro e W2 ⟨vN, vP, rfl, hN, hP, hB2⟩
    obtain ⟨_, _, ⟨⟨an, cn, rfl, -, -⟩, -⟩, -, -⟩ := hN.ex
    obtain ⟨_, _, ⟨⟨ap, cp, rfl, -, -⟩, -⟩, -, -⟩ := hP.ex
    have hs2 : W1.heap.size ≤ W2.heap.size := hB2.size
    replace hs2 := Kp.mk hs2
    replace hN := Kp.mk hN
    clear hP
    go_wp2_with fail
    refine (CO.out _ _ _ _ hN.out ⟨_, _, _, rfl⟩).mono ?_
    rintro e W3 ⟨v, L, rfl, hO, hLl, hL, hB3⟩
    obtain rfl := hE.out L hO
    obtain ⟨a, c, rfl⟩ := hL.shape
    replace hL := Kp.mk hL
    go_wp2_with fail
    go_ret
    exact ⟨_, rfl, hL.out.low (Nat.le_trans hs1.out hs2.out), bel_trans (bel_trans hB1 hB2) hB3⟩
end Go.Proofs.Ytoajibpconhkdaa
