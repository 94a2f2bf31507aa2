/- The specification's writer: bits of its own, one bit more, bits. -/
import Derived.Test.YtfagafglloopbaaBs1
import Derived.Deep.RegionLaw
namespace Go.Proofs.Ytfagafglloopbaa
open Go.ChangeShapes Go.WideShapes Go.ChangeAt Go.RowKit
open Go.Sort (grow)
set_option linter.unusedVariables false
set_option linter.unusedSimpArgs false
theorem step_append_run {P : Program} {ops : Array Oper} {o : Oper} {a : Act} {w w' : World} {K : Act → World → Prop} {Q : Exit → Act → World → Prop} {E : Prop} {v u v' : Value}
    (hg : o.guard = none) (s x : Operand) (t : TypeId) (hop : o.op = Op.call { callee := Callee.builtin Builtin.append, args := #[s, x], argTypes := #[t, t] })
    (hs : a.eval s = v) (hx : a.eval x = u) (hrun : (Builtin.append_ #[t, t] o.type #[v, u]).run P w = .ok v' w') (hK : K (a.put o.dst v') w') :
    if Region.wanted o (yielded ops a.tmps) = true then Oper.wp P o a w K Q else E := by
  have hw : Region.wanted o (yielded ops a.tmps) = true := by simp [Region.wanted, hg]
  rw [if_pos hw]
  unfold Oper.wp
  simp [execOp, hop, resolve, invoke, builtin, hs, hx, hrun, Result.andThen]
  exact hK
set_option maxRecDepth 100000 in
set_option maxHeartbeats 2000000 in
theorem startS (v : Value) (xs : List Int) (c : Int) (w : World) {lo : Nat} (h : Ints lo .u8 w v xs) (hn : xs.length ≤ 1048576) (c0 : -9223372036854775808 ≤ c) (c1 : c ≤ 9223372036854775807) (hb : ∀ i (h : i < xs.length), 0 ≤ xs[i] ∧ xs[i] < 256) :
    Calls Try.prog 34 #[.agg #[v, .int .i64 c]] w fun e w' => ∃ v', e = .returned (.agg #[v', .int .i64 ((sndOf xs c).2 : Int)]) ∧ OwnB w' w.heap.size v' (sndOf xs c).1 ∧ Below w.heap.size w w' := by
  obtain ⟨i0, hi0, hz0, hz1, hz2⟩ := info_parts info8
  have CO := fun W h => okS v xs c (lo := lo) W h hn c0 c1 hb
  have HI := Kp.mk h
  obtain ⟨b, o, ⟨⟨a, cap, rfl, h1, h2⟩, h3⟩, -, hc⟩ := h.ex
  have HC := Kp.mk hc
  have H2 := Kp.mk h2
  have b1 := bel_trans (bel_alloc w (Go.Obj.cells #[.slice a xs.length cap, .int .i64 c] 24 (0, 0))) (bel_alloc _ (Go.Obj.cells #[.slice none 0 0, .int .i64 0] 24 (0, 0)))
  have x1 := keep_cells (new_cells w (Go.Obj.cells #[.slice a xs.length cap, .int .i64 c] 24 (0, 0))) (bel_alloc _ (Go.Obj.cells #[.slice none 0 0, .int .i64 0] 24 (0, 0)))
  have x2 := new_cells (w.alloc (Go.Obj.cells #[.slice a xs.length cap, .int .i64 c] 24 (0, 0))) (Go.Obj.cells #[.slice none 0 0, .int .i64 0] 24 (0, 0))
  rw [World.size_alloc] at x2
  clear h h2 hc
  by_cases hok : okB xs c
  · have C1 := Kp.mk ((CO _ (HI.out.keep b1)).1 hok)
    rw [sndOf_yes hok]
    have hK := hok.1
    obtain ⟨K, rfl⟩ := Int.eq_ofNat_of_zero_le hK
    go_enter Try.func34, Try.ntmps34
    go_wp2_with fail
    refine C1.out.mono ?_
    rintro e w1 ⟨rfl, hb1⟩
    have y1 := keep_cells x1 hb1
    have y2 := keep_cells x2 hb1
    have bb1 := bel_trans b1 hb1
    have s1 : w.heap.size + 2 ≤ w1.heap.size := by have := (Array.getElem?_eq_some_iff.1 y2).1; omega
    clear C1 CO x1 x2 b1 hb1 hok
    have z10 : w1.cell? ⟨w.heap.size, 0, none⟩ = some (.slice a xs.length cap) := at_cells y1 rfl
    have z11 : w1.cell? ⟨w.heap.size, 1, none⟩ = some (.int .i64 K) := at_cells y1 rfl
    have z20 : w1.cell? ⟨w.heap.size + 1, 0, none⟩ = some (.slice none 0 0) := at_cells y2 rfl
    have z21 : w1.cell? ⟨w.heap.size + 1, 1, none⟩ = some (.int .i64 0) := at_cells y2 rfl
    have f2 := rw_cells y2
    obtain ⟨X, hX⟩ : ∃ X, X = (w1.alloc (Go.Obj.cells #[] 5 (0, 0))).drew := ⟨_, rfl⟩
    have hr : X.ownsRow (w.heap.size + 2) 5 1 (.slice (some ⟨w1.heap.size, 0, none⟩) 0 0) 0 [] := by
      rw [hX]
      exact World.ownsRow_made (base := w.heap.size + 2) (e := 5) (size := 1) w1 #[] 0 s1 (Nat.zero_le _) rfl
    have bX : Below w1.heap.size w1 X := by rw [hX]; exact (bel_alloc _ _).drew
    have sX : w1.heap.size + 1 ≤ X.heap.size := by rw [hX]; simp [World.drew]
    obtain ⟨v2, w2, hrun, hown, hgrow⟩ := run_append_vals (P := Try.prog) X (w.heap.size + 2) 22 22 5 i0 (.int .u8 0) 1 1 Try.underlying22 hi0 hz0 hz1 hz2 rfl (by decide) _ _ _ hr a b o xs.length cap (xs.map (Value.int .u8)) H2.out (by simp) (fun j hj => by
      rw [List.getElem_map]
      exact at_keep (HC.out j (by simpa using hj)) (bel_trans bb1 bX)) (fun u hu => by obtain ⟨x, _, rfl⟩ := List.mem_map.1 hu; rfl) (by unfold maxLen; omega) (by omega) (by omega)
    have hown' : OwnB w2 (w.heap.size + 2) v2 xs := by unfold OwnB; simpa using hown
    obtain ⟨a2, c2, rfl⟩ := hown'.form
    rw [hX] at hrun
    have q1 : w2.heap[w.heap.size]? = _ := (hgrow.block _ (by omega) (by simp [Value.ownBlock]; omega)).trans (keep_cells y1 bX)
    have q2 : w2.heap[w.heap.size + 1]? = _ := (hgrow.block _ (by omega) (by simp [Value.ownBlock]; omega)).trans (keep_cells y2 bX)
    have bw2 : Below w.heap.size w w2 := (bel_trans bb1 bX).grown hgrow (by omega) (fun k hk => by simp [Value.ownBlock] at hk; omega)
    have t1 : w2.cell? ⟨w.heap.size, 1, none⟩ = some (.int .i64 K) := at_cells q1 rfl
    have t2 := rw_cells q2
    have t3 : w2.cell? ⟨w.heap.size + 1, 0, none⟩ = some (.slice none 0 0) := at_cells q2 rfl
    have t4 : w2.cell? ⟨w.heap.size + 1, 1, none⟩ = some (.int .i64 0) := at_cells q2 rfl
    have hne : (Value.slice a2 xs.length c2).ownBlock ≠ some (w.heap.size + 1) := fun e => by have := (hown'.lt _ e).1; omega
    have zz := set_cells (set_cells q2 0 (.slice a2 xs.length c2)) 1 (.int .i64 K)
    have zo := Kp.mk (((hown'.setOther (j := 0) hne (.slice a2 xs.length c2)).setOther (j := 1) hne (.int .i64 K)).mono (base' := w.heap.size) (by omega))
    have zb := bel_set (k := 1) (bel_set (k := 0) bw2 (show w.heap.size ≤ w.heap.size + 1 by omega) (.slice a2 xs.length c2)) (show w.heap.size ≤ w.heap.size + 1 by omega) (.int .i64 K)
    obtain ⟨Z, hZ⟩ : ∃ Z, Z = (w2.setCell ⟨w.heap.size + 1, 0, none⟩ (.slice a2 xs.length c2)).setCell ⟨w.heap.size + 1, 1, none⟩ (.int .i64 K) := ⟨_, rfl⟩
    rw [← hZ] at zz zo zb
    replace hZ := Kp.mk hZ
    have z0 : Z.cell? ⟨w.heap.size + 1, 0, none⟩ = some (.slice a2 xs.length c2) := at_cells zz rfl
    have z1 : Z.cell? ⟨w.heap.size + 1, 1, none⟩ = some (.int .i64 K) := at_cells zz rfl
    have zA0 : (w1.alloc (Go.Obj.cells #[] 5 (0, 0))).cell? ⟨w.heap.size, 0, none⟩ = some (.slice a xs.length cap) := at_cells (keep_cells y1 (bel_alloc _ _)) rfl
    have zA1 : (w1.alloc (Go.Obj.cells #[] 5 (0, 0))).cell? ⟨w.heap.size, 1, none⟩ = some (.int .i64 K) := at_cells (keep_cells y1 (bel_alloc _ _)) rfl
    clear hne hown hown' hgrow q1 q2 zz bX sX hr hX y1 y2 bw2 HC H2
    go_upto_region 3 with fail
    replace hrun := Kp.mk hrun
    go_region_law (refine step_append_run rfl (.tmp 7) (.tmp 9) 22 rfl (by simp [Act.eval, Act.put]) (by simp [Act.eval, Act.put]) hrun.out ?_)
    all_goals
      rw [← hZ.out]
      go_wp2_with fail
      exact bodyPost_ret (v := .agg #[.slice a2 xs.length c2, .int .i64 K]) (by simp [results, Try.results34, go_sem, z0, z1]) rfl ⟨_, rfl, zo.out, zb⟩
  · have C1 := Kp.mk ((CO _ (HI.out.keep b1)).2 hok)
    rw [sndOf_no hok]
    go_enter Try.func34, Try.ntmps34
    go_wp2_with fail
    refine C1.out.mono ?_
    rintro e w1 ⟨rfl, hb1⟩
    have y2 := keep_cells x2 hb1
    have bb1 := bel_trans b1 hb1
    clear C1 CO x1 b1 hb1 hok
    have z20 : w1.cell? ⟨w.heap.size + 1, 0, none⟩ = some (.slice none 0 0) := at_cells y2 rfl
    have z21 : w1.cell? ⟨w.heap.size + 1, 1, none⟩ = some (.int .i64 0) := at_cells y2 rfl
    have f2 := rw_cells y2
    have zz := set_cells (set_cells y2 0 (.slice none 0 0)) 1 (.int .i64 0)
    have zb := bel_set (k := 1) (bel_set (k := 0) bb1 (show w.heap.size ≤ w.heap.size + 1 by omega) (.slice none 0 0)) (show w.heap.size ≤ w.heap.size + 1 by omega) (.int .i64 0)
    obtain ⟨Z, hZ⟩ : ∃ Z, Z = (w1.setCell ⟨w.heap.size + 1, 0, none⟩ (.slice none 0 0)).setCell ⟨w.heap.size + 1, 1, none⟩ (.int .i64 0) := ⟨_, rfl⟩
    rw [← hZ] at zz zb
    replace hZ := Kp.mk hZ
    have z0 : Z.cell? ⟨w.heap.size + 1, 0, none⟩ = some (.slice none 0 0) := at_cells zz rfl
    have z1 : Z.cell? ⟨w.heap.size + 1, 1, none⟩ = some (.int .i64 0) := at_cells zz rfl
    go_wp2_with fail
    rw [← hZ.out]
    exact bodyPost_ret (v := .agg #[.slice none 0 0, .int .i64 0]) (by simp [results, Try.results34, go_sem, z0, z1]) rfl ⟨_, rfl, World.ownsRow_nil _ _ _ _, zb⟩
end Go.Proofs.Ytfagafglloopbaa
