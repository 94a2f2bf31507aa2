/- The specification's writer: bits; PutBits. -/
import Derived.Test.YtfagafglloopbaaBs3
namespace Go.Proofs.Ytfagafglloopbaa
open Go.ChangeShapes Go.WideShapes Go.ChangeAt Go.RowKit
open Go.Sort (grow)
set_option linter.unusedVariables false
set_option linter.unusedSimpArgs false
set_option maxRecDepth 100000 in
set_option maxHeartbeats 4000000 in
theorem bitsS (sv : Value) (ys : List Int) (k : Nat) (x : Int) (n base : Nat) (w : World) (hown : OwnB w base sv ys) (hs : Snd ys k) (x0 : 0 ≤ x) (x1 : x < 18446744073709551616) (n1 : n ≤ 64) (hk : k ≤ 140737488355328) (hbw : base ≤ w.heap.size) :
    Calls Try.prog 35 #[.agg #[sv, .int .i64 k], .int .u64 x, .int .i64 n] w fun e w' => ∃ v', e = .returned (.agg #[v', .int .i64 ((k + n : Nat) : Int)]) ∧ OwnB w' base v' (putB ys k x n) ∧ Below base w w' ∧ Out w w' := by
  obtain ⟨sa, sc, rfl⟩ := hown.form
  have C : Kp (∀ v zs q b W, OwnB W base v zs → Snd zs q → 0 ≤ b → b ≤ 1 → q ≤ 281474976710656 → base ≤ W.heap.size → Calls Try.prog 43 #[.agg #[v, .int .i64 (q : Nat)], .int .u64 b] W _) := ⟨fun v zs q b W h1 h2 h3 h4 h5 h6 => pushS v zs q b base W h1 h2 h3 h4 h5 h6⟩
  have HS := Kp.mk (fun i => hs.put x i)
  have z1 : ((w.alloc (Go.Obj.cells #[.slice sa ys.length sc, .int .i64 k] 24 (0, 0))).alloc (Go.Obj.cells #[.slice none 0 0, .int .i64 0] 24 (0, 0))).heap[w.heap.size]? = some (Go.Obj.cells #[.slice sa ys.length sc, .int .i64 k] 24 (0, 0)) := keep_cells (new_cells w (Go.Obj.cells #[.slice sa ys.length sc, .int .i64 k] 24 (0, 0))) (bel_alloc _ (Go.Obj.cells #[.slice none 0 0, .int .i64 0] 24 (0, 0)))
  have z2 : ((w.alloc (Go.Obj.cells #[.slice sa ys.length sc, .int .i64 k] 24 (0, 0))).alloc (Go.Obj.cells #[.slice none 0 0, .int .i64 0] 24 (0, 0))).heap[w.heap.size + 1]? = some (Go.Obj.cells #[.slice none 0 0, .int .i64 0] 24 (0, 0)) := by
    have := new_cells (w.alloc (Go.Obj.cells #[.slice sa ys.length sc, .int .i64 k] 24 (0, 0))) (Go.Obj.cells #[.slice none 0 0, .int .i64 0] 24 (0, 0))
    rwa [World.size_alloc] at this
  have z3 : OwnB ((w.alloc (Go.Obj.cells #[.slice sa ys.length sc, .int .i64 k] 24 (0, 0))).alloc (Go.Obj.cells #[.slice none 0 0, .int .i64 0] 24 (0, 0))) base (.slice sa ys.length sc) ys := (hown.alloc _).alloc _
  have z4 := bel_trans (bel_alloc w (Go.Obj.cells #[.slice sa ys.length sc, .int .i64 k] 24 (0, 0))) (bel_alloc _ (Go.Obj.cells #[.slice none 0 0, .int .i64 0] 24 (0, 0)))
  obtain ⟨V, hV⟩ : ∃ V, V = (w.alloc (Go.Obj.cells #[.slice sa ys.length sc, .int .i64 k] 24 (0, 0))).alloc (Go.Obj.cells #[.slice none 0 0, .int .i64 0] 24 (0, 0)) := ⟨_, rfl⟩
  rw [← hV] at z1 z2 z3 z4
  have zo : Out w V := Out.below z4
  have zb : Below base w V := z4.mono hbw
  clear hown z4 hs
  go_enter Try.func35, Try.ntmps35
  go_upto_region 1 with fail
  rw [← hV]
  clear hV
  go_wp2_with fail
  go_loopw [7] (fun s wr => ∃ (i : Nat) (sv : Value), i ≤ n ∧ s = .int .i64 i ∧ Kp (wr.heap[w.heap.size]? = some (Go.Obj.cells #[sv, .int .i64 ((k + i : Nat) : Int)] 24 (0, 0))) ∧ Kp (wr.heap[w.heap.size + 1]? = some (Go.Obj.cells #[.slice none 0 0, .int .i64 0] 24 (0, 0))) ∧ Kp (OwnB wr base sv (putB ys k x i)) ∧ Below base w wr ∧ Kp (Out w wr)) (fun s _ => n - (intOf s).toNat)
  case atStart => exact ⟨0, _, Nat.zero_le _, rfl, ⟨z1⟩, ⟨z2⟩, ⟨z3⟩, zb, ⟨zo⟩⟩
  case round =>
    clear z1 z2 z3 zb zo
    obtain ⟨i, sv, hi, rfl, hX1, hX2, hO, hB, hOu⟩ := hrel
    have hS := HS.out i
    obtain ⟨q, hq⟩ : ∃ q, Kp (q = k + i) := ⟨_, ⟨rfl⟩⟩
    obtain ⟨zs, hzs⟩ : ∃ zs, Kp (zs = putB ys k x i) := ⟨_, ⟨rfl⟩⟩
    rw [← hq.out] at hX1 hS
    rw [← hzs.out] at hO hS
    obtain ⟨ga, gc, rfl⟩ := hO.out.form
    have hsz := (Array.getElem?_eq_some_iff.1 hX2.out).1
    have y0 : wr.cell? ⟨w.heap.size, 0, none⟩ = some (.slice ga zs.length gc) := at_cells hX1.out rfl
    have y1 : wr.cell? ⟨w.heap.size, 1, none⟩ = some (.int .i64 q) := at_cells hX1.out rfl
    have f0 := rw_cells hX1.out
    have y2 : wr.cell? ⟨w.heap.size + 1, 0, none⟩ = some (.slice none 0 0) := at_cells hX2.out rfl
    have y3 : wr.cell? ⟨w.heap.size + 1, 1, none⟩ = some (.int .i64 0) := at_cells hX2.out rfl
    have f2 := rw_cells hX2.out
    by_cases hlt : i < n
    · have hu0 : 0 ≤ x / 2 ^ i ∧ x / 2 ^ i < 18446744073709551616 := by
        have hp := pow_pos2 i
        exact ⟨Int.ediv_nonneg x0 (by omega), Int.lt_of_le_of_lt (Int.ediv_le_self _ x0) x1⟩
      have hand := Kp.mk (and1 (x / 2 ^ i) hu0.1 hu0.2)
      have G := Kp.mk (C.out _ zs q (x / 2 ^ i % 2) wr hO.out hS (by omega) (by omega) (by have := hq.out; omega) (by omega))
      have e1 : Kp (putB ys k x (i + 1) = pushB zs q (x / 2 ^ i % 2)) := ⟨by rw [hzs.out, hq.out]; rfl⟩
      have e2 : Kp ((q : Int) + 1 = ((k + (i + 1) : Nat) : Int)) := ⟨by rw [hq.out]; push_cast; omega⟩
      have hi64 : (i : Int) < 64 := by omega
      clear C HS
      go_wp2_with (go_at_call 43; rw [hand.out]; refine G.out.mono ?_; rintro e w1 ⟨v1, rfl, O1, B1, o1⟩; obtain ⟨g1, c1, rfl⟩ := O1.form; have r1 := o1 _ _ _ hX1.out (by decide); have r2 := o1 _ _ _ hX2.out (by decide); have p0 : w1.cell? ⟨w.heap.size, 0, none⟩ = some (.slice ga zs.length gc) := at_cells r1 rfl; have p1 : w1.cell? ⟨w.heap.size, 1, none⟩ = some (.int .i64 q) := at_cells r1 rfl; have p2 := rw_cells r1)
      have hn1 := u8_ne O1 r1 (by decide)
      have hfin := Kp.mk (set_cells (set_cells r1 0 (.slice g1 (pushB zs q (x / 2 ^ i % 2)).length c1)) 1 (.int .i64 ((q : Int) + 1)))
      refine ⟨⟨i + 1, .slice g1 (pushB zs q (x / 2 ^ i % 2)).length c1, by omega, by go_num, ⟨?_⟩, ⟨?_⟩, ⟨?_⟩, ?_, ⟨?_⟩⟩, by simp [intOf]; omega⟩
      · rw [← e2.out]
        exact hfin.out
      · rw [heap_set _ _ _ _ _ (by omega), heap_set _ _ _ _ _ (by omega)]
        exact r2
      · rw [e1.out]
        exact (O1.setOther hn1 _).setOther hn1 _
      · exact bel_set (bel_set (hB.trans B1) hbw _) hbw _
      · exact ((hOu.out.trans o1).set _ _ _ (Nat.le_refl _)).set _ _ _ (Nat.le_refl _)
    · obtain rfl : i = n := by omega
      have hn2 := u8_ne hO.out hX2.out (by decide)
      have zz := set_cells (set_cells hX2.out 0 (.slice ga zs.length gc)) 1 (.int .i64 q)
      have zo := Kp.mk ((hO.out.setOther (j := 0) hn2 (.slice ga zs.length gc)).setOther (j := 1) hn2 (.int .i64 q))
      have zb := bel_set (k := 1) (bel_set (k := 0) hB (show base ≤ w.heap.size + 1 by omega) (.slice ga zs.length gc)) (show base ≤ w.heap.size + 1 by omega) (.int .i64 q)
      have zu := Kp.mk ((hOu.out.set (w.heap.size + 1) 0 (.slice ga zs.length gc) (by omega)).set (w.heap.size + 1) 1 (.int .i64 q) (by omega))
      obtain ⟨Z, hZ⟩ : ∃ Z, Z = (wr.setCell ⟨w.heap.size + 1, 0, none⟩ (.slice ga zs.length gc)).setCell ⟨w.heap.size + 1, 1, none⟩ (.int .i64 q) := ⟨_, rfl⟩
      rw [← hZ] at zz zo zb zu
      replace hZ := Kp.mk hZ
      have z0 : Z.cell? ⟨w.heap.size + 1, 0, none⟩ = some (.slice ga zs.length gc) := at_cells zz rfl
      have z1 : Z.cell? ⟨w.heap.size + 1, 1, none⟩ = some (.int .i64 q) := at_cells zz rfl
      clear C HS hX1 hX2 hO hOu hB zz
      go_wp2_with fail
      rw [← hZ.out]
      exact bodyPost_ret (v := .agg #[.slice ga zs.length gc, .int .i64 q]) (by simp [results, Try.results35, go_sem, z0, z1]) rfl ⟨_, by rw [← hq.out], by rw [← hzs.out]; exact zo.out, zb, zu.out⟩
end Go.Proofs.Ytfagafglloopbaa
