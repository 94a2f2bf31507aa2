/- Which blocks go to one: the data; both answers. -/
import Derived.Test.YtoajibpconhkdaaNb4
import Derived.Test.YtoajibpconhkdaaIl0
namespace Go.Proofs.Ytoajibpconhkdaa
open Go.ChangeShapes Go.WideShapes Go.ChangeAt Go.RowKit
set_option linter.unusedVariables false
set_option linter.unusedSimpArgs false
/-- Those of the first k blocks that go to block t. -/
def prevTo (bls : List (List InD)) (t : Int) : Nat → List Int
  | 0 => []
  | k + 1 => if (nextL bls k).contains t = true then prevTo bls t k ++ [(k : Int)] else prevTo bls t k
theorem prevTo_len (bls : List (List InD)) (t : Int) (k : Nat) : (prevTo bls t k).length ≤ k := by
  induction k with
  | zero => exact Nat.le_refl _
  | succ k ih =>
    unfold prevTo
    split
    · simp; exact ih
    · omega
theorem nextL_has (bls : List (List InD)) (k : Nat) (t : Int) : (nextL bls k).contains t = ((lastBl bls k).contains t && (decide (0 ≤ t) && decide (t < (bls.length : Int)))) := by
  rw [Bool.eq_iff_iff]
  unfold nextL
  simp only [List.contains_eq_mem, decide_eq_true_eq, Bool.and_eq_true, nxF_mem, List.mem_nil_iff, false_or]
theorem prevTo_out (bls : List (List InD)) (t : Int) (h : ¬ (0 ≤ t ∧ t < bls.length)) (k : Nat) : prevTo bls t k = [] := by
  induction k with
  | zero => rfl
  | succ k ih =>
    unfold prevTo
    rw [nextL_has, show (decide (0 ≤ t) && decide (t < (bls.length : Int))) = false by simp; omega, Bool.and_false, if_neg (by simp)]
    exact ih
set_option maxRecDepth 100000 in
set_option maxHeartbeats 8000000 in
theorem prevS (d : FnD) (vp vb : Value) (t : Int) (w : World) {lo : Nat} (h : FnAt lo w d vp vb) (hn : fnN d ≤ 1048576) :
    Calls Try.prog 15 #[fnV d vp vb, .int .i64 t] w fun e w' => ∃ v, e = .returned v ∧ OwnI w' w.heap.size v (prevTo d.blocks t d.blocks.length) ∧ Below w.heap.size w w' := by
  have CN : Kp (∀ W (k : Nat), Below w.heap.size w W → Calls Try.prog 7 #[fnV d vp vb, .int .i64 k] W fun e w' => ∃ v, e = .returned v ∧ OwnI w' W.heap.size v (nextL d.blocks k) ∧ Below W.heap.size W w') := ⟨fun W k hW => nextS d vp vb k W (h.keep hW) hn⟩
  unfold fnN at hn
  obtain ⟨name, link, params, res, blocks⟩ := d
  obtain ⟨-, hp, hb⟩ := h
  dsimp only [fnV] at *
  have nn := blsN_nn blocks
  have n2 : (blocks.length : Int) ≤ 1048576 := by omega
  obtain ⟨a1, k1, rfl⟩ := hp.shape
  obtain ⟨a2, k2, rfl⟩ := hb.shape
  obtain ⟨i0, hi0, hz0, hz1, hz2⟩ := info_parts info64
  have n3 : blsN blocks ≤ 1048576 := by omega
  have CH : Kp (∀ (W : World) (v : Value) (k b : Nat), OwnI W b v (nextL blocks k) → Calls Try.prog 21 #[v, .int .i64 t] W fun e w' => e = .returned (.bool ((nextL blocks k).contains t)) ∧ Below W.heap.size W w') := ⟨fun W v k b ho => by
    have hl : (nextL blocks k).length ≤ 1048576 := by have := @nextL_len blocks k; omega
    exact hasS v _ t W (ho.ints hl) hl⟩
  clear hn nn hp hb n3
  have hmk : ∀ (W : World) (o : Obj) (H : Nat), H = W.heap.size + 1 → ((W.alloc o).alloc (Go.Obj.cells #[] 2)).ownsRow (W.heap.size + 1) 2 1 (.slice (some ⟨H, 0, none⟩) 0 0) 0 [] := fun W o H h => by
    subst h
    have := World.ownsRow_made (base := W.heap.size + 1) (e := 2) (size := 1) (W.alloc o) #[] 0 (by simp) (Nat.zero_le _) rfl
    rwa [World.size_alloc] at this
  have hown := hmk w (Go.Obj.cells #[.string name, .int .i64 link, .slice a1 params.length k1, .int .i64 res, .slice a2 blocks.length k2] 30) (w.heap.size + 1) rfl
  clear hmk
  obtain ⟨F, hF⟩ : ∃ F, Kp (F = Go.Obj.cells #[.string name, .int .i64 link, .slice a1 params.length k1, .int .i64 res, .slice a2 blocks.length k2] 30 (0, 0)) := ⟨_, ⟨rfl⟩⟩
  obtain ⟨W0, hW⟩ : ∃ W0, Kp (W0 = (w.alloc (Go.Obj.cells #[.string name, .int .i64 link, .slice a1 params.length k1, .int .i64 res, .slice a2 blocks.length k2] 30)).alloc (Go.Obj.cells #[] 2)) := ⟨_, ⟨rfl⟩⟩
  have hF0 : W0.heap[w.heap.size]? = some F := by rw [hF.out, hW.out]; exact keep_cells (new_cells w _) (bel_alloc _ _)
  have hB0 : Below w.heap.size w W0 := by rw [hW.out]; exact bel_trans (bel_alloc w _) (bel_alloc _ _)
  have hs0 : w.heap.size + 1 ≤ W0.heap.size := by rw [hW.out]; simp
  rw [← hW.out] at hown
  obtain ⟨A, hA⟩ : ∃ A, Kp (prevTo blocks t blocks.length = A) := ⟨_, ⟨rfl⟩⟩
  rw [hA.out]
  go_enter Try.func15, Try.ntmps15
  go_upto_region 2 with fail
  rw [← hW.out]
  clear hW
  go_wp2_with fail
  go_loopw [5, 6] (fun s r wr => ∃ (k : Nat), k ≤ blocks.length ∧ r = .int .i64 k ∧ OwnI wr (w.heap.size + 1) s (prevTo blocks t k) ∧ wr.heap[w.heap.size]? = some F ∧ w.heap.size + 1 ≤ wr.heap.size ∧ Below w.heap.size w wr) (fun _ r _ => blocks.length - (intOf r).toNat)
  case atStart => exact ⟨0, Nat.zero_le _, rfl, ⟨hown⟩, hF0, hs0, hB0⟩
  case round =>
    clear hown hF0 hs0 hB0
    obtain ⟨k, hk, rfl, hown, hF1, hs1, hBl⟩ := hrel
    have hkl := prevTo_len blocks t k
    have x0 : wr.cell? ⟨w.heap.size, 0, none⟩ = _ := at_cells (hF1.trans (by rw [hF.out])) rfl
    have x1 : wr.cell? ⟨w.heap.size, 1, none⟩ = _ := at_cells (hF1.trans (by rw [hF.out])) rfl
    have x2 : wr.cell? ⟨w.heap.size, 2, none⟩ = _ := at_cells (hF1.trans (by rw [hF.out])) rfl
    have x3 : wr.cell? ⟨w.heap.size, 3, none⟩ = _ := at_cells (hF1.trans (by rw [hF.out])) rfl
    have x4 : wr.cell? ⟨w.heap.size, 4, none⟩ = _ := at_cells (hF1.trans (by rw [hF.out])) rfl
    by_cases hlt : k < blocks.length
    · have hC := Kp.mk (CN.out wr k hBl)
      have hstep : Kp (prevTo blocks t (k + 1) = if (nextL blocks k).contains t = true then prevTo blocks t k ++ [(k : Int)] else prevTo blocks t k) := ⟨rfl⟩
      go_wp2_with fail
      refine hC.out.mono ?_
      rintro e w2 ⟨v2, rfl, hO2, hb2⟩
      have hC2 := Kp.mk (CH.out _ _ _ _ hO2)
      have hown2 := hown.keep hb2
      have hF2 := keep_cells hF1 hb2
      have hBl2 := bel_trans hBl hb2
      have hs2 : w.heap.size + 1 ≤ w2.heap.size := by have := hb2.size; omega
      clear hown hF1 hBl x0 x1 x2 x3 x4 hC hO2
      go_wp2_with fail
      refine hC2.out.mono ?_
      rintro e w3 ⟨rfl, hb3⟩
      have hown3 := (hown2.keep hb3).r
      have hF3 := keep_cells hF2 hb3
      have hBl3 := bel_trans hBl2 hb3
      have hs3 : w.heap.size + 1 ≤ w3.heap.size := by have := hb3.size; omega
      clear hown2 hF2 hBl2 hC2 hb2 hb3
      by_cases hm : (nextL blocks k).contains t = true
      · have hst2 : Kp (prevTo blocks t (k + 1) = prevTo blocks t k ++ [(k : Int)]) := ⟨by rw [hstep.out, if_pos hm]⟩
        rw [hm]
        clear hstep hm
        go_wp2_with (at_builtin; refine wpList_append_vals _ rfl _ _ 22 rfl (w.heap.size + 1) 2 i0 (.int .i64 0) 1 8 Try.underlying22 hi0 hz0 hz1 hz2 rfl (by decide) _ _ _ rfl (hown3.alloc _) (some ⟨w3.heap.size, 0, none⟩) w3.heap.size 0 1 1 [.int .i64 k] rfl (fun _ => rfl) rfl (one_new w3 _ _) one_cell (by unfold maxLen; omega) (by omega) (by simp; omega) ?_; intro v4 w4 hown4 hgrow4)
        have hB4 := own_bel (hBl3.alloc hBl3.size _) (Joins_le (hown3.alloc _)) hgrow4 (by simp; omega)
        have hF4 : w4.heap[w.heap.size]? = some F := by
          rw [hgrow4.block w.heap.size (by simp; omega) (fun e => own_ne_at hown3 (by omega) e.symm), (MapKept.heap_alloc _ _).2 _ (by omega)]
          exact hF3
        have hs4 : w.heap.size + 1 ≤ w4.heap.size := by have := hgrow4.size; simp at this; omega
        have hown5 : w4.ownsRow (w.heap.size + 1) 2 1 v4 (prevTo blocks t (k + 1)).length ((prevTo blocks t (k + 1)).map (Value.int .i64)) := by rw [hst2.out]; simpa using hown4
        clear hown3 hown4 hgrow4 hBl3 hF3 hst2
        go_wp2_with fail
        exact ⟨⟨k + 1, by omega, by go_num, ⟨hown5⟩, hF4, hs4, hB4⟩, by simp [intOf]; omega⟩
      · have hst2 : Kp (prevTo blocks t (k + 1) = prevTo blocks t k) := ⟨by rw [hstep.out, if_neg hm]⟩
        have hm2 : (nextL blocks k).contains t = false := by simpa using hm
        rw [hm2]
        clear hstep hm hm2
        have hown4 : OwnI w3 (w.heap.size + 1) _ (prevTo blocks t (k + 1)) := ⟨by rw [hst2.out]; exact hown3⟩
        clear hown3 hst2
        go_wp2_with fail
        exact ⟨⟨k + 1, by omega, by go_num, hown4, hF3, hs3, hBl3⟩, by simp [intOf]; omega⟩
    · obtain rfl : k = blocks.length := by omega
      rw [hA.out] at hown
      replace hown := Kp.mk hown
      go_wp2_with fail
      go_ret
      exact ⟨_, rfl, ⟨Joins_le hown.out.r⟩, hBl⟩
end Go.Proofs.Ytoajibpconhkdaa
