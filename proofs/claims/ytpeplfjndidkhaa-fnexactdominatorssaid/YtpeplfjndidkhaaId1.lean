/- Dominators: the program's answer. -/
import Derived.Test.YtpeplfjndidkhaaDo1
import Derived.Test.YtpeplfjndidkhaaWs2
import Derived.Test.YtpeplfjndidkhaaId0
import Derived.Test.YtpeplfjndidkhaaRv1
namespace Go.Proofs.Ytpeplfjndidkhaa
open Go.ChangeShapes Go.WideShapes Go.ChangeAt Go.RowKit
set_option linter.unusedVariables false
set_option linter.unusedSimpArgs false
set_option maxRecDepth 100000 in
set_option maxHeartbeats 4000000 in
/-- slices.Repeat of one number: the row is the call's own. -/
theorem repO (ty : Int) (bx n : Nat) (w : World) (hx : At w bx 0 (.int .i64 ty)) (h1 : 1 ≤ n) (h2 : n ≤ 1048576) :
    Calls Try.prog 37 #[.slice (some ⟨bx, 0, none⟩) 1 1, .int .i64 n] w fun e w' => e = .returned (.slice (some ⟨w.heap.size, 0, none⟩) n n) ∧ OwnI w' w.heap.size (.slice (some ⟨w.heap.size, 0, none⟩) n n) (List.replicate n ty) ∧ Below w.heap.size w w' := by
  have g1 : (n : Int) ≤ 1048576 := by omega
  have g0 : ¬ (n : Int) < 0 := by omega
  have hw : IntKind.u64.wrap (n : Int) = n := by rw [IntKind.wrap_u64]; omega
  have hw2 : IntKind.i64.wrap (n : Int) = n := by rw [IntKind.wrap_i64]; omega
  have MU : Kp (∀ w, Calls Try.prog 63 #[.int .u64 1, .int .u64 n] w fun e w' => e = .returned (.tuple #[.int .u64 0, .int .u64 n]) ∧ w' = w) := ⟨fun w => by
    have q := mul_any 1 n w (by decide) (by omega) (by decide) (by omega)
    rwa [show (1 : Int) * (n : Int) / 18446744073709551616 = 0 by omega, show mLo (1 * (n : Int)) = n by unfold mLo; omega] at q⟩
  obtain ⟨O, hmk, -, L, hl, hO⟩ := mkI n h2
  have hx1 := at_keep hx (bel_alloc w O)
  have hB0 := bel_alloc w O
  have hg' : (w.alloc O).heap[w.heap.size]? = some (Go.Obj.cells L.toArray 2 (0, 0)) := by rw [hO]; exact new_cells w _
  obtain ⟨W0, hW0⟩ : ∃ W0, W0 = w.alloc O := ⟨_, rfl⟩
  rw [← hW0] at hx1 hB0 hg'
  clear hO
  replace hW0 := Kp.mk hW0
  go_enter Try.func37, Try.ntmps37
  go_wp2_with fail
  refine (MU.out _).mono ?_
  rintro e w1 ⟨rfl, rfl⟩
  go_upto_region 7 with fail
  rw [← hW0.out]
  clear hW0
  obtain ⟨W4, hcp, hg4, hb4⟩ : ∃ W4 : World, (Builtin.copy_ #[22, 22] 3 #[.slice (some ⟨w1.heap.size, 0, none⟩) n n, .slice (some ⟨bx, 0, none⟩) 1 1]).run Try.prog W0 = .ok (goInt 1) W4 ∧ W4.heap[w1.heap.size]? = some (Go.Obj.cells (splice L 0 [.int .i64 ty]).toArray 2 (0, 0)) ∧ Below w1.heap.size w1 W4 := by
    have q := run_copy_row (P := Try.prog) W0 22 22 3 2 w1.heap.size 0 n n ⟨bx, 0, none⟩ 1 1 L.toArray 2 [.int .i64 ty] Try.underlying22 (by kernel_rfl) hg' (Nat.min_eq_left h1).symm (fun j v hj => by
      have : j = 0 := by
        have := (List.getElem?_eq_some_iff.1 hj).1
        simpa using this
      subst this
      simp at hj
      subst hj
      rw [Go.WideShapes.add_plain]
      exact hx1) (by simp; omega) (fun u hu => by simp at hu; subst hu; rfl)
    refine ⟨_, q, ?_, below_setRow hB0 (Nat.le_refl _) _⟩
    rw [setRow_heap W0 w1.heap.size _ _ 2 _ hg']
    simp [splice]
  have hd : ∀ j, j < 1 → (splice L 0 [Value.int .i64 ty])[j]? = some (.int .i64 ty) := by
    have := splice_rep (cur := L) (V := .int .i64 ty) (k := 0) (m := 1) (by omega) (fun j hj => absurd hj (by omega))
    simpa using this
  have hl4 : (splice L 0 [Value.int .i64 ty]).length = n := by rw [length_splice _ _ _ (by simp; omega)]; exact hl
  replace hg4 := Kp.mk hg4
  replace hd := Kp.mk hd
  generalize splice L 0 [Value.int .i64 ty] = L4 at *
  clear hg' hx1 hl hmk hB0
  go_wp2_with fail
  go_loopw [8] (fun s wr => ∃ k : Nat, 1 ≤ k ∧ k ≤ n ∧ s = .int .i64 k ∧ Below w1.heap.size w1 wr ∧ ∃ M : List Value, M.length = n ∧ Kp (wr.heap[w1.heap.size]? = some (Go.Obj.cells M.toArray 2 (0, 0))) ∧ Kp (∀ j, j < k → M[j]? = some (.int .i64 ty))) (fun s _ => n - (intOf s).toNat)
  case atStart => exact ⟨1, Nat.le_refl _, h1, rfl, hb4, L4, hl4, hg4, hd⟩
  case round =>
    clear hl4 hg4 hd hb4
    obtain ⟨k, hk1, hk2, rfl, hB, M, hM, hg, hd⟩ := hrel
    by_cases hlt : k < n
    · have hlt' : (k : Int) < (n : Int) := by omega
      have hk3 : (k : Int) ≤ n := by omega
      have hk0 : (0 : Int) ≤ k := by omega
      obtain ⟨m, hm⟩ : ∃ m, m = Nat.min k (n - k) := ⟨_, rfl⟩
      have hm1 : 1 ≤ m := by rw [hm]; exact Nat.le_min.2 ⟨hk1, by omega⟩
      have hm2 : m ≤ k ∧ m ≤ n - k := ⟨by rw [hm]; exact Nat.min_le_left _ _, by rw [hm]; exact Nat.min_le_right _ _⟩
      obtain ⟨W5, hcp, hg5, hb5⟩ : ∃ W5 : World, (Builtin.copy_ #[22, 22] 3 #[.slice (some ⟨w1.heap.size, k, none⟩) (n - k) (n - k), .slice (some ⟨w1.heap.size, 0, none⟩) k n]).run Try.prog wr.drew = .ok (goInt m) W5 ∧ W5.heap[w1.heap.size]? = some (Go.Obj.cells (splice M k (List.replicate m (.int .i64 ty))).toArray 2 (0, 0)) ∧ Below w1.heap.size w1 W5 := by
        have hgd : wr.drew.heap[w1.heap.size]? = some (Go.Obj.cells M.toArray 2 (0, 0)) := hg.out
        have q := run_copy_row (P := Try.prog) wr.drew 22 22 3 2 w1.heap.size k (n - k) (n - k) ⟨w1.heap.size, 0, none⟩ k n M.toArray 2 (List.replicate m (.int .i64 ty)) Try.underlying22 (by kernel_rfl) hgd (by simp [hm]) (fun j v hj => by
          have hjm : j < m := by
            have := (List.getElem?_eq_some_iff.1 hj).1
            simpa using this
          rw [List.getElem?_replicate, if_pos hjm] at hj
          cases hj
          have := hd.out j (by omega)
          have hc : At wr.drew w1.heap.size j (.int .i64 ty) := at_cells hgd (by simpa using this)
          unfold Addr.add
          split
          · rename_i q0; rw [q0] at hc; exact hc
          · rw [Nat.zero_add]; exact hc) (by simp; omega) (fun u hu => by rw [(List.mem_replicate.1 hu).2]; rfl)
        rw [List.length_replicate] at q
        refine ⟨_, q, ?_, below_setRow hB.drew (Nat.le_refl _) _⟩
        rw [setRow_heap wr.drew w1.heap.size _ _ 2 _ hgd]
        simp [splice]
      have hd5 : ∀ j, j < k + m → (splice M k (List.replicate m (Value.int .i64 ty)))[j]? = some (.int .i64 ty) := splice_rep (by omega) hd.out
      have hl5 : (splice M k (List.replicate m (Value.int .i64 ty))).length = n := by rw [length_splice _ _ _ (by simp; omega)]; exact hM
      replace hg5 := Kp.mk hg5
      replace hd5 := Kp.mk hd5
      generalize splice M k (List.replicate m (Value.int .i64 ty)) = M5 at *
      have hm3 : (k : Int) + (m : Int) ≤ n := by omega
      clear hg hd hM hB hm
      go_wp2_with fail
      go_region
      go_wp2_with fail
      exact ⟨⟨k + m, by omega, by omega, by go_num, hb5, M5, hl5, hg5, hd5⟩, by simp [intOf]; omega⟩
    · have hlt' : ¬ (k : Int) < (n : Int) := by omega
      obtain rfl : k = n := by omega
      go_wp2_with fail
      go_ret
      refine ⟨rfl, ⟨?_⟩, hB⟩
      rw [List.length_replicate]
      refine ⟨by simp, .inr ⟨w1.heap.size, k, M.toArray, rfl, Nat.le_refl _, hg.out, Nat.le_refl _, by unfold maxLen; omega, by simpa using hM, ?_⟩⟩
      rw [Nat.mul_one, List.take_of_length_le (by simp; omega)]
      apply List.ext_getElem?
      intro j
      by_cases hj : j < k
      · rw [hd.out j hj]
        simp [hj]
      · rw [List.getElem?_eq_none (by simp; omega), List.getElem?_eq_none (by simp; omega)]
set_option maxRecDepth 100000 in
set_option maxHeartbeats 4000000 in
theorem domrI (d : FnD) (vp vb : Value) (w : World) {lo : Nat} (h : FnAt lo w d vp vb) (hn : fnN d ≤ 1048576) :
    Calls Try.prog 11 #[fnV d vp vb] w fun e w' => ∃ v : Value, e = .returned v ∧ OwnI w' w.heap.size v (dmL d.blocks) ∧ Below w.heap.size w w' := by
  have CG : Kp (∀ W, Below w.heap.size w W → Calls Try.prog 35 #[fnV d vp vb] W _) := ⟨fun W hW => graphI d vp vb W (h.keep hW) hn⟩
  unfold fnN at hn
  obtain ⟨name, link, params, res, blocks⟩ := d
  obtain ⟨-, hp, hb⟩ := h
  dsimp only [fnV] at *
  have nn := blsN_nn blocks
  have n3 : blsN blocks ≤ 1048576 := by omega
  obtain ⟨a1, k1, rfl⟩ := hp.shape
  obtain ⟨a2, k2, rfl⟩ := hb.shape
  clear hp hb
  obtain ⟨nb, hnb⟩ : ∃ nb, Kp (blocks.length = nb) := ⟨_, ⟨rfl⟩⟩
  have n2 : nb ≤ 1048576 := by have := hnb.out; omega
  have hpo := prevs_okD blocks n3
  have hnx : ∀ i : Nat, i < nb → (nextL blocks i).length ≤ 1048576 ∧ ∀ y ∈ nextL blocks i, 0 ≤ y ∧ y < nb := fun i hi => ⟨by have := @nextL_len blocks i; omega, fun y hy => by have := nextL_bd hy; rwa [hnb.out] at this⟩
  rw [hnb.out] at hpo CG ⊢
  obtain ⟨W0, hW0⟩ : ∃ W0, Kp (W0 = w.alloc (Go.Obj.cells #[.string name, .int .i64 link, .slice a1 params.length k1, .int .i64 res, .slice a2 nb k2] 30)) := ⟨_, ⟨rfl⟩⟩
  have hB0 : Below w.heap.size w W0 := by rw [hW0.out]; exact bel_alloc _ _
  have hx0 : W0.heap[w.heap.size]? = some (Go.Obj.cells #[.string name, .int .i64 link, .slice a1 params.length k1, .int .i64 res, .slice a2 nb k2] 30 (0, 0)) := by rw [hW0.out]; exact new_cells _ _
  have x0 := at_cells hx0 (j := 0) rfl
  have x1 := at_cells hx0 (j := 1) rfl
  have x2 := at_cells hx0 (j := 2) rfl
  have x3 := at_cells hx0 (j := 3) rfl
  have x4 := at_cells hx0 (j := 4) rfl
  clear n3 nn hn
  by_cases h0 : nb = 0
  · have hg : ((nb : Int) == 0) = true := by simp [h0]
    replace hx0 := Kp.mk hx0
    replace h0 := Kp.mk h0
    go_enter Try.func11, Try.ntmps11
    go_upto_region 1 with fail
    rw [← hW0.out]
    go_wp2_with fail
    go_ret
    rw [show dmL blocks = [] by unfold dmL; rw [hnb.out, h0.out]; rfl]
    exact ⟨_, rfl, ⟨World.ownsRow_nil _ _ _ _⟩, hB0⟩
  · have hg : ((nb : Int) == 0) = false := by rw [beq_eq_false_iff_ne]; omega
    have hpos : 0 < nb := by omega
    have CD : Kp (∀ W vN vP lo, Rws lo W vN nb (fun i => nextL blocks i) → Rws lo W vP nb (prevs blocks nb) → Calls Try.prog 36 #[.agg #[vN, vP], .int .i64 0] W _) := ⟨fun W vN vP lo hN hP => dominanceI (nextL blocks) nb lo (prevs blocks nb) W vN vP hN hP 0 hpos n2 hnx hpo⟩
    have CR : Kp (∀ (bx : Nat) (W : World), At W bx 0 (.int .i64 (-1)) → Calls Try.prog 37 #[.slice (some ⟨bx, 0, none⟩) 1 1, .int .i64 nb] W _) := ⟨fun bx W h => repO (-1) bx nb W h (by omega) n2⟩
    replace hx0 := Kp.mk hx0
    replace hnx := Kp.mk hnx
    replace hpo := Kp.mk hpo
    go_enter Try.func11, Try.ntmps11
    go_upto_region 1 with fail
    rw [← hW0.out]
    go_wp2_with fail
    refine (CG.out _ hB0).mono ?_
    rintro e W1 ⟨vN, vP, rfl, hN, hP, hB1⟩
    have CD1 := Kp.mk (CD.out W1 vN vP _ hN hP)
    clear x0 x1 x2 x3 x4
    go_wp2_with fail
    refine CD1.out.mono ?_
    rintro e W2 ⟨prs, ab, st, sz, v, rfl, hd, hB2, hA, hDv, hnear, hS, htop⟩
    obtain ⟨b1, b2, b3, b4, b5, b6, c1, c2, c3, c4, c5, c6, rfl, r1, -, -, r4, -, -, hc1⟩ := hd.ex
    have hB02 := bel_trans (bel_trans hB0 hB1) hB2
    obtain ⟨M, hM⟩ : ∃ M, Kp (prs.length = M) := ⟨_, ⟨rfl⟩⟩
    obtain ⟨arr, harr⟩ : ∃ arr, Kp (prs.map (·.1) = arr) := ⟨_, ⟨rfl⟩⟩
    rw [hM.out, harr.out] at hDv
    rw [hM.out] at hnear
    rw [harr.out] at r1 hnear
    rw [hM.out] at r1 r4 hc1 ⊢
    have hMa : M = arr.length := by rw [← harr.out, ← hM.out]; simp
    have hMnb : M ≤ nb := by rw [← hM.out]; exact hA.len
    have harr0 : arr[0]? = some (0 : Int) := by rw [← harr.out, List.getElem?_map, hA.hd]; rfl
    have hM0 : 0 < M := by rw [hMa]; exact lt_of_get harr0
    have hbd : ∀ x ∈ arr, 0 ≤ x ∧ x < nb := fun x hx => by rw [← harr.out] at hx; obtain ⟨e, he, rfl⟩ := List.mem_map.1 hx; exact hA.bd e he
    have hW2f := keep_cells (keep_cells hx0.out hB1) hB2
    obtain ⟨X1, hX1⟩ : ∃ X, Kp (X = (W2.alloc (Go.Obj.cells #[.slice (some ⟨b1, 0, none⟩) M c1, .slice (some ⟨b2, 0, none⟩) M c2, .slice (some ⟨b3, 0, none⟩) nb c3, .slice (some ⟨b4, 0, none⟩) M c4, .slice (some ⟨b5, 0, none⟩) M c5, .slice (some ⟨b6, 0, none⟩) M c6] 58)).alloc (Go.Obj.cells #[.int .i64 (-1)] 2)) := ⟨_, ⟨rfl⟩⟩
    have hBX1 : Below W2.heap.size W2 X1 := by rw [hX1.out]; exact bel_trans (bel_alloc _ _) (bel_alloc _ _)
    have hbd1 : X1.heap[W2.heap.size]? = some (Go.Obj.cells #[.slice (some ⟨b1, 0, none⟩) M c1, .slice (some ⟨b2, 0, none⟩) M c2, .slice (some ⟨b3, 0, none⟩) nb c3, .slice (some ⟨b4, 0, none⟩) M c4, .slice (some ⟨b5, 0, none⟩) M c5, .slice (some ⟨b6, 0, none⟩) M c6] 58 (0, 0)) := by rw [hX1.out]; exact keep_cells (new_cells _ _) (bel_alloc _ _)
    have hm1 : At X1 (W2.heap.size + 1) 0 (.int .i64 (-1)) := by rw [hX1.out]; exact at_cells (new_at (by simp)) rfl
    have hf1 := keep_cells hW2f (bel_alloc W2 (Go.Obj.cells #[.slice (some ⟨b1, 0, none⟩) M c1, .slice (some ⟨b2, 0, none⟩) M c2, .slice (some ⟨b3, 0, none⟩) nb c3, .slice (some ⟨b4, 0, none⟩) M c4, .slice (some ⟨b5, 0, none⟩) M c5, .slice (some ⟨b6, 0, none⟩) M c6] 58))
    have y4 := at_cells hf1 (j := 4) rfl
    have y4' : X1.cell? ⟨w.heap.size, 4, none⟩ = some (.slice a2 nb k2) := at_cells (keep_cells hW2f hBX1) rfl
    have y4w := y4'
    rw [hX1.out] at y4w
    have CR1 := Kp.mk (CR.out _ _ hm1)
    have r1X := r1.keep hBX1
    have r4X := r4.keep hBX1
    have hs1 : W2.heap.size < X1.heap.size := (Array.getElem?_eq_some_iff.1 hbd1).1
    obtain ⟨Bd, hBd⟩ : ∃ b, Kp (W2.heap.size = b) := ⟨_, ⟨rfl⟩⟩
    have lb1 := r1.lt
    have lb4 := r4.lt
    replace hMa := Kp.mk hMa
    replace hA := Kp.mk hA
    replace hDv := Kp.mk hDv
    replace hnear := Kp.mk hnear
    replace hS := Kp.mk hS
    replace htop := Kp.mk htop
    replace hd := Kp.mk hd
    replace r1 := Kp.mk r1
    replace r4 := Kp.mk r4
    replace hbd := Kp.mk hbd
    replace hf1 := Kp.mk hf1
    replace hW2f := Kp.mk hW2f
    replace harr0 := Kp.mk harr0
    replace hm1 := Kp.mk hm1
    go_wp2_with fail
    rw [← hX1.out]
    refine CR1.out.mono ?_
    rintro e X2 ⟨rfl, hO, hBX2⟩
    have hbd2 := keep_cells hbd1 hBX2
    have r1Y := r1X.keep hBX2
    have r4Y := r4X.keep hBX2
    obtain ⟨bl, hbl⟩ : ∃ b, Kp (X1.heap.size = b) := ⟨_, ⟨rfl⟩⟩
    rw [hbl.out] at hO ⊢
    rw [hBd.out] at hbd2 lb1 lb4 ⊢
    have hBl : Bd < bl := by rw [← hbl.out, ← hBd.out]; exact hs1
    have hwl : w.heap.size ≤ bl := by have := hB02.size; have := hBd.out; omega
    have hbelX : Below w.heap.size w X2 := bel_trans (bel_trans hB02 hBX1) hBX2
    replace hO := Kp.mk hO
    replace r1X := Kp.mk r1X
    replace r4X := Kp.mk r4X
    replace hbd1 := Kp.mk hbd1
    clear y4 y4' y4w CR1 hs1
    go_wp2_with fail
    go_loopw [5] (fun s wr => ∃ k : Nat, 1 ≤ k ∧ k ≤ M ∧ s = .int .i64 k ∧ ∃ L : List Int, L.length = nb ∧ OwnI wr bl (.slice (some ⟨bl, 0, none⟩) nb nb) L ∧ X2.grownBy wr (some bl) ∧ Below w.heap.size w wr ∧ ∀ b : Nat, b < nb → (∃ i, 0 < i ∧ i < k ∧ arr[i]? = some (b : Int) ∧ L.getD b 0 = arr.getD (ab i) 0) ∨ ((∀ i, 0 < i → i < k → arr[i]? ≠ some (b : Int)) ∧ L.getD b 0 = -1)) (fun s _ => M - (intOf s).toNat)
    case atStart => exact ⟨1, Nat.le_refl _, hM0, rfl, _, by simp, hO.out, ⟨rfl, rfl, rfl, Nat.le_refl _, fun _ _ _ => rfl⟩, hbelX, fun b hb => .inr ⟨fun i h1 h2 => by omega, by simp [hb]⟩⟩
    case round =>
      clear hO hbelX
      obtain ⟨k, hk1, hkM, rfl, L, hL, hO, hG, hbel, hE⟩ := hrel
      have k0 : (0 : Int) ≤ (k : Int) := by omega
      have hbx := (hG.block Bd (Array.getElem?_eq_some_iff.1 hbd2).1 (by intro e; cases e; omega)).trans hbd2
      have q0 := at_cells hbx (j := 0) rfl
      have q3 := at_cells hbx (j := 3) rfl
      by_cases hlt : k < M
      · have k1 : (k : Int) < (M : Int) := by omega
        have g1 := r1Y.kept hG (by intro e; cases e; omega)
        have g4 := r4Y.kept hG (by intro e; cases e; omega)
        have hkl : k < arr.length := by have := hMa.out; omega
        have hnk := hnear.out k (by omega) hlt
        have hab := hnk.lt
        have cr := g1.at hlt
        have ca := g4.at hlt
        have cu := g1.at (i := ab k) (by omega)
        have hak : arr[k]? = some (arr.getD k 0) := by simp [hkl]
        have hbk := hbd.out _ (List.mem_of_getElem? hak)
        obtain ⟨a, ha⟩ : ∃ a, ab k = a := ⟨_, rfl⟩
        obtain ⟨u, hu⟩ : ∃ u, arr.getD (ab k) 0 = u := ⟨_, rfl⟩
        obtain ⟨x, hx⟩ : ∃ x, arr.getD k 0 = x := ⟨_, rfl⟩
        rw [hx] at cr hak hbk
        rw [hu] at cu
        rw [ha] at ca cu hab
        obtain ⟨t, rfl⟩ : ∃ t : Nat, x = t := ⟨x.toNat, by omega⟩
        have ht : t < nb := by omega
        have t0 : (0 : Int) ≤ (t : Int) := by omega
        have t1 : (t : Int) < (nb : Int) := by omega
        have a0 : (0 : Int) ≤ (a : Int) := by omega
        have a1 : (a : Int) < (M : Int) := by omega
        have hOd := hO.keep (bel_drew wr)
        have hO2 := hOd.set2 (j := t) hL ht u
        have hcl := hO.cell (i := t) (by omega)
        have hfl := hO.frz t
        have hfld : wr.drew.frozen? ⟨bl, t, none⟩ = false := hfl
        have hcld : wr.drew.cell? ⟨bl, t, none⟩ = _ := hcl
        have hG2 : X2.grownBy (wr.drew.setCell ⟨bl, t, none⟩ (.int .i64 u)) (some bl) := (hG.trans (show wr.grownBy wr.drew (some bl) from ⟨rfl, rfl, rfl, Nat.le_refl _, fun _ _ _ => rfl⟩)).trans (Fam.setHd.gset wr.drew bl t (.int .i64 u))
        have hbel2 : Below w.heap.size w (wr.drew.setCell ⟨bl, t, none⟩ (.int .i64 u)) := hbel.drew.setCell (by show w.heap.size ≤ bl; exact hwl) _
        have s8 : wr.drew.cell? ⟨Bd, 0, none⟩ = some (.slice (some ⟨b1, 0, none⟩) M c1) ∧ wr.drew.cell? ⟨Bd, 3, none⟩ = some (.slice (some ⟨b4, 0, none⟩) M c4) ∧ wr.drew.cell? ⟨b1, k, none⟩ = some (.int .i64 (t : Int)) ∧ wr.drew.cell? ⟨b4, k, none⟩ = some (.int .i64 (a : Int)) ∧ wr.drew.cell? ⟨b1, a, none⟩ = some (.int .i64 u) := ⟨q0, q3, cr, ca, cu⟩
        have e9 : ∀ k, k ≠ bl → (wr.drew.setCell ⟨bl, t, none⟩ (.int .i64 u)).heap[k]? = wr.heap[k]? := fun k hk => heap_set wr.drew _ _ _ _ hk
        have t8 : (wr.drew.setCell ⟨bl, t, none⟩ (.int .i64 u)).cell? ⟨Bd, 0, none⟩ = some (.slice (some ⟨b1, 0, none⟩) M c1) ∧ (wr.drew.setCell ⟨bl, t, none⟩ (.int .i64 u)).cell? ⟨Bd, 3, none⟩ = some (.slice (some ⟨b4, 0, none⟩) M c4) ∧ (wr.drew.setCell ⟨bl, t, none⟩ (.int .i64 u)).cell? ⟨b1, k, none⟩ = some (.int .i64 (t : Int)) ∧ (wr.drew.setCell ⟨bl, t, none⟩ (.int .i64 u)).cell? ⟨b4, k, none⟩ = some (.int .i64 (a : Int)) ∧ (wr.drew.setCell ⟨bl, t, none⟩ (.int .i64 u)).cell? ⟨b1, a, none⟩ = some (.int .i64 u) := ⟨at_same q0 (e9 _ (by omega)), at_same q3 (e9 _ (by omega)), at_same cr (e9 _ (by omega)), at_same ca (e9 _ (by omega)), at_same cu (e9 _ (by omega))⟩
        have hE2 : ∀ b : Nat, b < nb → (∃ i, 0 < i ∧ i < k + 1 ∧ arr[i]? = some (b : Int) ∧ (L.set t u).getD b 0 = arr.getD (ab i) 0) ∨ ((∀ i, 0 < i → i < k + 1 → arr[i]? ≠ some (b : Int)) ∧ (L.set t u).getD b 0 = -1) := fun b hb => by
          by_cases e : b = t
          · subst e
            exact .inl ⟨k, by omega, by omega, hak, by rw [hu]; simp [hL, hb]⟩
          · have eg : (L.set t u).getD b 0 = L.getD b 0 := by simp [List.getD_eq_getElem?_getD, List.getElem?_set, Ne.symm e]
            rw [eg]
            rcases hE b hb with ⟨i, i1, i2, i3, i4⟩ | ⟨i1, i2⟩
            · exact .inl ⟨i, i1, by omega, i3, i4⟩
            · refine .inr ⟨fun i j1 j2 j3 => ?_, i2⟩
              by_cases e2 : i = k
              · subst e2
                rw [hak] at j3
                have := Option.some.inj j3
                omega
              · exact i1 i j1 (by omega) j3
        replace hO := Kp.mk hO
        replace hOd := Kp.mk hOd
        replace hO2 := Kp.mk hO2
        replace hG := Kp.mk hG
        replace hG2 := Kp.mk hG2
        replace hE := Kp.mk hE
        replace hE2 := Kp.mk hE2
        replace hu := Kp.mk hu
        replace hx := Kp.mk hx
        replace ha := Kp.mk ha
        replace hak := Kp.mk hak
        replace hnk := Kp.mk hnk
        replace hbx := Kp.mk hbx
        replace g1 := Kp.mk g1
        replace g4 := Kp.mk g4
        have hL2 : (L.set t u).length = nb := by simp [hL]
        replace hL2 := Kp.mk hL2
        clear e9
        go_upto_region 8 with fail
        refine wp_region_held_drew (S := fun W' => W'.cell? ⟨Bd, 0, none⟩ = some (.slice (some ⟨b1, 0, none⟩) M c1) ∧ W'.cell? ⟨Bd, 3, none⟩ = some (.slice (some ⟨b4, 0, none⟩) M c4) ∧ W'.cell? ⟨b1, k, none⟩ = some (.int .i64 (t : Int)) ∧ W'.cell? ⟨b4, k, none⟩ = some (.int .i64 (a : Int)) ∧ W'.cell? ⟨b1, a, none⟩ = some (.int .i64 u)) (by kernel_rfl) s8 (fun hHeld => ?_)
        refine wpAnyH_take (i := 0) (v := .slice (some ⟨bl, 0, none⟩) nb nb) rfl (by kernel_rfl) (by kernel_rfl) (by kernel_rfl) (fun _ _ _ h => h) (Or.inl ⟨by rfl, fun wq hSw => by (try dsimp only at hSw); go_simp⟩) hHeld ?_
        try simp only [Act.put, List.getElem_toArray, List.getElem_cons_succ, List.getElem_cons_zero, List.setIfInBounds_toArray, List.set_cons_zero, List.set_cons_succ]
        refine wpAnyH_take (i := 1) (v := .pointer (some ⟨Bd, 0, none⟩)) rfl (by kernel_rfl) (by kernel_rfl) (by kernel_rfl) (fun _ _ _ h => h) (Or.inl ⟨by rfl, fun wq hSw => by (try dsimp only at hSw); go_simp⟩) hHeld ?_
        try simp only [Act.put, List.getElem_toArray, List.getElem_cons_succ, List.getElem_cons_zero, List.setIfInBounds_toArray, List.set_cons_zero, List.set_cons_succ]
        refine wpAnyH_take (i := 2) (v := .pointer (some ⟨Bd, 0, none⟩)) rfl (by kernel_rfl) (by kernel_rfl) (by kernel_rfl) (fun _ _ _ h => h) (Or.inl ⟨by rfl, fun wq hSw => by (try dsimp only at hSw); go_simp⟩) hHeld ?_
        try simp only [Act.put, List.getElem_toArray, List.getElem_cons_succ, List.getElem_cons_zero, List.setIfInBounds_toArray, List.set_cons_zero, List.set_cons_succ]
        refine wpAnyH_take (i := 3) (v := .slice (some ⟨b1, 0, none⟩) M c1) rfl (by kernel_rfl) (by kernel_rfl) (by kernel_rfl) (fun _ _ _ h => h) (Or.inl ⟨by rfl, fun wq hSw => by (try dsimp only at hSw); go_simp⟩) hHeld ?_
        try simp only [Act.put, List.getElem_toArray, List.getElem_cons_succ, List.getElem_cons_zero, List.setIfInBounds_toArray, List.set_cons_zero, List.set_cons_succ]
        refine wpAnyH_take (i := 4) (v := .int .i64 (k : Int)) rfl (by kernel_rfl) (by kernel_rfl) (by kernel_rfl) (fun _ _ _ h => h) (Or.inl ⟨by rfl, fun wq hSw => by (try dsimp only at hSw); go_simp⟩) hHeld ?_
        try simp only [Act.put, List.getElem_toArray, List.getElem_cons_succ, List.getElem_cons_zero, List.setIfInBounds_toArray, List.set_cons_zero, List.set_cons_succ]
        refine wpAnyH_take (i := 5) (v := .pointer (some ⟨b1, k, none⟩)) rfl (by kernel_rfl) (by kernel_rfl) (by kernel_rfl) (fun _ _ _ h => h) (Or.inl ⟨by rfl, fun wq hSw => by (try dsimp only at hSw); go_simp⟩) hHeld ?_
        try simp only [Act.put, List.getElem_toArray, List.getElem_cons_succ, List.getElem_cons_zero, List.setIfInBounds_toArray, List.set_cons_zero, List.set_cons_succ]
        refine wpAnyH_take (i := 6) (v := .int .i64 (t : Int)) rfl (by kernel_rfl) (by kernel_rfl) (by kernel_rfl) (fun _ _ _ h => h) (Or.inl ⟨by rfl, fun wq hSw => by (try dsimp only at hSw); go_simp⟩) hHeld ?_
        try simp only [Act.put, List.getElem_toArray, List.getElem_cons_succ, List.getElem_cons_zero, List.setIfInBounds_toArray, List.set_cons_zero, List.set_cons_succ]
        refine wpAnyH_take (i := 7) (v := .pointer (some ⟨Bd, 0, none⟩)) rfl (by kernel_rfl) (by kernel_rfl) (by kernel_rfl) (fun _ _ _ h => h) (Or.inl ⟨by rfl, fun wq hSw => by (try dsimp only at hSw); go_simp⟩) hHeld ?_
        try simp only [Act.put, List.getElem_toArray, List.getElem_cons_succ, List.getElem_cons_zero, List.setIfInBounds_toArray, List.set_cons_zero, List.set_cons_succ]
        refine wpAnyH_take (i := 8) (v := .pointer (some ⟨Bd, 0, none⟩)) rfl (by kernel_rfl) (by kernel_rfl) (by kernel_rfl) (fun _ _ _ h => h) (Or.inl ⟨by rfl, fun wq hSw => by (try dsimp only at hSw); go_simp⟩) hHeld ?_
        try simp only [Act.put, List.getElem_toArray, List.getElem_cons_succ, List.getElem_cons_zero, List.setIfInBounds_toArray, List.set_cons_zero, List.set_cons_succ]
        refine wpAnyH_take (i := 9) (v := .slice (some ⟨b1, 0, none⟩) M c1) rfl (by kernel_rfl) (by kernel_rfl) (by kernel_rfl) (fun _ _ _ h => h) (Or.inl ⟨by rfl, fun wq hSw => by (try dsimp only at hSw); go_simp⟩) hHeld ?_
        try simp only [Act.put, List.getElem_toArray, List.getElem_cons_succ, List.getElem_cons_zero, List.setIfInBounds_toArray, List.set_cons_zero, List.set_cons_succ]
        refine wpAnyH_take (i := 10) (v := .pointer (some ⟨Bd, 3, none⟩)) rfl (by kernel_rfl) (by kernel_rfl) (by kernel_rfl) (fun _ _ _ h => h) (Or.inl ⟨by rfl, fun wq hSw => by (try dsimp only at hSw); go_simp⟩) hHeld ?_
        try simp only [Act.put, List.getElem_toArray, List.getElem_cons_succ, List.getElem_cons_zero, List.setIfInBounds_toArray, List.set_cons_zero, List.set_cons_succ]
        refine wpAnyH_take (i := 11) (v := .slice (some ⟨b4, 0, none⟩) M c4) rfl (by kernel_rfl) (by kernel_rfl) (by kernel_rfl) (fun _ _ _ h => h) (Or.inl ⟨by rfl, fun wq hSw => by (try dsimp only at hSw); go_simp⟩) hHeld ?_
        try simp only [Act.put, List.getElem_toArray, List.getElem_cons_succ, List.getElem_cons_zero, List.setIfInBounds_toArray, List.set_cons_zero, List.set_cons_succ]
        refine wpAnyH_take (i := 12) (v := .int .i64 (k : Int)) rfl (by kernel_rfl) (by kernel_rfl) (by kernel_rfl) (fun _ _ _ h => h) (Or.inl ⟨by rfl, fun wq hSw => by (try dsimp only at hSw); go_simp⟩) hHeld ?_
        try simp only [Act.put, List.getElem_toArray, List.getElem_cons_succ, List.getElem_cons_zero, List.setIfInBounds_toArray, List.set_cons_zero, List.set_cons_succ]
        refine wpAnyH_take (i := 13) (v := .pointer (some ⟨b4, k, none⟩)) rfl (by kernel_rfl) (by kernel_rfl) (by kernel_rfl) (fun _ _ _ h => h) (Or.inl ⟨by rfl, fun wq hSw => by (try dsimp only at hSw); go_simp⟩) hHeld ?_
        try simp only [Act.put, List.getElem_toArray, List.getElem_cons_succ, List.getElem_cons_zero, List.setIfInBounds_toArray, List.set_cons_zero, List.set_cons_succ]
        refine wpAnyH_take (i := 14) (v := .int .i64 (a : Int)) rfl (by kernel_rfl) (by kernel_rfl) (by kernel_rfl) (fun _ _ _ h => h) (Or.inl ⟨by rfl, fun wq hSw => by (try dsimp only at hSw); go_simp⟩) hHeld ?_
        try simp only [Act.put, List.getElem_toArray, List.getElem_cons_succ, List.getElem_cons_zero, List.setIfInBounds_toArray, List.set_cons_zero, List.set_cons_succ]
        refine wpAnyH_take (i := 15) (v := .pointer (some ⟨b1, a, none⟩)) rfl (by kernel_rfl) (by kernel_rfl) (by kernel_rfl) (fun _ _ _ h => h) (Or.inl ⟨by rfl, fun wq hSw => by (try dsimp only at hSw); go_simp⟩) hHeld ?_
        try simp only [Act.put, List.getElem_toArray, List.getElem_cons_succ, List.getElem_cons_zero, List.setIfInBounds_toArray, List.set_cons_zero, List.set_cons_succ]
        refine wpAnyH_take (i := 16) (v := .int .i64 u) rfl (by kernel_rfl) (by kernel_rfl) (by kernel_rfl) (fun _ _ _ h => h) (Or.inl ⟨by rfl, fun wq hSw => by (try dsimp only at hSw); go_simp⟩) hHeld ?_
        try simp only [Act.put, List.getElem_toArray, List.getElem_cons_succ, List.getElem_cons_zero, List.setIfInBounds_toArray, List.set_cons_zero, List.set_cons_succ]
        refine wpAnyH_take (i := 17) (v := .pointer (some ⟨bl, t, none⟩)) rfl (by kernel_rfl) (by kernel_rfl) (by kernel_rfl) (fun _ _ _ h => h) (Or.inl ⟨by rfl, fun wq hSw => by (try dsimp only at hSw); go_simp⟩) hHeld ?_
        try simp only [Act.put, List.getElem_toArray, List.getElem_cons_succ, List.getElem_cons_zero, List.setIfInBounds_toArray, List.set_cons_zero, List.set_cons_succ]
        refine wpAnyH_ready (rs := [18]) (by kernel_rfl) (by simp) ?_
        refine AllReadyH.cons rfl (fun K hK => ?_) AllReadyH.nil
        go_simp
        refine hK.out _ _ t8 (fun hHeld => ?_)
        clear hK K
        try simp only [Act.put, List.getElem_toArray, List.getElem_cons_succ, List.getElem_cons_zero, List.setIfInBounds_toArray, List.set_cons_zero, List.set_cons_succ]
        refine wpAnyH_done (by kernel_rfl) ?_ _
        clear s8 t8 hHeld cr ca cu hcl hcld hfl hfld
        go_wp2_with fail
        exact ⟨⟨k + 1, by omega, by omega, by go_num, L.set t u, hL2.out, hO2.out, hG2.out, hbel2, hE2.out⟩, by simp [intOf]; omega⟩
      · obtain rfl : M = k := by omega
        replace hO := Kp.mk hO
        replace hG := Kp.mk hG
        replace hE := Kp.mk hE
        replace hbx := Kp.mk hbx
        go_wp2_with fail
        go_ret
        suffices hLe : L = dmL blocks by
          rw [← hLe]
          exact ⟨_, rfl, ⟨own_base hO.out.r hwl⟩, hbel⟩
        have hnn := hnb.out
        refine dmL_eq (by omega) (fun b hb => ?_)
        refine IdOf.det hDv.out hMa.out harr0.out (b := b) ?_ (bst_id hDv.out hMa.out harr0.out (by omega) hnear.out (fun x hx => by have := hbd.out x hx; omega) b)
        rw [hnn] at hb
        rcases hE.out b hb with ⟨i, i1, i2, i3, i4⟩ | ⟨i1, i2⟩
        · rw [i4]
          have hn := hnear.out i i1 i2
          have hla : ab i < arr.length := by have := hn.lt; have := hMa.out; omega
          exact .inl (Near.blocks hDv.out hMa.out harr0.out (by simp [hla]) i3 hn)
        · rw [i2]
          refine .inr ⟨rfl, NearB.none hDv.out hMa.out harr0.out ?_⟩
          by_cases e : (b : Int) ∈ arr
          · obtain ⟨i, hi⟩ := List.getElem?_of_mem e
            by_cases e0 : i = 0
            · subst e0
              rw [harr0.out] at hi
              exact .inl (Option.some.inj hi).symm
            · exact absurd hi (i1 i (by omega) (by rw [hMa.out]; exact lt_of_get hi))
          · exact .inr e
end Go.Proofs.Ytpeplfjndidkhaa
