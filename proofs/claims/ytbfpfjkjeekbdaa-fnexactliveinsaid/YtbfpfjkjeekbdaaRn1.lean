/- A row of whole numbers in a block: read, written, made, repeated. -/
import Derived.Test.YtbfpfjkjeekbdaaGi1
import Derived.Test.YtbfpfjkjeekbdaaMul
import Derived.Laws.CopyOwn
import Derived.Deep.RegionLaw
namespace Go.Proofs.Ytbfpfjkjeekbdaa
open Go.ChangeShapes Go.WideShapes Go.ChangeAt Go.RowKit
set_option linter.unusedVariables false
set_option linter.unusedSimpArgs false
structure RowI (w : World) (b M : Nat) (z : Nat → Int) : Prop where
  ex : ∃ cur, w.heap[b]? = some (Go.Obj.cells cur 2 (0, 0)) ∧ ∀ i : Nat, i < M → cur[i]? = some (.int .i64 (z i))
section
variable {w w' : World} {b M : Nat} {z : Nat → Int}
theorem RowI.at (h : RowI w b M z) {i : Nat} (hi : i < M) : At w b i (.int .i64 (z i)) := by
  obtain ⟨cur, h1, h2⟩ := h.ex
  exact at_cells h1 (h2 i hi)
theorem RowI.rw (h : RowI w b M z) (i : Nat) : w.frozen? ⟨b, i, none⟩ = false := by
  obtain ⟨cur, h1, h2⟩ := h.ex
  exact rw_cells h1 i
theorem RowI.lt (h : RowI w b M z) : b < w.heap.size := by
  obtain ⟨cur, h1, h2⟩ := h.ex
  exact (Array.getElem?_eq_some_iff.1 h1).1
theorem RowI.same (h : RowI w b M z) (e : w'.heap[b]? = w.heap[b]?) : RowI w' b M z := by
  obtain ⟨cur, h1, h2⟩ := h.ex
  exact ⟨cur, e.trans h1, h2⟩
theorem RowI.keep (h : RowI w b M z) (hb : Below w.heap.size w w') : RowI w' b M z := h.same (hb.block b h.lt)
theorem RowI.kept {row : Option Nat} (h : RowI w b M z) (hg : w.grownBy w' row) (hne : some b ≠ row) : RowI w' b M z := h.same (hg.block b h.lt hne)
theorem RowI.congr {z' : Nat → Int} (h : RowI w b M z) (e : ∀ i, i < M → z' i = z i) : RowI w b M z' := by
  obtain ⟨cur, h1, h2⟩ := h.ex
  exact ⟨cur, h1, fun i hi => by rw [e i hi]; exact h2 i hi⟩
theorem RowI.set (h : RowI w b M z) {j : Nat} (hj : j < M) (y : Int) : RowI (w.setCell ⟨b, j, none⟩ (.int .i64 y)) b M (upd z j y) := by
  obtain ⟨cur, h1, h2⟩ := h.ex
  refine ⟨_, set_cells h1 j _, fun i hi => ?_⟩
  have hc := (Array.getElem?_eq_some_iff.1 (h2 j hj)).1
  by_cases e : i = j
  · subst e
    rw [upd_same]
    simp [hc]
  · rw [upd_other _ _ _ _ e]
    simp [Array.getElem?_setIfInBounds, Ne.symm e, h2 i hi]
theorem RowI.setOther (h : RowI w b M z) {b' j : Nat} (u : Value) (hne : b ≠ b') : RowI (w.setCell ⟨b', j, none⟩ u) b M z := h.same (heap_set _ _ _ _ _ hne)
theorem RowI.ints (h : RowI w b M z) {lo n c : Nat} {xs : List Int} (hl : lo ≤ b) (hx : xs.length = n) (hn : n ≤ M) (hc : n ≤ c) (hn2 : n ≤ 1048576) (e : ∀ i (hi : i < xs.length), xs[i] = z i) : Ints lo .i64 w (.slice (some ⟨b, 0, none⟩) n c) xs :=
  ⟨b, 0, by rw [hx]; exact ⟨⟨_, _, rfl, hc, fun _ => rfl⟩, by omega⟩, hl, fun i hi => by rw [Nat.zero_add, e i hi]; exact h.at (by omega)⟩
end
/-- A row that a call owns is such a row. -/
theorem OwnI.row {w : World} {base : Nat} {v : Value} {xs : List Int} (h : OwnI w base v xs) (h0 : 0 < xs.length) : ∃ b c, v = .slice (some ⟨b, 0, none⟩) xs.length c ∧ xs.length ≤ c ∧ base ≤ b ∧ RowI w b xs.length (fun i => xs.getD i 0) := by
  obtain ⟨hl, ⟨e, q⟩ | ⟨g, cap, cur, e, h1, h2, h3, h4, h5, h6⟩⟩ := h.r
  · omega
  · refine ⟨g, cap, e, h3, h1, cur, h2, fun i hi => ?_⟩
    have : (cur.toList.take (xs.length * 1))[i]? = some (.int .i64 xs[i]) := by rw [h6]; simp [hi]
    rw [List.getElem?_take] at this
    split at this
    · simpa [hi] using this
    · cases this
/-- 'make([]int64, n)'. -/
theorem mkI (n : Nat) (hn : n ≤ 1048576) : ∃ O : Obj, (∀ W : World, (Instr.makeSlice 22 (.int .i64 (n : Int)) (.int .i64 (n : Int))).run Try.prog W = .ok (.slice (some ⟨W.heap.size, 0, none⟩) n n) (W.alloc O)) ∧ (∀ W : World, RowI (W.alloc O) W.heap.size n (fun _ => 0)) ∧ ∃ L : List Value, L.length = n ∧ O = Go.Obj.cells L.toArray 2 := by
  obtain ⟨i, hi, hzz⟩ := Option.map_eq_some_iff.1 (show (Try.prog.info? 2).map (fun i => (i.zero, i.size, i.bytes)) = some (some (.int .i64 0), 1, 8) by kernel_rfl)
  simp only [Prod.mk.injEq] at hzz
  obtain ⟨hz, hs, hbb⟩ := hzz
  have e := size_madeCells (Value.int .i64 0).cells (n * 1)
  refine ⟨.cells (madeCells (Value.int .i64 0).cells (n * 1)) 2, fun W => ?_, fun W => ⟨_, new_cells W _, fun j hj => ?_⟩, (madeCells (Value.int .i64 0).cells (n * 1)).toList, by rw [Array.length_toList, e]; omega, by simp⟩
  · have hb' : (i.bytes : Int) * (n : Int) ≤ 281474976710656 := by rw [hbb]; omega
    have hr := run_make (P := Try.prog) W 22 2 i _ Try.underlying22 hi hz .i64 .i64 n n (by omega) (Int.le_refl _) hb' (by omega)
    simp only [Int.toNat_natCast, hs] at hr
    exact hr
  · have hj2 : j < (madeCells (Value.int .i64 0).cells (n * 1)).size := by rw [e]; omega
    rw [Array.getElem?_eq_getElem hj2]
    simp [madeCells, Value.cells, Nat.mod_one]
theorem splice_rep {cur : List Value} {V : Value} {k m : Nat} (hk : k + m ≤ cur.length) (h : ∀ j, j < k → cur[j]? = some V) : ∀ j, j < k + m → (splice cur k (List.replicate m V))[j]? = some V := fun j hj => by
  unfold splice
  rw [List.getElem?_append]
  have hl : (cur.take k).length = k := by rw [List.length_take]; omega
  rw [hl]
  split
  · rename_i q
    rw [List.getElem?_take_of_lt q]
    exact h j q
  · rename_i q
    rw [List.getElem?_append_left (by rw [List.length_replicate]; omega), List.getElem?_replicate, if_pos (by omega)]
set_option maxRecDepth 100000 in
set_option maxHeartbeats 4000000 in
/-- slices.Repeat of one number. -/
theorem repI (ty : Int) (bx n : Nat) (w : World) (hx : At w bx 0 (.int .i64 ty)) (h1 : 1 ≤ n) (h2 : n ≤ 1048576) :
    Calls Try.prog 54 #[.slice (some ⟨bx, 0, none⟩) 1 1, .int .i64 n] w fun e w' => e = .returned (.slice (some ⟨w.heap.size, 0, none⟩) n n) ∧ RowI w' w.heap.size n (fun _ => ty) ∧ Below w.heap.size w w' := by
  have g1 : (n : Int) ≤ 1048576 := by omega
  have g0 : ¬ (n : Int) < 0 := by omega
  have hw : IntKind.u64.wrap (n : Int) = n := by rw [IntKind.wrap_u64]; omega
  have hw2 : IntKind.i64.wrap (n : Int) = n := by rw [IntKind.wrap_i64]; omega
  have MU : Kp (∀ w, Calls Try.prog 72 #[.int .u64 1, .int .u64 n] w fun e w' => e = .returned (.tuple #[.int .u64 0, .int .u64 n]) ∧ w' = w) := ⟨fun w => by
    have q := mul_any 1 n w (by decide) (by omega) (by decide) (by omega)
    rwa [show (1 : Int) * (n : Int) / 18446744073709551616 = 0 by omega, show mLo (1 * (n : Int)) = n by unfold mLo; omega] at q⟩
  obtain ⟨O, hmk, -, L, hl, hO⟩ := mkI n h2
  have hx1 := at_keep hx (bel_alloc w O)
  have hB0 := bel_alloc w O
  have hg' : (w.alloc O).heap[w.heap.size]? = some (Go.Obj.cells L.toArray 2 (0, 0)) := by rw [hO]; exact new_cells w _
  obtain ⟨W0, hW0⟩ : ∃ W0, W0 = w.alloc O := ⟨_, rfl⟩
  rw [← hW0] at hx1 hB0 hg'
  clear hO
  replace hW0 := Kp.mk hW0
  go_enter Try.func54, Try.ntmps54
  go_wp2_with fail
  refine (MU.out _).mono ?_
  rintro e w1 ⟨rfl, rfl⟩
  go_upto_region 7 with fail
  rw [← hW0.out]
  clear hW0
  obtain ⟨W4, hcp, hg4, hb4⟩ : ∃ W4 : World, (Builtin.copy_ #[22, 22] 3 #[.slice (some ⟨w1.heap.size, 0, none⟩) n n, .slice (some ⟨bx, 0, none⟩) 1 1]).run Try.prog W0 = .ok (goInt 1) W4 ∧ W4.heap[w1.heap.size]? = some (Go.Obj.cells (splice L 0 [.int .i64 ty]).toArray 2 (0, 0)) ∧ Below w1.heap.size w1 W4 := by
    have q := run_copy_row (P := Try.prog) W0 22 22 3 2 w1.heap.size 0 n n ⟨bx, 0, none⟩ 1 1 L.toArray 2 [.int .i64 ty] Try.underlying22 (by kernel_rfl) hg' (Nat.min_eq_left h1).symm (fun j v hj => by
      have : j = 0 := by
        have := (List.getElem?_eq_some_iff.1 hj).1
        simpa using this
      subst this
      simp at hj
      subst hj
      rw [Go.WideShapes.add_plain]
      exact hx1) (by simp; omega) (fun u hu => by simp at hu; subst hu; rfl)
    refine ⟨_, q, ?_, below_setRow hB0 (Nat.le_refl _) _⟩
    rw [setRow_heap W0 w1.heap.size _ _ 2 _ hg']
    simp [splice]
  have hd : ∀ j, j < 1 → (splice L 0 [Value.int .i64 ty])[j]? = some (.int .i64 ty) := by
    have := splice_rep (cur := L) (V := .int .i64 ty) (k := 0) (m := 1) (by omega) (fun j hj => absurd hj (by omega))
    simpa using this
  have hl4 : (splice L 0 [Value.int .i64 ty]).length = n := by rw [length_splice _ _ _ (by simp; omega)]; exact hl
  replace hg4 := Kp.mk hg4
  replace hd := Kp.mk hd
  generalize splice L 0 [Value.int .i64 ty] = L4 at *
  clear hg' hx1 hl hmk hB0
  go_wp2_with fail
  go_loopw [8] (fun s wr => ∃ k : Nat, 1 ≤ k ∧ k ≤ n ∧ s = .int .i64 k ∧ Below w1.heap.size w1 wr ∧ ∃ M : List Value, M.length = n ∧ Kp (wr.heap[w1.heap.size]? = some (Go.Obj.cells M.toArray 2 (0, 0))) ∧ Kp (∀ j, j < k → M[j]? = some (.int .i64 ty))) (fun s _ => n - (intOf s).toNat)
  case atStart => exact ⟨1, Nat.le_refl _, h1, rfl, hb4, L4, hl4, hg4, hd⟩
  case round =>
    clear hl4 hg4 hd hb4
    obtain ⟨k, hk1, hk2, rfl, hB, M, hM, hg, hd⟩ := hrel
    by_cases hlt : k < n
    · have hlt' : (k : Int) < (n : Int) := by omega
      have hk3 : (k : Int) ≤ n := by omega
      have hk0 : (0 : Int) ≤ k := by omega
      obtain ⟨m, hm⟩ : ∃ m, m = Nat.min k (n - k) := ⟨_, rfl⟩
      have hm1 : 1 ≤ m := by rw [hm]; exact Nat.le_min.2 ⟨hk1, by omega⟩
      have hm2 : m ≤ k ∧ m ≤ n - k := ⟨by rw [hm]; exact Nat.min_le_left _ _, by rw [hm]; exact Nat.min_le_right _ _⟩
      obtain ⟨W5, hcp, hg5, hb5⟩ : ∃ W5 : World, (Builtin.copy_ #[22, 22] 3 #[.slice (some ⟨w1.heap.size, k, none⟩) (n - k) (n - k), .slice (some ⟨w1.heap.size, 0, none⟩) k n]).run Try.prog wr.drew = .ok (goInt m) W5 ∧ W5.heap[w1.heap.size]? = some (Go.Obj.cells (splice M k (List.replicate m (.int .i64 ty))).toArray 2 (0, 0)) ∧ Below w1.heap.size w1 W5 := by
        have hgd : wr.drew.heap[w1.heap.size]? = some (Go.Obj.cells M.toArray 2 (0, 0)) := hg.out
        have q := run_copy_row (P := Try.prog) wr.drew 22 22 3 2 w1.heap.size k (n - k) (n - k) ⟨w1.heap.size, 0, none⟩ k n M.toArray 2 (List.replicate m (.int .i64 ty)) Try.underlying22 (by kernel_rfl) hgd (by simp [hm]) (fun j v hj => by
          have hjm : j < m := by
            have := (List.getElem?_eq_some_iff.1 hj).1
            simpa using this
          rw [List.getElem?_replicate, if_pos hjm] at hj
          cases hj
          have := hd.out j (by omega)
          have hc : At wr.drew w1.heap.size j (.int .i64 ty) := at_cells hgd (by simpa using this)
          unfold Addr.add
          split
          · rename_i q0; rw [q0] at hc; exact hc
          · rw [Nat.zero_add]; exact hc) (by simp; omega) (fun u hu => by rw [(List.mem_replicate.1 hu).2]; rfl)
        rw [List.length_replicate] at q
        refine ⟨_, q, ?_, below_setRow hB.drew (Nat.le_refl _) _⟩
        rw [setRow_heap wr.drew w1.heap.size _ _ 2 _ hgd]
        simp [splice]
      have hd5 : ∀ j, j < k + m → (splice M k (List.replicate m (Value.int .i64 ty)))[j]? = some (.int .i64 ty) := splice_rep (by omega) hd.out
      have hl5 : (splice M k (List.replicate m (Value.int .i64 ty))).length = n := by rw [length_splice _ _ _ (by simp; omega)]; exact hM
      replace hg5 := Kp.mk hg5
      replace hd5 := Kp.mk hd5
      generalize splice M k (List.replicate m (Value.int .i64 ty)) = M5 at *
      have hm3 : (k : Int) + (m : Int) ≤ n := by omega
      clear hg hd hM hB hm
      go_wp2_with fail
      go_region
      go_wp2_with fail
      exact ⟨⟨k + m, by omega, by omega, by go_num, hb5, M5, hl5, hg5, hd5⟩, by simp [intOf]; omega⟩
    · have hlt' : ¬ (k : Int) < (n : Int) := by omega
      obtain rfl : k = n := by omega
      go_wp2_with fail
      go_ret
      exact ⟨rfl, ⟨_, hg.out, fun j hj => by simpa using hd.out j hj⟩, hB⟩
end Go.Proofs.Ytbfpfjkjeekbdaa
