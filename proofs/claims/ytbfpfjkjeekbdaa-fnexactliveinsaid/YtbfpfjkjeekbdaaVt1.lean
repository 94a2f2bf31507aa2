/- The types of a function's values: the specification's answer. -/
import Derived.Test.YtbfpfjkjeekbdaaApn
namespace Go.Proofs.Ytbfpfjkjeekbdaa
open Go.ChangeShapes Go.WideShapes Go.ChangeAt Go.RowKit
set_option linter.unusedVariables false
set_option linter.unusedSimpArgs false
/-- The types that are told, in order. -/
def tysOf : List (Nat × Nat × Int) → List Int
  | [] => []
  | (_, _, t) :: r => if t = 0 then tysOf r else t :: tysOf r
theorem tysOf_app (a b : List (Nat × Nat × Int)) : tysOf (a ++ b) = tysOf a ++ tysOf b := by
  induction a with
  | nil => rfl
  | cons x r ih =>
    obtain ⟨p, q, t⟩ := x
    simp only [List.cons_append, tysOf, ih]
    split <;> rfl
theorem tysOf_len (a : List (Nat × Nat × Int)) : (tysOf a).length ≤ a.length := by
  induction a with
  | nil => exact Nat.le_refl _
  | cons x r ih =>
    obtain ⟨p, q, t⟩ := x
    simp only [tysOf]
    split <;> simp only [List.length_cons] <;> omega
theorem info64 : (Try.prog.info? 2).map (fun i => (i.zero, i.size, i.bytes)) = some (some (.int .i64 0), 1, 8) := by kernel_rfl
/-- A row of whole numbers that a call owns. -/
structure OwnI (w : World) (base : Nat) (v : Value) (xs : List Int) : Prop where
  r : w.ownsRow base 2 1 v xs.length (xs.map (Value.int .i64))
theorem OwnI.ints {w : World} {base : Nat} {v : Value} {xs : List Int} (h : OwnI w base v xs) (hn : xs.length ≤ 1048576) : Ints base .i64 w v xs := by
  obtain ⟨hl, h0 | ⟨g, cap, cur, rfl, hb, hg, h1, h2, h3, h4⟩⟩ := h.r
  · obtain ⟨rfl, h0⟩ := h0
    obtain rfl : xs = [] := List.length_eq_zero_iff.1 h0
    exact ⟨base, 0, ⟨⟨none, 0, rfl, Nat.le_refl _, fun h => absurd h (by simp)⟩, by simp⟩, Nat.le_refl _, fun i hi => by simp at hi⟩
  · refine ⟨g, 0, ⟨⟨_, _, rfl, h1, fun _ => rfl⟩, by omega⟩, hb, fun i hi => ?_⟩
    refine at_cells hg ?_
    have : (cur.toList.take (xs.length * 1))[i]? = some (.int .i64 xs[i]) := by rw [h4]; simp [hi]
    rw [List.getElem?_take] at this
    split at this
    · simpa using this
    · cases this
theorem OwnI.keep {w w' : World} {base : Nat} {v : Value} {xs : List Int} (h : OwnI w base v xs) (hb : Below w.heap.size w w') : OwnI w' base v xs := by
  refine ⟨h.r.1, ?_⟩
  rcases h.r.2 with h0 | ⟨g, cap, cur, rfl, hb1, hg, rest⟩
  · exact .inl h0
  · exact .inr ⟨g, cap, cur, rfl, hb1, keep_cells' hg hb, rest⟩
where keep_cells' {w w' : World} {b : Nat} {o : Obj} (h : w.heap[b]? = some o) (hb : Below w.heap.size w w') : w'.heap[b]? = some o := (hb.block b (Array.getElem?_eq_some_iff.1 h).1).trans h
theorem Joins_le {w : World} {base size n : Nat} {e : TypeId} {v : Value} {xs : List Value} (h : w.ownsRow (base + 1) e size v n xs) : w.ownsRow base e size v n xs :=
  ⟨h.1, h.2.elim Or.inl (fun ⟨g, cap, cur, hv, hg, r⟩ => Or.inr ⟨g, cap, cur, hv, by omega, r⟩)⟩
theorem OwnI.own {w : World} {base : Nat} {v : Value} {xs : List Int} (h : OwnI w base v xs) (hn : xs.length ≤ 1048576) (h0 : 0 < xs.length) : ∃ B, Own64 w v xs.length B 0 ∧ base ≤ B := by
  obtain ⟨hl, q | ⟨g, cap, cur, rfl, hb, hg, h1, h2, h3, h4⟩⟩ := h.r
  · omega
  · exact ⟨g, ⟨⟨⟨_, _, rfl, h1, fun _ => rfl⟩, by omega⟩, cap * 1, ⟨2, fun j => cur.getD j undef, cur, hg, h3, fun i hi => by simp [Array.getD, show i < cur.size by omega]⟩, by omega⟩, hb⟩
set_option maxRecDepth 100000 in
set_option maxHeartbeats 2000000 in
theorem valTyS (d : FnD) (vp vb : Value) (w : World) {lo : Nat} (h : FnAt lo w d vp vb) (hn : fnN d ≤ 1048576) :
    Calls Try.prog 60 #[fnV d vp vb] w fun e w' => ∃ v, e = .returned v ∧ OwnI w' w.heap.size v (d.params ++ tysOf (blPl 0 d.blocks)) ∧ Below w.heap.size w w' := by
  unfold fnN at hn
  obtain ⟨name, link, params, res, blocks⟩ := d
  obtain ⟨-, hp, hb⟩ := h
  dsimp only [fnV] at *
  have nn := blsN_nn blocks
  have n1 : (params.length : Int) ≤ 1048576 := by omega
  have n2 : (blocks.length : Int) ≤ 1048576 := by omega
  obtain ⟨b0, o0, ⟨⟨a1, k1, rfl, s1, s2⟩, s3⟩, -, pc⟩ := hp.ex
  obtain ⟨b, o, ⟨⟨a2, k2, rfl, h1, h2⟩, h3⟩, -, hc⟩ := hb.ex
  obtain ⟨i0, hi0, hz0, hz1, hz2⟩ := info_parts info64
  replace hp := Kp.mk hp
  replace hb := Kp.mk hb
  replace hc := Kp.mk hc
  replace h2 := Kp.mk h2
  replace s2 := Kp.mk s2
  have n3 : (params.length : Int) + blsN blocks ≤ 1048576 := by omega
  clear hn nn
  obtain ⟨A, hA⟩ : ∃ A, A = params ++ tysOf (blPl 0 blocks) := ⟨_, rfl⟩
  have hAK := Kp.mk hA
  rw [← hA]
  clear hA
  go_enter Try.func60, Try.ntmps60
  have hmk : ∀ (W : World) (o : Obj) (H : Nat), H = W.heap.size + 1 → ((W.alloc o).alloc (Go.Obj.cells #[] 2)).ownsRow (W.heap.size + 1) 2 1 (.slice (some ⟨H, 0, none⟩) 0 0) 0 [] := fun W o H h => by
    subst h
    have := World.ownsRow_made (base := W.heap.size + 1) (e := 2) (size := 1) (W.alloc o) #[] 0 (by simp) (Nat.zero_le _) rfl
    rwa [World.size_alloc] at this
  replace hmk := Kp.mk hmk
  go_wp2_with (at_builtin; refine wpList_append_vals _ rfl _ _ 22 rfl (w.heap.size + 1) 2 i0 (.int .i64 0) 1 8 Try.underlying22 hi0 hz0 hz1 hz2 rfl (by decide) _ _ _ rfl (hmk.out w _ _ rfl) a1 b0 o0 params.length k1 (params.map (Value.int .i64)) rfl s2.out ?qc1 ?qc2 ?qc3 ?qc4 ?qc5 ?qc6 ?_)
  case qc1 => simp
  case qc2 =>
    intro j hj
    rw [List.getElem_map]
    exact at_keep (pc j (by simpa using hj)) (bel_trans (bel_alloc _ _) (bel_alloc _ _))
  case qc3 => intro u hu; obtain ⟨x, _, rfl⟩ := List.mem_map.1 hu; rfl
  case qc4 => unfold maxLen; omega
  case qc5 => omega
  case qc6 => simp
  intro v1 w1 hown hgrow
  obtain ⟨F, hF⟩ : ∃ F, F = Go.Obj.cells #[.string name, .int .i64 link, .slice a1 params.length k1, .int .i64 res, .slice a2 blocks.length k2] 30 (0, 0) := ⟨_, rfl⟩
  have hbx : w1.heap[w.heap.size]? = some F := by
    rw [hF, hgrow.block w.heap.size (by simp; omega) (by simp [Value.ownBlock]), (MapKept.heap_alloc _ _).2 _ (by simp)]
    exact (MapKept.heap_alloc w _).1
  have hB1 : Below w.heap.size w w1 := (bel_trans (bel_alloc w _) (bel_alloc _ _)).grown hgrow (by simp; omega) (fun k hk => by simp [Value.ownBlock] at hk; omega)
  have hsz1 : w.heap.size + 1 ≤ w1.heap.size := by have := hgrow.size; simp at this; omega
  replace hF := Kp.mk hF
  clear hgrow s2 pc s1 hmk
  go_wp2_with fail
  go_loopw [3, 4] (fun s r wr => ∃ (B : Nat) (xs : List Int), B ≤ blocks.length ∧ r = .int .i64 B ∧ wr.ownsRow (w.heap.size + 1) 2 1 s xs.length (xs.map (Value.int .i64)) ∧ Kp (xs ++ tysOf (blPl B (blocks.drop B)) = A) ∧ xs.length + (blPl B (blocks.drop B)).length ≤ 2097152 ∧ wr.heap[w.heap.size]? = some F ∧ w.heap.size + 1 ≤ wr.heap.size ∧ Below w.heap.size w wr) (fun _ r _ => blocks.length - (intOf r).toNat)
  case atStart => exact ⟨0, params, Nat.zero_le _, rfl, hown, ⟨hAK.out.symm⟩, by have := blPl_len 0 blocks; simp only [List.drop_zero]; omega, hbx, hsz1, hB1⟩
  case round =>
    clear hown hbx hB1 hsz1 hAK
    obtain ⟨B, xs, hB, rfl, hown, hd, hn1, hbx, hsz, hBl⟩ := hrel
    have x4 : wr.cell? ⟨w.heap.size, 4, none⟩ = some (.slice a2 blocks.length k2) := at_cells (hbx.trans (by rw [hF.out])) rfl
    by_cases hlt : B < blocks.length
    · obtain rfl := h2.out (by omega)
      obtain ⟨vi, c0, hv⟩ := hc.out B hlt
      obtain ⟨ys, hys⟩ : ∃ ys, Kp (blocks[B] = ys) := ⟨_, ⟨rfl⟩⟩
      rw [hys.out] at hv
      have hdr := Kp.mk (blPl_drop B blocks hlt)
      rw [hys.out] at hdr
      rw [hdr.out] at hn1 hd
      obtain ⟨bi, oi, ⟨⟨ai, ki, rfl, i1, i2⟩, i3⟩, -, ic⟩ := hv.ex
      have C0 : Kp (∀ W, Below w.heap.size w W → At W b (o + B) (.slice ai ys.length ki)) := ⟨fun W h => at_keep c0 h⟩
      replace c0 := at_keep c0 hBl
      have ic' : Kp (∀ W, Below w.heap.size w W → ∀ i (h : i < ys.length), At W bi (oi + i * 9 + 1) (.int .i64 (ys[i]).ty)) := ⟨fun W hW i h => by
        obtain ⟨_, _, _, q⟩ := ic i h
        exact at_keep q.c1 hW⟩
      replace i2 := Kp.mk i2
      have hl := Kp.mk hlt
      clear ic hv hdr
      rw [List.length_append] at hn1
      simp only [List.drop_zero] at hn1 hd
      go_wp2_with fail
      go_loopw [3, 5] (fun s r wq => ∃ (i : Nat) (xs : List Int), i ≤ ys.length ∧ r = .int .i64 i ∧ wq.ownsRow (w.heap.size + 1) 2 1 s xs.length (xs.map (Value.int .i64)) ∧ Kp (xs ++ tysOf (inPl B i (ys.drop i) ++ blPl (B + 1) (blocks.drop (B + 1))) = A) ∧ xs.length + ((inPl B i (ys.drop i)).length + (blPl (B + 1) (blocks.drop (B + 1))).length) ≤ 2097152 ∧ wq.heap[w.heap.size]? = some F ∧ w.heap.size + 1 ≤ wq.heap.size ∧ Below w.heap.size w wq) (fun _ r _ => ys.length - (intOf r).toNat)
      case atStart => exact ⟨0, xs, Nat.zero_le _, rfl, hown, hd, hn1, hbx, hsz, hBl⟩
      case round =>
        clear hd hn1 hown hbx hBl c0 x4 hsz
        obtain ⟨i, xs, hi, rfl, hown, hd, hn1, hbx, hsz, hBl⟩ := hrel
        have x4 : wr.cell? ⟨w.heap.size, 4, none⟩ = some (.slice (some ⟨b, o, none⟩) blocks.length k2) := at_cells (hbx.trans (by rw [hF.out])) rfl
        have c0 := C0.out _ hBl
        by_cases hlt2 : i < ys.length
        · obtain rfl := i2.out (by omega)
          have c1 := ic'.out _ hBl i hlt2
          have hdr := inPl_drop B i ys hlt2
          rw [hdr, List.cons_append] at hd
          rw [hdr, List.length_cons] at hn1
          obtain ⟨t, ht⟩ : ∃ t, (ys[i]).ty = t := ⟨_, rfl⟩
          rw [ht] at c1 hd
          clear hdr ht
          by_cases ht0 : t = 0
          · subst ht0
            rw [show tysOf ((B, i, (0 : Int)) :: (inPl B (i + 1) (ys.drop (i + 1)) ++ blPl (B + 1) (blocks.drop (B + 1)))) = tysOf (inPl B (i + 1) (ys.drop (i + 1)) ++ blPl (B + 1) (blocks.drop (B + 1))) by simp [tysOf]] at hd
            go_wp2_with fail
            exact ⟨⟨i + 1, xs, by omega, by go_num, hown, hd, by omega, hbx, hsz, hBl⟩, by simp [intOf]; omega⟩
          · have tb : (t != 0) = true := bne_iff_ne.2 ht0
            have hd2 : Kp ((xs ++ [t]) ++ tysOf (inPl B (i + 1) (ys.drop (i + 1)) ++ blPl (B + 1) (blocks.drop (B + 1))) = A) := ⟨by
              rw [← hd.out]
              simp [tysOf, ht0]⟩
            replace hn1 := Kp.mk hn1
            have hx1 : xs.length ≤ 2097152 := by have := hn1.out; omega
            clear hd
            go_wp2_with (at_builtin; refine wpList_append_vals _ rfl _ _ 22 rfl (w.heap.size + 1) 2 i0 (.int .i64 0) 1 8 Try.underlying22 hi0 hz0 hz1 hz2 rfl (by decide) _ _ _ rfl (hown.alloc _) (some ⟨wr.heap.size, 0, none⟩) wr.heap.size 0 1 1 [.int .i64 t] rfl (fun _ => rfl) rfl (one_new wr _ _) one_cell (by unfold maxLen; omega) (by omega) (by simp; omega) ?_; intro v2 w2 hown2 hgrow2)
            have hB2 := own_bel (hBl.alloc hBl.size _) (Joins_le (hown.alloc _)) hgrow2 (by simp; omega)
            have hbx2 : w2.heap[w.heap.size]? = some F := by
              rw [hgrow2.block w.heap.size (by simp; omega) (fun e => by have := (hown.lt _ e.symm).1; omega), (MapKept.heap_alloc _ _).2 _ (by omega)]
              exact hbx
            have hsz2 : w.heap.size + 1 ≤ w2.heap.size := by have := hgrow2.size; simp at this; omega
            have hown3 : w2.ownsRow (w.heap.size + 1) 2 1 v2 (xs ++ [t]).length ((xs ++ [t]).map (Value.int .i64)) := by simpa using hown2
            clear hown hown2 hgrow2 hBl hbx
            go_wp2_with fail
            exact ⟨⟨i + 1, xs ++ [t], by omega, by go_num, hown3, hd2, by have := hn1.out; simp; omega, hbx2, hsz2, hB2⟩, by simp [intOf]; omega⟩
        · rw [inPl_end B i ys (by omega), List.nil_append] at hd
          rw [inPl_end B i ys (by omega)] at hn1
          go_wp2_with fail
          exact ⟨⟨B + 1, xs, by omega, by go_num, hown, hd, by simp at hn1; omega, hbx, hsz, hBl⟩, by simp [intOf]; omega⟩
    · rw [blPl_end B blocks (by omega)] at hd
      have e : xs = A := by rw [← hd.out]; simp [tysOf]
      replace e := Kp.mk e
      replace hown := Kp.mk hown
      go_wp2_with fail
      go_ret
      exact ⟨_, rfl, ⟨by rw [← e.out]; exact Joins_le hown.out⟩, hBl⟩
end Go.Proofs.Ytbfpfjkjeekbdaa
