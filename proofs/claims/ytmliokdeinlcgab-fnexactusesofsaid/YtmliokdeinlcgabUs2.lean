/- Where a value is used: the specification's answer. -/
import Derived.Test.YtmliokdeinlcgabUs1
namespace Go.Proofs.Ytmliokdeinlcgab
open Go.ChangeShapes Go.WideShapes Go.ChangeAt Go.RowKit
set_option linter.unusedVariables false
set_option linter.unusedSimpArgs false
theorem two_new (w : World) (x y : Value) (T : TypeId) : ∀ j (hj : j < [x, y].length), At (w.alloc (Go.Obj.cells #[x, y] T)) w.heap.size (0 + j) [x, y][j] := fun j hj => by
  match j, hj with
  | 0, _ => exact at_cells (MapKept.heap_alloc w _).1 rfl
  | 1, _ => exact at_cells (MapKept.heap_alloc w _).1 rfl
theorem two_cell {k l : IntKind} {t u : Int} : ∀ x ∈ [Value.int k t, Value.int l u], x.oneCell' = true := fun x hx => by
  simp only [List.mem_cons, List.mem_nil_iff, or_false] at hx
  rcases hx with rfl | rfl <;> rfl
theorem pinfo : ∃ i0 : TypeInfo, Try.prog.info? 49 = some i0 ∧ i0.zero = some (.agg #[.int .i64 0, .int .i64 0]) ∧ i0.size = 2 ∧ i0.bytes = 16 := info_parts infoPl
set_option maxRecDepth 100000 in
set_option maxHeartbeats 2000000 in
theorem usesS (d : FnD) (vp vb : Value) (v : Int) (w : World) {lo : Nat} (h : FnAt lo w d vp vb) (hn : fnN d ≤ 1048576) :
    Calls Try.prog 5 #[fnV d vp vb, .int .i64 v] w fun e w' => ∃ u, e = .returned u ∧ OwnP w' w.heap.size u (useL v (blQ 0 d.blocks)) ∧ Below w.heap.size w w' := by
  unfold fnN at hn
  obtain ⟨name, link, params, res, blocks⟩ := d
  obtain ⟨-, hp, hb⟩ := h
  dsimp only [fnV] at *
  have nn := blsN_nn blocks
  have n2 : (blocks.length : Int) ≤ 1048576 := by omega
  obtain ⟨a1, k1, rfl⟩ := hp.shape
  obtain ⟨b, o, ⟨⟨a2, k2, rfl, h1, h2⟩, h3⟩, -, hc⟩ := hb.ex
  obtain ⟨i0, hi0, hz0, hz1, hz2⟩ := pinfo
  have Hn := blsN_of blocks
  have HB : Kp (∀ i (h : i < blocks.length), blN blocks[i] ≤ 1048576) := ⟨fun i h => by have := Hn.1 i h; omega⟩
  replace hb := Kp.mk hb
  replace hc := Kp.mk hc
  replace h2 := Kp.mk h2
  have n3 : blsN blocks ≤ 1048576 := by omega
  clear hn nn Hn hp
  obtain ⟨A, hA⟩ : ∃ A, A = useL v (blQ 0 blocks) := ⟨_, rfl⟩
  have hAK := Kp.mk hA
  rw [← hA]
  clear hA
  go_enter Try.func5, Try.ntmps5
  go_wp2_with fail
  obtain ⟨F, hF⟩ : ∃ F, F = Go.Obj.cells #[.string name, .int .i64 link, .slice a1 params.length k1, .int .i64 res, .slice a2 blocks.length k2] 31 (0, 0) := ⟨_, rfl⟩
  have hmk : ∀ (W : World) (o : Obj) (H : Nat), H = W.heap.size + 1 → ((W.alloc o).alloc (Go.Obj.cells #[] 49)).ownsRow (W.heap.size + 1) 49 2 (.slice (some ⟨H, 0, none⟩) 0 0) 0 [] := fun W o H h => by
    subst h
    have := World.ownsRow_made (base := W.heap.size + 1) (e := 49) (size := 2) (W.alloc o) #[] 0 (by simp) (Nat.zero_le _) rfl
    rwa [World.size_alloc] at this
  have hown := hmk w (Go.Obj.cells #[.string name, .int .i64 link, .slice a1 params.length k1, .int .i64 res, .slice a2 blocks.length k2] 31) (w.heap.size + 1) rfl
  obtain ⟨W0, hW⟩ : ∃ W0, W0 = (w.alloc (Go.Obj.cells #[.string name, .int .i64 link, .slice a1 params.length k1, .int .i64 res, .slice a2 blocks.length k2] 31)).alloc (Go.Obj.cells #[] 49) := ⟨_, rfl⟩
  rw [← hW] at hown ⊢
  have hbx : W0.heap[w.heap.size]? = some F := by rw [hF, hW]; exact keep_cells (new_cells w _) (bel_alloc _ _)
  have hB1 : Below w.heap.size w W0 := by rw [hW]; exact bel_trans (bel_alloc w _) (bel_alloc _ _)
  have hsz1 : w.heap.size + 1 ≤ W0.heap.size := by rw [hW]; simp
  replace hF := Kp.mk hF
  clear hW hmk
  go_loopw [5, 6] (fun s r wr => ∃ (B : Nat) (ps : List (Nat × Nat)), B ≤ blocks.length ∧ r = .int .i64 B ∧ wr.ownsRow (w.heap.size + 1) 49 2 s ps.length (plV ps) ∧ Kp (ps ++ useL v (blQ B (blocks.drop B)) = A) ∧ ps.length + (blQ B (blocks.drop B)).length ≤ 2097152 ∧ wr.heap[w.heap.size]? = some F ∧ w.heap.size + 1 ≤ wr.heap.size ∧ Below w.heap.size w wr) (fun _ r _ => blocks.length - (intOf r).toNat)
  case atStart => exact ⟨0, [], Nat.zero_le _, rfl, hown, ⟨hAK.out.symm⟩, by have := blQ_len 0 blocks; simp only [List.drop_zero, List.length_nil]; omega, hbx, hsz1, hB1⟩
  case round =>
    clear hown hbx hB1 hsz1 hAK
    obtain ⟨B, ps, hB, rfl, hown, hd, hn1, hbx, hsz, hBl⟩ := hrel
    have x4 : wr.cell? ⟨w.heap.size, 4, none⟩ = some (.slice a2 blocks.length k2) := at_cells (hbx.trans (by rw [hF.out])) rfl
    by_cases hlt : B < blocks.length
    · obtain rfl := h2.out (by omega)
      obtain ⟨vi, c0, hv⟩ := hc.out B hlt
      have hbn := HB.out B hlt
      obtain ⟨ys, hys⟩ : ∃ ys, Kp (blocks[B] = ys) := ⟨_, ⟨rfl⟩⟩
      rw [hys.out] at hv hbn
      have hdr := Kp.mk (blQ_drop B blocks hlt)
      rw [hys.out] at hdr
      rw [hdr.out] at hn1 hd
      obtain ⟨bi, oi, ⟨⟨ai, ki, rfl, i1, i2⟩, i3⟩, -, ic⟩ := hv.ex
      have hin := insN_nn ys
      have HA : Kp (∀ i (h : i < ys.length), ys[i].args.length ≤ 1048576) := ⟨fun i h => by
        have e1 := insN_snoc ys i h
        have e2 := insN_le ys (i + 1)
        have e3 := insN_nn (ys.take i)
        unfold blN at hbn
        unfold inN at e1
        omega⟩
      have C0 : Kp (∀ W, Below w.heap.size w W → At W b (o + B) (.slice ai ys.length ki)) := ⟨fun W h => at_keep c0 h⟩
      replace c0 := at_keep c0 hBl
      have ic' : Kp (∀ W, Below w.heap.size w W → ∀ i (h : i < ys.length), ∃ va vb vw, InAt lo W bi (oi + i * 9) ys[i] va vb vw) := ⟨fun W hW i h => by
        obtain ⟨va, vb, vw, q⟩ := ic i h
        exact ⟨va, vb, vw, q.keep hW⟩⟩
      replace i2 := Kp.mk i2
      have hl := Kp.mk hlt
      clear ic hv hdr hbn hin
      rw [List.length_append] at hn1
      simp only [List.drop_zero] at hn1 hd
      rw [useL_app] at hd
      go_wp2_with fail
      go_loopw [5, 7] (fun s r wq => ∃ (i : Nat) (ps : List (Nat × Nat)), i ≤ ys.length ∧ r = .int .i64 i ∧ wq.ownsRow (w.heap.size + 1) 49 2 s ps.length (plV ps) ∧ Kp (ps ++ (useL v (inQ B i (ys.drop i)) ++ useL v (blQ (B + 1) (blocks.drop (B + 1)))) = A) ∧ ps.length + ((inQ B i (ys.drop i)).length + (blQ (B + 1) (blocks.drop (B + 1))).length) ≤ 2097152 ∧ wq.heap[w.heap.size]? = some F ∧ w.heap.size + 1 ≤ wq.heap.size ∧ Below w.heap.size w wq) (fun _ r _ => ys.length - (intOf r).toNat)
      case atStart => exact ⟨0, ps, Nat.zero_le _, rfl, hown, hd, hn1, hbx, hsz, hBl⟩
      case round =>
        clear hd hn1 hown hbx hBl c0 x4 hsz
        obtain ⟨i, ps, hi, rfl, hown, hd, hn1, hbx, hsz, hBl⟩ := hrel
        have x4 : wr.cell? ⟨w.heap.size, 4, none⟩ = some (.slice (some ⟨b, o, none⟩) blocks.length k2) := at_cells (hbx.trans (by rw [hF.out])) rfl
        have c0 := C0.out _ hBl
        by_cases hlt2 : i < ys.length
        · obtain rfl := i2.out (by omega)
          obtain ⟨va, vb, vw, Q⟩ := ic'.out _ hBl i hlt2
          have hdr := inQ_drop B i ys hlt2
          rw [hdr] at hd hn1
          rw [List.length_cons] at hn1
          have hA1 := HA.out i hlt2
          obtain ⟨d, hdd⟩ : ∃ d, ys[i] = d := ⟨_, rfl⟩
          rw [hdd] at Q hd hA1
          have sh := Q.l.sh
          have CN := Kp.mk (namesS d va vb vw v wr Q.l.a sh hA1)
          obtain ⟨c1, c2, c3, c4, c5, c6, c7, c8, c9, -⟩ := Q
          obtain ⟨⟨p1, m1, g1, rfl⟩, ⟨p2, m2, g2, rfl⟩, ⟨p3, m3, g3, rfl⟩⟩ := sh
          have e0 : useL v ((B, i, d) :: inQ B (i + 1) (ys.drop (i + 1))) = if hasV v d then (B, i) :: useL v (inQ B (i + 1) (ys.drop (i + 1))) else useL v (inQ B (i + 1) (ys.drop (i + 1))) := rfl
          rw [e0] at hd
          replace hd := Kp.mk hd
          replace hn1 := Kp.mk hn1
          have hx1 : ps.length ≤ 2097152 := by have := hn1.out; omega
          have hbb := Kp.mk hbx
          have how := Kp.mk hown
          obtain ⟨t, ht⟩ : ∃ t, t = hasV v d := ⟨_, rfl⟩
          rw [← ht] at CN
          rw [← ht] at hd
          clear hdr hdd e0 ht hown hbx
          go_wp2_with fail
          refine CN.out.mono ?_
          rintro e w1 ⟨rfl, hb1⟩
          have hBl1 := bel_trans hBl hb1
          have hown1 : w1.ownsRow (w.heap.size + 1) 49 2 _ ps.length (plV ps) := (OwnP.keep ⟨how.out⟩ hb1).r
          have hbx1 := keep_cells hbb.out hb1
          have hsz1 : w.heap.size + 1 ≤ w1.heap.size := by have := hb1.size; omega
          have x41 : w1.cell? ⟨w.heap.size, 4, none⟩ = some (.slice (some ⟨b, o, none⟩) blocks.length k2) := at_cells (hbx1.trans (by rw [hF.out])) rfl
          clear c1 c2 c3 c4 c5 c6 c7 c8 c9 x4 c0
          cases t with
          | false =>
            have hd2 := hd.out.out
            simp only [Bool.false_eq_true, if_false] at hd2
            replace hd2 := Kp.mk hd2
            go_wp2_with fail
            exact ⟨⟨i + 1, ps, by omega, by go_num, hown1, hd2, by have := hn1.out; omega, hbx1, hsz1, hBl1⟩, by simp [intOf]; omega⟩
          | true =>
            have hd2 : Kp ((ps ++ [(B, i)]) ++ (useL v (inQ B (i + 1) (ys.drop (i + 1))) ++ useL v (blQ (B + 1) (blocks.drop (B + 1)))) = A) := ⟨by
              have := hd.out.out
              simp only [if_true] at this
              rw [← this]
              simp⟩
            go_wp2_with (at_builtin; refine wpList_append_vals _ rfl _ _ 27 rfl (w.heap.size + 1) 49 i0 _ 2 16 Try.underlying27 hi0 hz0 hz1 hz2 rfl (by decide) _ _ _ rfl (hown1.alloc _) (some ⟨w1.heap.size, 0, none⟩) w1.heap.size 0 1 1 [.int .i64 B, .int .i64 i] rfl (fun _ => rfl) rfl (two_new w1 _ _ _) two_cell (by unfold maxLen; omega) (by omega) (by simp; omega) ?_; intro v2 w2 hown2 hgrow2)
            have hB2 := own_bel (hBl1.alloc hBl1.size _) (Joins_le (hown1.alloc _)) hgrow2 (by simp; omega)
            have hbx2 : w2.heap[w.heap.size]? = some F := by
              rw [hgrow2.block w.heap.size (by simp; omega) (fun e => by have := (hown1.lt _ e.symm).1; omega), (MapKept.heap_alloc _ _).2 _ (by omega)]
              exact hbx1
            have hsz2 : w.heap.size + 1 ≤ w2.heap.size := by have := hgrow2.size; simp at this; omega
            exact ⟨⟨i + 1, ps ++ [(B, i)], by omega, by go_num, by rw [List.length_append, plV_app]; exact hown2, hd2, by have := hn1.out; simp; omega, hbx2, hsz2, hB2⟩, by simp [intOf]; omega⟩
        · rw [inQ_end B i ys (by omega)] at hd hn1
          go_wp2_with fail
          exact ⟨⟨B + 1, ps, by omega, by go_num, hown, hd, by simp at hn1; omega, hbx, hsz, hBl⟩, by simp [intOf]; omega⟩
    · rw [blQ_end B blocks (by omega)] at hd
      have e : ps = A := by rw [← hd.out]; simp [useL]
      replace e := Kp.mk e
      replace hown := Kp.mk hown
      go_wp2_with fail
      go_ret
      exact ⟨_, rfl, ⟨by rw [← e.out]; exact Joins_le hown.out⟩, hBl⟩
end Go.Proofs.Ytmliokdeinlcgab
