/- Loops: the specification's search. -/
import Derived.Test.YtbfpfjkjeekbdaaFr2
import Derived.BigRegion
import Derived.Deep.DeepFit
import Derived.Deep.RegionWith
import Derived.Test.YtbfpfjkjeekbdaaDp13
import Derived.Test.YtbfpfjkjeekbdaaVt2
import Derived.Deep.RegionHeld3
namespace Go.Proofs.Ytbfpfjkjeekbdaa
open Go.ChangeShapes Go.WideShapes Go.ChangeAt Go.RowKit
set_option linter.unusedVariables false
set_option linter.unusedSimpArgs false
/-- A list of numbers that is read, a part of a row of its own. -/
structure LsI (w : World) (base : Nat) (v : Value) (ys : List Int) : Prop where
  ex : ∃ a c, v = .slice a ys.length c ∧ ys.length ≤ c ∧ (0 < ys.length → ∃ g o, ∃ cur : Array Value, a = some ⟨g, o, none⟩ ∧ base ≤ g ∧ w.heap[g]? = some (Go.Obj.cells cur 2 (0, 0)) ∧ ∀ i (h : i < ys.length), cur[o + i]? = some (.int .i64 ys[i]))
theorem LsI.keep {w w' : World} {base : Nat} {v : Value} {ys : List Int} (h : LsI w base v ys) (hb : Below w.heap.size w w') : LsI w' base v ys := by
  obtain ⟨a, c, h1, h2, h3⟩ := h.ex
  refine ⟨a, c, h1, h2, fun q => ?_⟩
  obtain ⟨g, o, cur, e1, e2, e3, e4⟩ := h3 q
  exact ⟨g, o, cur, e1, e2, keep_cells e3 hb, e4⟩
theorem LsI.set {w : World} {base : Nat} {v : Value} {ys : List Int} (h : LsI w base v ys) {rb n : Nat} {f : Nat → Bool} (hB : BRow w rb n f) (j : Nat) (u : Value) : LsI (w.setCell ⟨rb, j, none⟩ u) base v ys := by
  obtain ⟨a, c, h1, h2, h3⟩ := h.ex
  refine ⟨a, c, h1, h2, fun q => ?_⟩
  obtain ⟨g, o, cur, e1, e2, e3, e4⟩ := h3 q
  refine ⟨g, o, cur, e1, e2, ?_, e4⟩
  obtain ⟨cb, hb, -⟩ := hB.ex
  rw [heap_set]
  · exact e3
  · rintro rfl
    rw [hb] at e3
    cases e3
theorem LsI.own {w : World} {base : Nat} {v : Value} {ys : List Int} (h : OwnI w base v ys) : LsI w base v ys := by
  rcases h.r.2 with ⟨rfl, e⟩ | ⟨g, cap, cur, rfl, h1, h2, h3, h4, h5, h6⟩
  · exact ⟨none, 0, by rw [e], by omega, fun q => by omega⟩
  · refine ⟨_, cap, rfl, h3, fun q => ⟨g, 0, cur, rfl, h1, h2, fun i hi => ?_⟩⟩
    have : (cur.toList.take (ys.length * 1))[i]? = some (.int .i64 ys[i]) := by rw [h6]; simp [hi]
    rw [List.getElem?_take] at this
    split at this
    · simpa using this
    · cases this
theorem LsI.ints {w : World} {base : Nat} {v : Value} {ys : List Int} (h : LsI w base v ys) (hn : ys.length ≤ 8388608) : Ints 0 .i64 w v ys := by
  obtain ⟨a, c, rfl, h2, h3⟩ := h.ex
  by_cases q : 0 < ys.length
  · obtain ⟨g, o, cur, rfl, e2, e3, e4⟩ := h3 q
    exact ⟨g, o, ⟨⟨_, _, rfl, h2, fun _ => rfl⟩, by omega⟩, Nat.zero_le _, fun i hi => at_cells e3 (e4 i hi)⟩
  · exact ⟨0, 0, ⟨⟨a, c, rfl, h2, fun k => absurd k q⟩, by omega⟩, Nat.zero_le _, fun i hi => absurd hi (by omega)⟩
/-- Its first one, and what is behind it. -/
theorem LsI.cons {w : World} {base : Nat} {v : Value} {x : Int} {ys : List Int} (h : LsI w base v (x :: ys)) : ∃ g o c, v = .slice (some ⟨g, o, none⟩) (ys.length + 1) c ∧ ys.length + 1 ≤ c ∧ w.cell? ⟨g, o, none⟩ = some (.int .i64 x) ∧ ∀ a' c', ys.length ≤ c' → (0 < ys.length → a' = some ⟨g, o + 1, none⟩) → LsI w base (.slice a' ys.length c') ys := by
  obtain ⟨a, c, rfl, h2, h3⟩ := h.ex
  obtain ⟨g, o, cur, rfl, e2, e3, e4⟩ := h3 (by simp)
  rw [List.length_cons] at h2
  refine ⟨g, o, c, rfl, h2, at_cells e3 (e4 0 (by simp)), fun a' c' hc' ha' => ⟨_, _, rfl, hc', fun q => ⟨g, o + 1, cur, ha' q, e2, e3, fun i hi => ?_⟩⟩⟩
  have := e4 (i + 1) (by simpa using hi)
  rw [show o + 1 + i = o + (i + 1) by omega]
  simpa using this
/-- A row that was made with its elements false. -/
theorem own_one {w : World} {base : Nat} {v : Value} {xs : List Int} (h : w.ownsRow base 2 1 v xs.length (xs.map (Value.int .i64))) (hbase : base ≤ w.heap.size) (hn : xs.length ≤ 8388608) (x : Int) (T ty : TypeId) :
    ∃ v' w', (Builtin.append_ #[22, 22] ty #[v, .slice (some ⟨w.heap.size, 0, none⟩) 1 1]).run Try.prog (w.alloc (Go.Obj.cells #[.int .i64 x] T)) = .ok v' w' ∧ w'.ownsRow base 2 1 v' (xs ++ [x]).length ((xs ++ [x]).map (Value.int .i64)) ∧ (w.alloc (Go.Obj.cells #[.int .i64 x] T)).grownBy w' v.ownBlock := by
  obtain ⟨i0, hi0, hz0, hz1, hz2⟩ := info_parts info64
  have hb := bel_alloc w (Go.Obj.cells #[.int .i64 x] T)
  have hz := new_cells w (Go.Obj.cells #[.int .i64 x] T)
  have h2 := (OwnI.mk h).keep hb
  obtain ⟨v', w', q1, q2, q3, -⟩ := run_append_own_at (P := Try.prog) (w.alloc (Go.Obj.cells #[.int .i64 x] T)) base 22 ty 2 i0 (.int .i64 0) 1 8 Try.underlying22 hi0 hz0 hz1 hz2 rfl (by decide) v xs.length _ h2.r ⟨w.heap.size, 0, none⟩ 1 1 [.int .i64 x] (by simp) (fun j u hj => by
      obtain ⟨hlt, rfl⟩ := List.getElem?_eq_some_iff.1 hj
      rw [Go.WideShapes.add_plain]
      match j, hlt with
      | 0, _ => exact at_cells hz rfl) (fun u hu => by obtain rfl := List.mem_singleton.1 hu; rfl) (by unfold maxLen; omega) (by omega) (by simp; omega)
  exact ⟨v', w', q1, by simpa using q2, q3⟩
theorem grown_set (w : World) (B j : Nat) (v : Value) : w.grownBy (w.setCell ⟨B, j, none⟩ v) (some B) := ⟨rfl, rfl, rfl, by simp, fun k _ hk => heap_set w B j k v (fun e => hk (by rw [e]))⟩
theorem take_filter {xs : List Int} {p : Int → Bool} {i : Nat} (hi : i < xs.length) : (p xs[i] = true → (xs.take (i + 1)).filter p = (xs.take i).filter p ++ [xs[i]]) ∧ (p xs[i] = false → (xs.take (i + 1)).filter p = (xs.take i).filter p) := by
  rw [List.take_succ_eq_append_getElem hi, List.filter_append]
  exact ⟨fun h => by simp [h], fun h => by simp [h]⟩
set_option maxRecDepth 100000 in
set_option maxHeartbeats 8000000 in
theorem loopS (blocks : List (List InD)) (n lo : Nat) (hnl : Kp (blocks.length = n)) (w : World) (vN vP vd : Value) (hN : ∃ a c, vN = .slice a n c) (G : Rws lo w vP n (prevs blocks n)) (H : Mtx w vd n (fun i j => dmB blocks i j)) (hn : n ≤ 1048576) (hpos : 0 < n)
    (hpot : pot blocks (fun _ => false) n ≤ 2097152)
    (hpv : ∀ i : Nat, i < n → (prevs blocks n i).length ≤ 1048576 ∧ ∀ y ∈ prevs blocks n i, 0 ≤ y ∧ y < (n : Int)) :
    Calls Try.prog 36 #[.agg #[vN, vP], vd] w fun e w' => ∃ v', e = .returned v' ∧ OwnLp w' w.heap.size v' (lpsD blocks n) ∧ Below w.heap.size w w' := by
  obtain ⟨aN, cN, rfl⟩ := hN
  obtain ⟨a0, c0, rfl, hx⟩ := H.ex
  have hG := G
  obtain ⟨hb, ho, ⟨⟨an, cn, rfl, g1, g2⟩, g3⟩, -, gc⟩ := G.ex
  obtain ⟨i0, hi0, hz0, hz1, hz2⟩ := info_parts info64
  obtain rfl := g2 hpos
  have GC : Kp (∀ (i : Nat), i < n → ∃ a c b o, (0 < (prevs blocks n i).length → a = some ⟨b, o, none⟩) ∧ ∀ W : World, Below w.heap.size w W → W.cell? ⟨hb, ho + i, none⟩ = some (.slice a (prevs blocks n i).length c) ∧ (∀ q (h : q < (prevs blocks n i).length), At W b (o + q) (.int .i64 (prevs blocks n i)[q])) ∧ Ints lo .i64 W (.slice a (prevs blocks n i).length c) (prevs blocks n i)) := ⟨fun i hi => by
    obtain ⟨u, h1, h2⟩ := gc i hi
    have h2' := h2
    obtain ⟨b, o, ⟨⟨a, c, rfl, s1, s2⟩, s3⟩, hl, hc⟩ := h2.ex
    exact ⟨a, c, b, o, s2, fun W hW => ⟨at_keep h1 hW, fun q hq => at_keep (hc q hq) hW, h2'.keep hW⟩⟩⟩
  obtain ⟨dB, hdB⟩ : ∃ dB, Kp (∀ W i j, Below w.heap.size w W → i < n → j < n → ∃ bi ci, W.cell? ⟨dB, i, none⟩ = some (.slice (some ⟨bi, 0, none⟩) n ci) ∧ W.cell? ⟨bi, j, none⟩ = some (.bool (dmB blocks i j))) ∧ a0 = some ⟨dB, 0, none⟩ := by
    obtain ⟨g, bi, ci, h1, -⟩ := hx 0 hpos
    refine ⟨g, ⟨fun W i j hW hi hj => ?_⟩, h1⟩
    obtain ⟨g', bi, ci, h1', h2, h3⟩ := hx i hi
    rw [h1] at h1'
    cases h1'
    exact ⟨bi, ci, at_keep h2 hW, at_keep (h3 j hj) hW⟩
  obtain ⟨MC, rfl⟩ := hdB
  obtain ⟨O, hmk, hSO⟩ := mkSeen n hn
  have hBR : Kp (∀ W : World, BRow (W.alloc O) W.heap.size n (fun _ => false)) := ⟨fun W => by
    obtain ⟨cur, h1, h2⟩ := (hSO W).ex
    exact ⟨cur, h1, fun i hi => by rw [h2 i hi]; simp⟩⟩
  clear H hx G gc g1 g3 g2 hSO
  obtain ⟨Bo, hBo⟩ : ∃ Bo, Kp (Bo = Go.Obj.cells #[.slice aN n cN, .slice (some ⟨hb, ho, none⟩) n cn] 45 (0, 0)) := ⟨_, ⟨rfl⟩⟩
  obtain ⟨W0, hW0⟩ : ∃ W0, Kp (W0 = w.alloc (Go.Obj.cells #[.slice aN n cN, .slice (some ⟨hb, ho, none⟩) n cn] 45)) := ⟨_, ⟨rfl⟩⟩
  have hB0 : Below w.heap.size w W0 := by rw [hW0.out]; exact bel_alloc _ _
  have hg0 : W0.heap[w.heap.size]? = some Bo := by rw [hW0.out, hBo.out]; exact new_cells _ _
  have SK : Kp (∀ W' : World, Below W0.heap.size W0 W' → W'.cell? ⟨w.heap.size, 0, none⟩ = some (.slice aN n cN) ∧ W'.cell? ⟨w.heap.size, 1, none⟩ = some (.slice (some ⟨hb, ho, none⟩) n cn)) := ⟨fun W' h => by
    have h1 := keep_cells hg0 h
    rw [hBo.out] at h1
    exact ⟨at_cells h1 rfl, at_cells h1 rfl⟩⟩
  replace hpv := Kp.mk hpv
  replace hpot := Kp.mk hpot
  replace hG := Kp.mk hG
  obtain ⟨y0, -⟩ := SK.out _ (bel_alloc W0 (Go.Obj.cells #[] 71))
  go_enter Try.func36, Try.ntmps36
  go_upto_region 1 with fail
  rw [← hW0.out]
  go_wp2_with fail
  go_loopw [5, 7] (fun vo s wr => ∃ b : Nat, b ≤ n ∧ s = .int .i64 b ∧ OwnLp wr W0.heap.size vo (lpsD blocks b) ∧ Below W0.heap.size W0 wr) (fun _ s _ => n - (intOf s).toNat)
  case atStart => exact ⟨0, Nat.zero_le _, rfl, ⟨[], rfl, ⟨rfl, .inr ⟨W0.heap.size, 0, #[], rfl, Nat.le_refl _, new_cells W0 _, Nat.le_refl _, by decide, rfl, rfl⟩⟩, (fun e he => by cases he), .nil⟩, bel_alloc _ _⟩
  case round =>
    clear y0
    obtain ⟨b, hbn, rfl, hO, hBl⟩ := hrel
    obtain ⟨oa, oc, rfl⟩ := hO.shape
    obtain ⟨Wo, hWo⟩ : ∃ W, W = wr := ⟨wr, rfl⟩
    subst hWo
    have b0 : (0 : Int) ≤ (b : Int) := by omega
    by_cases hlt : b < n
    · have b1 : (b : Int) < (n : Int) := by omega
      have hll := lpsD_len blocks b
      obtain ⟨hpl, hpy⟩ := hpv.out b hlt
      go_wp2_with fail
      go_loopw [8, 9] (fun s8 s9 wz => ∃ i : Nat, i ≤ (prevs blocks n b).length ∧ s9 = .int .i64 i ∧ OwnI wz Wo.heap.size s8 (((prevs blocks n b).take i).filter (fun p => dmB blocks b p)) ∧ Below Wo.heap.size Wo wz) (fun _ s9 _ => (prevs blocks n b).length - (intOf s9).toNat)
      case atStart => exact ⟨0, Nat.zero_le _, rfl, ⟨rfl, .inr ⟨Wo.heap.size, 0, #[], rfl, Nat.le_refl _, new_cells Wo _, Nat.le_refl _, by decide, rfl, rfl⟩⟩, bel_alloc _ _⟩
      case round =>
        obtain ⟨i, hi, rfl, hT, hBz⟩ := hrel
        have hBW := bel_trans hBl hBz
        obtain ⟨y0, y1⟩ := SK.out _ hBW
        have hBw := bel_trans hB0 hBW
        obtain ⟨ra, rc, rb, ro, hra, hgx⟩ := GC.out b hlt
        obtain ⟨hrow, hrcs, hri⟩ := hgx _ hBw
        clear hgx
        have i00 : (0 : Int) ≤ (i : Int) := by omega
        by_cases hil : i < (prevs blocks n b).length
        · have i01 : (i : Int) < ((prevs blocks n b).length : Int) := by omega
          have hc := hrcs i hil
          obtain rfl := hra (by omega)
          have hyb := hpy _ (List.getElem_mem hil)
          obtain ⟨tf1, tf2⟩ := take_filter (p := fun p => dmB blocks b p) hil
          have tf3 : (((prevs blocks n b).take i).filter (fun p => dmB blocks b p)).length ≤ 1048576 := by
            have h1 := List.length_filter_le (fun p => dmB blocks b p) ((prevs blocks n b).take i)
            rw [List.length_take] at h1
            omega
          replace tf1 := Kp.mk tf1
          replace tf2 := Kp.mk tf2
          clear hrcs hra hri
          generalize (prevs blocks n b)[i] = c at *
          obtain ⟨tc, rfl⟩ : ∃ tc : Nat, c = tc := ⟨c.toNat, by omega⟩
          have htc : tc < n := by omega
          have tc0 : (0 : Int) ≤ (tc : Int) := by omega
          have tc1 : (tc : Int) < (n : Int) := by omega
          obtain ⟨bi, ci, c1, c2⟩ := MC.out wr b tc hBw hlt htc
          obtain ⟨T, hT2⟩ : ∃ T, Kp (((prevs blocks n b).take i).filter (fun p => dmB blocks b p) = T) := ⟨_, ⟨rfl⟩⟩
          rw [hT2.out] at hT tf1 tf2 tf3
          obtain ⟨a8, c8, rfl⟩ := hT.shape
          obtain ⟨q, hq⟩ : ∃ q, dmB blocks b tc = q := ⟨_, rfl⟩
          rw [hq] at c2
          generalize (prevs blocks n b).length = pl at *
          cases q with
          | true =>
            have tf := Kp.mk (tf1.out hq)
            clear tf1 tf2 hq
            have hTD := hT.keep (bel_drew wr)
            obtain ⟨v6, w6, hrun, hO6, hg6⟩ := own_one hTD.r (by have := hBz.size; simpa using this) (by omega) tc 2 22
            have hBD := bel_trans (bel_trans hBz (bel_drew wr)) (bel_alloc _ (Go.Obj.cells #[.int .i64 tc] 2))
            have hB6 := hBD.grown hg6 hBD.size (fun k hk => (hT.r.lt k hk).1)
            replace hT := Kp.mk hT
            replace hO6 := Kp.mk hO6
            replace hrun := Kp.mk hrun
            clear hTD hBD hg6
            go_upto_region 10 with fail
            go_region
            go_wp2_with (at_builtin; refine wpList_append_run _ rfl (.tmp 49) (.tmp 58) 22 rfl rfl rfl hrun.out ?_)
            exact ⟨⟨i + 1, by omega, by go_num, by rw [tf.out]; exact ⟨hO6.out⟩, hB6⟩, by simp [intOf]; omega⟩
          | false =>
            have tf := Kp.mk (tf2.out hq)
            clear tf1 tf2 hq
            have hTD := hT.keep (bel_drew wr)
            have hBD := bel_trans hBz (bel_drew wr)
            replace hT := Kp.mk hT
            go_upto_region 10 with fail
            go_region
            go_wp2_with fail
            exact ⟨⟨i + 1, by omega, by go_num, by rw [tf.out]; exact hTD, hBD⟩, by simp [intOf]; omega⟩
        · obtain rfl : i = (prevs blocks n b).length := by omega
          have hfin : ((prevs blocks n b).take (prevs blocks n b).length).filter (fun p => dmB blocks b p) = tlL blocks b := by rw [List.take_length]; unfold tlL; rw [hnl.out]
          rw [hfin] at hT
          have htl : (tlL blocks b).length ≤ 1048576 := by have := tlL_len blocks b; rw [hnl.out] at this; omega
          have htb : Kp (∀ x ∈ tlL blocks b, 0 ≤ x ∧ x < (n : Int)) := ⟨fun x hx => hpy x (by unfold tlL at hx; rw [hnl.out] at hx; exact (List.mem_filter.1 hx).1)⟩
          clear hrcs hra hri hfin y0
          generalize (prevs blocks n b).length = pl at *
          obtain ⟨a8, c8, rfl⟩ := hT.shape
          have hOz := hO.keep hBz
          by_cases h0 : tlL blocks b = []
          · have hgt : (((tlL blocks b).length : Int) == 0) = true := by rw [h0]; rfl
            have hnx : Kp (lpsD blocks (b + 1) = lpsD blocks b) := ⟨by simp [lpsD, h0]⟩
            replace h0 := Kp.mk h0
            clear hT
            go_wp2_with fail
            exact ⟨⟨b + 1, by omega, by go_num, by rw [hnx.out]; exact hOz, hBW⟩, by simp [intOf]; omega⟩
          have hgt : (((tlL blocks b).length : Int) == 0) = false := by
            have := List.length_pos_iff.2 h0
            rw [beq_eq_false_iff_ne]
            omega
          have hnx : Kp (lpsD blocks (b + 1) = lpsD blocks b ++ [(b, lpL blocks b)]) := ⟨by simp [lpsD, h0]⟩
          have h0' : 0 < (tlL blocks b).length := List.length_pos_iff.2 h0
          replace h0 := Kp.mk h0
          have hba := bel_alloc wr O
          have hr0 := hBR.out wr
          have hmk0 := hmk wr
          have hT0 := LsI.own (hT.keep hba)
          have hO0 := hOz.keep hba
          have hB0a := bel_trans hBz hba
          obtain ⟨rb, hrb⟩ : ∃ rb, wr.heap.size = rb := ⟨_, rfl⟩
          have hrbW : Wo.heap.size ≤ rb := by rw [← hrb]; exact hBz.size
          rw [hrb] at hr0 hmk0
          have zc := hr0.at hlt
          have zf := hr0.rw b
          have hst := hr0.set (x := true) hlt (g := fun i : Nat => ((i : Int) == (b : Int))) (fun i hi => by
            by_cases e : i = b
            · subst e; simp
            · rw [if_neg e]; exact beq_false_of_ne (by omega))
          have hT1 := hT0.set hr0 b (.bool true)
          have hB1 : Below Wo.heap.size Wo ((wr.alloc O).setCell ⟨rb, b, none⟩ (.bool true)) := hB0a.setCell hrbW _
          replace zc : (wr.alloc O).cell? ⟨rb, b, none⟩ = some (.bool false) := zc
          clear hba hr0 hT hT0 hO0 hB0a hBz hBW hBw hOz
          have hT1 := Kp.mk hT1
          replace hst := Kp.mk hst
          replace hB1 := Kp.mk hB1
          go_upto_region 13 with fail
          clear hrow y1
          go_wp2_with fail
          have hp0 : (tlL blocks b).length + pot blocks (fun x => x == (b : Int)) n ≤ 1048576 + 2097152 := by have h1 := pot_le blocks (fun x => x == (b : Int)) n; have h2 := hpot.out; omega
          go_loopg [11, 12] ((tlL blocks b).length + pot blocks (fun x => x == (b : Int)) n) (fun k s11 _ wz => ∃ (inn : Int → Bool) (ys : List Int), LsI wz Wo.heap.size s11 ys ∧ BRow wz rb n (fun i => inn i) ∧ Kp (Wk blocks b inn (fun x => x ∈ ys)) ∧ Kp (∀ x ∈ ys, 0 ≤ x ∧ x < (n : Int)) ∧ ys.length + pot blocks inn n = k ∧ k ≤ 1048576 + 2097152 ∧ Below Wo.heap.size Wo wz)
          case atStart => exact ⟨fun x => x == (b : Int), tlL blocks b, hT1.out, hst.out, ⟨Wk.start⟩, htb, rfl, hp0, hB1.out⟩
          case round =>
            clear hT1 hst hB1 zc zf hmk0
            obtain ⟨inn, ys, hL, hR, hK, hy, hk, hk2, hBz⟩ := hrel
            have hBW := bel_trans hBl hBz
            have hBw := bel_trans hB0 hBW
            obtain ⟨-, y1⟩ := SK.out _ hBW
            cases ys with
            | nil =>
              obtain ⟨la, lc, rfl, -, -⟩ := hL.ex
              have hin := hK.out.done (fun x hx => by simp at hx)
              have hfr : Kp (frU (fun i : Nat => inn i) n = lpL blocks b) := ⟨by
                unfold lpL frU
                rw [hnl.out]
                congr 1
                refine List.filter_congr fun i _ => ?_
                rw [Bool.eq_iff_iff, hin, inB_true]⟩
              have hba := bel_alloc wr (Go.Obj.cells #[.int .i64 b, .slice none 0 0] 71)
              have hz := new_cells wr (Go.Obj.cells #[.int .i64 b, .slice none 0 0] 71)
              have hRa := hR.keep hba
              have hBa := bel_trans hBz hba
              have hWB := hBz.size
              clear hL hK hy hR hBz hBW hBw y1 hin hk
              go_upto_region 23 with fail
              generalize wr.alloc (Go.Obj.cells #[.int .i64 b, .slice none 0 0] 71) = Wl at *
              generalize wr.heap.size = Bx at *
              go_wp2_with fail
              go_loopg [14] n (fun k s wz => ∃ (m : Nat) (V : Value), m ≤ n ∧ s = .int .i64 m ∧ wz.heap[Bx]? = some (Go.Obj.cells #[.int .i64 b, V] 71 (0, 0)) ∧ OwnI wz Wo.heap.size V (frU (fun i : Nat => inn i) m) ∧ BRow wz rb n (fun i => inn i) ∧ Below Wo.heap.size Wo wz ∧ n - m = k)
              case atStart => exact ⟨0, _, Nat.zero_le _, rfl, hz, ⟨World.ownsRow_nil _ _ _ _⟩, hRa, hBa, rfl⟩
              case round =>
                clear hz hRa hBa
                obtain ⟨m, V, hm, rfl, hz, hV, hR, hBz, rfl⟩ := hrel
                have z0 := at_cells hz (j := 0) rfl
                have z1 := at_cells hz (j := 1) rfl
                have m0 : (0 : Int) ≤ (m : Int) := by omega
                by_cases hmn : m < n
                · have m1 : (m : Int) < (n : Int) := by omega
                  have hx := hR.at hmn
                  obtain ⟨q, hq⟩ : ∃ q, inn (m : Int) = q := ⟨_, rfl⟩
                  rw [hq] at hx
                  replace hx : wr.cell? ⟨rb, m, none⟩ = some (.bool q) := hx
                  have hlen := frU_len (fun i : Nat => inn i) m
                  cases q with
                  | false =>
                    have hnx2 : Kp (frU (fun i : Nat => inn i) (m + 1) = frU (fun i : Nat => inn i) m) := ⟨by simp [frU, List.range_succ, List.filter_append, List.filter_cons, hq]⟩
                    replace hq := Kp.mk hq
                    replace hz := Kp.mk hz
                    go_wp2_with fail
                    go_roundg (n - (m + 1))
                    case measure => omega
                    case rel => exact ⟨m + 1, V, by omega, by go_num, hz.out, by rw [hnx2.out]; exact hV, hR, hBz, rfl⟩
                  | true =>
                    have hnx2 : Kp (frU (fun i : Nat => inn i) (m + 1) = frU (fun i : Nat => inn i) m ++ [(m : Int)]) := ⟨frU_yes hq⟩
                    obtain ⟨v6, w6, hrun, hO6, hg6⟩ := own_one hV.r hBz.size (by omega) m 2 22
                    have hb6 := bel_alloc wr (Go.Obj.cells #[.int .i64 m] 2)
                    have hVa := hV.keep hb6
                    have hB6 := (bel_trans hBz hb6).grown hg6 (bel_trans hBz hb6).size (fun k hk => (hV.r.lt k hk).1)
                    have hR6 := (hR.keep hb6).kept hg6 ((hR.keep hb6).ne hVa.r (by decide))
                    have hz6 := (hg6.block _ (Array.getElem?_eq_some_iff.1 (keep_cells hz hb6)).1 (own_ne hVa.r (keep_cells hz hb6) (by decide))).trans (keep_cells hz hb6)
                    have k1 := at_cells hz6 (j := 1) rfl
                    have kf := rw_cells hz6 1
                    have hz7 : (w6.setCell ⟨Bx, 1, none⟩ v6).heap[Bx]? = some (Go.Obj.cells #[.int .i64 b, v6] 71 (0, 0)) := set_cells hz6 1 v6
                    have hO7 : OwnI (w6.setCell ⟨Bx, 1, none⟩ v6) Wo.heap.size v6 (frU (fun i : Nat => inn i) m ++ [(m : Int)]) := ⟨hO6.kept (grown_set w6 Bx 1 v6) (.inr (fun e => own_ne hO6 hz6 (by decide) e.symm))⟩
                    have hR7 := hR6.kept (grown_set w6 Bx 1 v6) (fun e => by
                      obtain ⟨cb, h1, -⟩ := hR6.ex
                      cases e
                      rw [h1] at hz6
                      cases hz6)
                    have hB7 : Below Wo.heap.size Wo (w6.setCell ⟨Bx, 1, none⟩ v6) := hB6.setCell hWB _
                    obtain ⟨va, vc, rfl⟩ := hV.shape
                    obtain ⟨va6, vc6, rfl⟩ := (OwnI.mk hO6).shape
                    rw [show (frU (fun i : Nat => inn i) m ++ [(m : Int)]).length = (frU (fun i : Nat => inn i) m).length + 1 by simp] at hrun hz7 hO7 hR7 hB7
                    replace hq := Kp.mk hq
                    replace hz := Kp.mk hz
                    replace hrun := Kp.mk hrun
                    replace hz7 := Kp.mk hz7
                    replace hO7 := Kp.mk hO7
                    replace hR7 := Kp.mk hR7
                    replace hB7 := Kp.mk hB7
                    clear hV hR hBz hO6 hg6 hb6 hVa hB6 hR6 hz6
                    go_wp2_with (at_builtin; refine wpList_append_run _ rfl (.tmp 114) (.tmp 116) 22 rfl rfl rfl hrun.out ?_)
                    go_roundg (n - (m + 1))
                    case measure => omega
                    case rel => exact ⟨m + 1, _, by omega, by go_num, hz7.out, by rw [hnx2.out]; exact hO7.out, hR7.out, hB7.out, rfl⟩
                · obtain rfl : m = n := by omega
                  rw [hfr.out] at hV
                  obtain ⟨va, vc, rfl⟩ := hV.shape
                  have hU4 := bel_trans hBl hBz
                  obtain ⟨v6, w6, hrun, hO6, hg6, hlo, -⟩ := hO.more hBz (by omega) hBl.size b (lpL blocks b) _ hV 71 37
                  have hU5 := bel_trans hU4 (bel_alloc wr (Go.Obj.cells #[.int .i64 b, .slice va (lpL blocks b).length vc] 71))
                  have hU6 := hU5.grown hg6 hU5.size hlo
                  rw [← hnx.out] at hO6
                  replace hrun := Kp.mk hrun
                  replace hO6 := Kp.mk hO6
                  replace hU6 := Kp.mk hU6
                  replace hz := Kp.mk hz
                  clear hV hR hBz hg6 hlo hU4 hU5
                  go_wp2_with (at_builtin; refine wpList_append_run _ rfl (.tmp 119) (.tmp 121) 37 rfl rfl rfl hrun.out ?_)
                  exact ⟨⟨b + 1, by omega, by go_num, hO6.out, hU6.out⟩, by simp [intOf]; omega⟩
            | cons x us =>
              obtain ⟨xb, xu⟩ : (0 ≤ x ∧ x < (n : Int)) ∧ Kp (∀ y ∈ us, 0 ≤ y ∧ y < (n : Int)) := ⟨hy.out x (by simp), ⟨fun y hq => hy.out y (by simp [hq])⟩⟩
              obtain ⟨g, o, c, rfl, hc, hx0, hL2⟩ := hL.cons
              obtain ⟨X, rfl⟩ : ∃ X : Nat, x = X := ⟨x.toNat, by omega⟩
              have hX : X < n := by omega
              rw [List.length_cons] at hk
              have hx1 := hR.at hX
              obtain ⟨bi, ci, c1, c2⟩ := MC.out wr 0 X hBw hpos hX
              obtain ⟨q1, hq1⟩ : ∃ q, inn (X : Int) = q := ⟨_, rfl⟩
              obtain ⟨q2, hq2⟩ : ∃ q, dmB blocks (0 : Int) X = q := ⟨_, rfl⟩
              rw [hq1] at hx1
              replace c2 : wr.cell? ⟨bi, X, none⟩ = some (.bool (dmB blocks (0 : Int) X)) := c2
              rw [hq2] at c2
              replace hx1 : wr.cell? ⟨rb, X, none⟩ = some (.bool q1) := hx1
              clear hL hy
              cases q1 with
              | true =>
                have hK2 : Kp (Wk blocks b inn (fun y => y ∈ us)) := ⟨hK.out.skip (b := (X : Int)) (.inl hq1) (fun y hy => by simpa using hy) (fun y hy => by simp [hy])⟩
                replace hq1 := Kp.mk hq1
                replace hq2 := Kp.mk hq2
                clear hK
                replace hL2 := Kp.mk hL2
                go_wp2_with fail
                all_goals
                  go_roundg (us.length + pot blocks inn n)
                  case measure => omega
                  case rel => exact ⟨inn, us, by first | exact hL2.out _ _ (by omega) (fun _ => rfl) | exact hL2.out _ _ (by omega) (fun h => absurd h (by omega)), hR, hK2, xu, rfl, by omega, hBz⟩
              | false =>
                cases q2 with
                | false =>
                  have hK2 : Kp (Wk blocks b inn (fun y => y ∈ us)) := ⟨hK.out.skip (b := (X : Int)) (.inr hq2) (fun y hy => by simpa using hy) (fun y hy => by simp [hy])⟩
                  replace hq1 := Kp.mk hq1
                  replace hq2 := Kp.mk hq2
                  clear hK
                  replace hL2 := Kp.mk hL2
                  go_wp2_with fail
                  all_goals
                    go_roundg (us.length + pot blocks inn n)
                    case measure => omega
                    case rel => exact ⟨inn, us, by first | exact hL2.out _ _ (by omega) (fun _ => rfl) | exact hL2.out _ _ (by omega) (fun h => absurd h (by omega)), hR, hK2, xu, rfl, by omega, hBz⟩
                | true =>
                  have hpt := pot_take (bls := blocks) (inn := inn) hq1 (by omega : (0 : Int) ≤ (X : Int)) n (by omega)
                  rw [hnl.out, Int.toNat_natCast] at hpt
                  have hK2 : Kp (Wk blocks b (fun y => inn y || y == (X : Int)) (fun y => y ∈ us ++ prevs blocks n X)) := ⟨hK.out.take (b := (X : Int)) (by simp) hq1 hq2 (fun y hy => by
                      rcases List.mem_cons.1 hy with h | h
                      · exact .inl h
                      · exact .inr (List.mem_append_left _ h)) (fun y hy => by rw [Int.toNat_natCast, hnl.out] at hy; exact List.mem_append_right _ hy) (fun y hy => by
                      rw [Int.toNat_natCast, hnl.out]
                      rcases List.mem_append.1 hy with h | h
                      · exact .inl (List.mem_cons_of_mem _ h)
                      · exact .inr h)⟩
                  obtain ⟨hxl, hxy⟩ := hpv.out X hX
                  have hy2 : Kp (∀ y ∈ us ++ prevs blocks n X, 0 ≤ y ∧ y < (n : Int)) := ⟨fun y hy => by
                    rcases List.mem_append.1 hy with h | h
                    · exact xu.out y h
                    · exact hxy y h⟩
                  have zf := hR.rw X
                  have hst := hR.set (x := true) hX (g := fun i : Nat => (inn i || ((i : Int) == (X : Int)))) (fun i hi => by
                    by_cases e : i = X
                    · subst e; simp
                    · rw [if_neg e, beq_false_of_ne (by omega : (i : Int) ≠ (X : Int)), Bool.or_false])
                  have hBs : Below Wo.heap.size Wo (wr.setCell ⟨rb, X, none⟩ (.bool true)) := hBz.setCell hrbW _
                  have kz := bel_drew (wr.setCell ⟨rb, X, none⟩ (.bool true))
                  have hBd := bel_trans hBs kz
                  replace hst := hst.keep kz
                  have hLg : us.length ≤ 4194304 := by omega
                  obtain ⟨pa, pc, pb, po, -, hpa⟩ := GC.out X hX
                  have SV : Kp (∀ W', Below Wo.heap.size Wo W' → W'.cell? ⟨w.heap.size, 1, none⟩ = some (.slice (some ⟨hb, ho, none⟩) n cn) ∧ W'.cell? ⟨hb, ho + X, none⟩ = some (.slice pa (prevs blocks n X).length pc)) := ⟨fun W' h => ⟨(SK.out W' (bel_trans hBl h)).2, (hpa W' (bel_trans hB0 (bel_trans hBl h))).1⟩⟩
                  have SI : Kp (∀ W', Below Wo.heap.size Wo W' → Ints lo .i64 W' (.slice pa (prevs blocks n X).length pc) (prevs blocks n X)) := ⟨fun W' h => (hpa W' (bel_trans hB0 (bel_trans hBl h))).2.2⟩
                  replace hL2 := Kp.mk hL2
                  replace hq1 := Kp.mk hq1
                  replace hq2 := Kp.mk hq2
                  clear hK hpa hxy
                  by_cases hc1 : c = 1
                  · subst hc1
                    obtain rfl : us = [] := List.eq_nil_of_length_eq_zero (by omega)
                    go_upto_region 21 with fail
                    have hLs := hL2.out (some ⟨g, o, none⟩) (0) (by omega) (fun h => absurd h (by simp))
                    have hLt := (hLs.set hR X (.bool true)).keep kz
                    replace hLs := Kp.mk hLs
                    refine wp_region_held_drew (S := fun W' => W'.cell? ⟨w.heap.size, 1, none⟩ = some (.slice (some ⟨hb, ho, none⟩) n cn) ∧ W'.cell? ⟨hb, ho + X, none⟩ = some (.slice pa (prevs blocks n X).length pc)) (by kernel_rfl) (SV.out _ hBd) (fun hHeld => ?_)
                    generalize (wr.setCell ⟨rb, X, none⟩ (.bool true)).drew = Y0 at *
                    refine tks 4 [1, 3, 4, 5] hHeld ?_
                    try simp only [tkP]
                    refine tks 2 [6, 7] hHeld ?_
                    try simp only [tkP]
                    refine rdy 0 fun K hK => ?_
                    go_simp
                    have hb1 := bel_alloc Y0 (Go.Obj.cells #[] 2)
                    have ho1 := World.ownsRow_made (base := Wo.heap.size) (e := 2) (size := 1) Y0 #[] 0 hBd.size (Nat.zero_le _) rfl
                    refine hK.out _ _ (SV.out _ (bel_trans hBd hb1)) (fun hHeld => ?_)
                    clear hK K
                    try simp only [tkP]
                    obtain ⟨v5, w5, hrun5, ho5, hg5, -⟩ := run_append_ints (P := Try.prog) (Y0.alloc (Go.Obj.cells #[] 2)) Wo.heap.size 22 22 2 i0 (.int .i64 0) Try.underlying22 hi0 hz0 hz1 hz2 rfl _ 0 _ ho1 _ [] ((hLt.keep hb1).ints (by omega)) (by omega) (by have := hBd.size; simp; omega)
                    have hB5 := (bel_trans hBd hb1).grown hg5 (bel_trans hBd hb1).size (fun k hk => (ho1.lt k hk).1)
                    have hR5 := (hst.keep hb1).kept hg5 ((hst.keep hb1).ne ho1 (by decide))
                    refine rdy 2 fun K hK => ?_
                    refine step_append_run rfl (.tmp 93) (.tmp 94) 22 rfl (by simp [Act.eval, Act.put]) (by simp [Act.eval, Act.put]) hrun5 ?_
                    refine hK.out _ _ (SV.out _ hB5) (fun hHeld => ?_)
                    clear hK K
                    try simp only [tkP]
                    obtain ⟨v6, w6, hrun6, ho6, hg6, -⟩ := run_append_ints (P := Try.prog) w5 Wo.heap.size 22 22 2 i0 (.int .i64 0) Try.underlying22 hi0 hz0 hz1 hz2 rfl _ _ _ ho5 _ (prevs blocks n X) (SI.out _ hB5) (by omega) hB5.size
                    have hB6 := hB5.grown hg6 hB5.size (fun k hk => (ho5.lt k hk).1)
                    have hR6 := hR5.kept hg6 (hR5.ne ho5 (by decide))
                    refine rdy 8 fun K hK => ?_
                    refine step_append_run rfl (.tmp 95) (.tmp 100) 22 rfl (by simp [Act.eval, Act.put]) (by simp [Act.eval, Act.put]) hrun6 ?_
                    refine hK.out _ _ (SV.out _ hB6) (fun hHeld => ?_)
                    clear hK K
                    try simp only [tkP]
                    refine tks 1 [9] hHeld ?_
                    try simp only [tkP]
                    refine wpAnyH_done (by kernel_rfl) ?_ _
                    have hO6 : OwnI w6 Wo.heap.size v6 ([] ++ prevs blocks n X) := ⟨by simpa using ho6⟩
                    have hL6 := LsI.own hO6
                    clear hrun5 hrun6 ho5 ho6 hg5 hg6 hHeld hB5 hR5 ho1 hb1 hLs hLt hO6
                    go_wp2_with fail
                    go_roundg (([] ++ prevs blocks n X).length + pot blocks (fun y => inn y || y == (X : Int)) n)
                    case measure => simp only [List.length_append, List.length_nil] at *; omega
                    case rel => exact ⟨fun y => inn y || y == (X : Int), [] ++ prevs blocks n X, hL6, hR6, hK2, hy2, rfl, by simp only [List.length_append, List.length_nil] at *; omega, hB6⟩
                  · have hc2 : ¬ (c - 1 = 0) := by omega
                    go_upto_region 21 with fail
                    have hLs := hL2.out (some ⟨g, o + 1, none⟩) (c - 1) (by omega) (fun _ => rfl)
                    have hLt := (hLs.set hR X (.bool true)).keep kz
                    replace hLs := Kp.mk hLs
                    refine wp_region_held_drew (S := fun W' => W'.cell? ⟨w.heap.size, 1, none⟩ = some (.slice (some ⟨hb, ho, none⟩) n cn) ∧ W'.cell? ⟨hb, ho + X, none⟩ = some (.slice pa (prevs blocks n X).length pc)) (by kernel_rfl) (SV.out _ hBd) (fun hHeld => ?_)
                    generalize (wr.setCell ⟨rb, X, none⟩ (.bool true)).drew = Y0 at *
                    refine tks 4 [1, 3, 4, 5] hHeld ?_
                    try simp only [tkP]
                    refine tks 2 [6, 7] hHeld ?_
                    try simp only [tkP]
                    refine rdy 0 fun K hK => ?_
                    go_simp
                    have hb1 := bel_alloc Y0 (Go.Obj.cells #[] 2)
                    have ho1 := World.ownsRow_made (base := Wo.heap.size) (e := 2) (size := 1) Y0 #[] 0 hBd.size (Nat.zero_le _) rfl
                    refine hK.out _ _ (SV.out _ (bel_trans hBd hb1)) (fun hHeld => ?_)
                    clear hK K
                    try simp only [tkP]
                    obtain ⟨v5, w5, hrun5, ho5, hg5, -⟩ := run_append_ints (P := Try.prog) (Y0.alloc (Go.Obj.cells #[] 2)) Wo.heap.size 22 22 2 i0 (.int .i64 0) Try.underlying22 hi0 hz0 hz1 hz2 rfl _ 0 _ ho1 _ us ((hLt.keep hb1).ints (by omega)) (by omega) (by have := hBd.size; simp; omega)
                    have hB5 := (bel_trans hBd hb1).grown hg5 (bel_trans hBd hb1).size (fun k hk => (ho1.lt k hk).1)
                    have hR5 := (hst.keep hb1).kept hg5 ((hst.keep hb1).ne ho1 (by decide))
                    refine rdy 2 fun K hK => ?_
                    refine step_append_run rfl (.tmp 93) (.tmp 94) 22 rfl (by simp [Act.eval, Act.put]) (by simp [Act.eval, Act.put]) hrun5 ?_
                    refine hK.out _ _ (SV.out _ hB5) (fun hHeld => ?_)
                    clear hK K
                    try simp only [tkP]
                    obtain ⟨v6, w6, hrun6, ho6, hg6, -⟩ := run_append_ints (P := Try.prog) w5 Wo.heap.size 22 22 2 i0 (.int .i64 0) Try.underlying22 hi0 hz0 hz1 hz2 rfl _ _ _ ho5 _ (prevs blocks n X) (SI.out _ hB5) (by omega) hB5.size
                    have hB6 := hB5.grown hg6 hB5.size (fun k hk => (ho5.lt k hk).1)
                    have hR6 := hR5.kept hg6 (hR5.ne ho5 (by decide))
                    refine rdy 8 fun K hK => ?_
                    refine step_append_run rfl (.tmp 95) (.tmp 100) 22 rfl (by simp [Act.eval, Act.put]) (by simp [Act.eval, Act.put]) hrun6 ?_
                    refine hK.out _ _ (SV.out _ hB6) (fun hHeld => ?_)
                    clear hK K
                    try simp only [tkP]
                    refine tks 1 [9] hHeld ?_
                    try simp only [tkP]
                    refine wpAnyH_done (by kernel_rfl) ?_ _
                    have hO6 : OwnI w6 Wo.heap.size v6 (us ++ prevs blocks n X) := ⟨by simpa using ho6⟩
                    have hL6 := LsI.own hO6
                    clear hrun5 hrun6 ho5 ho6 hg5 hg6 hHeld hB5 hR5 ho1 hb1 hLs hLt hO6
                    go_wp2_with fail
                    go_roundg ((us ++ prevs blocks n X).length + pot blocks (fun y => inn y || y == (X : Int)) n)
                    case measure => simp only [List.length_append]; omega
                    case rel => exact ⟨fun y => inn y || y == (X : Int), us ++ prevs blocks n X, hL6, hR6, hK2, hy2, rfl, by simp only [List.length_append]; omega, hB6⟩
    · obtain rfl : b = n := by omega
      have hO9 := hO.base hB0.size
      have hB9 := bel_trans hB0 hBl
      clear hO
      go_wp2_with fail
      go_ret
      exact ⟨_, rfl, hO9, hB9⟩
end Go.Proofs.Ytbfpfjkjeekbdaa
namespace Go.Proofs.Ytbfpfjkjeekbdaa
open Go.ChangeShapes Go.WideShapes Go.ChangeAt Go.RowKit
set_option linter.unusedVariables false
set_option linter.unusedSimpArgs false
set_option maxRecDepth 100000 in
set_option maxHeartbeats 4000000 in
theorem lopS (d : FnD) (vp vb : Value) (w : World) {lo : Nat} (h : FnAt lo w d vp vb) (hn : fnN d ≤ 1048576) :
    Calls Try.prog 15 #[fnV d vp vb] w fun e w' => ∃ v : Value, e = .returned v ∧ OwnLp w' w.heap.size v (lpsD d.blocks d.blocks.length) ∧ Below w.heap.size w w' := by
  have CG : Kp (∀ W, Below w.heap.size w W → Calls Try.prog 24 #[fnV d vp vb] W _) := ⟨fun W hW => graphS d vp vb W (h.keep hW) hn⟩
  unfold fnN at hn
  obtain ⟨name, link, params, res, blocks⟩ := d
  obtain ⟨-, hp, hb⟩ := h
  dsimp only [fnV] at *
  have nn := blsN_nn blocks
  have n2 : (blocks.length : Int) ≤ 1048576 := by omega
  have n3 : blsN blocks ≤ 1048576 := by omega
  have hpo := prevs_fr blocks n3
  obtain ⟨a1, k1, rfl⟩ := hp.shape
  obtain ⟨a2, k2, rfl⟩ := hb.shape
  clear hp hb
  obtain ⟨n, hnl⟩ : ∃ n, Kp (blocks.length = n) := ⟨_, ⟨rfl⟩⟩
  have hnx : ∀ i : Nat, i < n → (nextL blocks i).length ≤ 1048576 ∧ ∀ y ∈ nextL blocks i, 0 ≤ y ∧ y < (n : Int) := fun i hi => ⟨by have := @nextL_len blocks i; omega, fun y hy => by have := nextL_bd hy; rw [hnl.out] at this; exact this⟩
  have hpot := pot_small blocks n3 (by omega)
  rw [hnl.out] at CG n2 hpo hpot
  have hpv : ∀ i : Nat, i < n → (prevs blocks n i).length ≤ 1048576 ∧ ∀ y ∈ prevs blocks n i, 0 ≤ y ∧ y < (n : Int) := fun i hi => ⟨(hpo i hi).1, fun y hy => by obtain ⟨j, rfl, hj, -⟩ := ((hpo i hi).2 y).1 hy; omega⟩
  have hn1 : n ≤ 1048576 := by omega
  replace hnx := Kp.mk hnx
  replace hpv := Kp.mk hpv
  obtain ⟨W0, hW0⟩ : ∃ W0, Kp (W0 = w.alloc (Go.Obj.cells #[.string name, .int .i64 link, .slice a1 params.length k1, .int .i64 res, .slice a2 n k2] 30)) := ⟨_, ⟨rfl⟩⟩
  have hB0 : Below w.heap.size w W0 := by rw [hW0.out]; exact bel_alloc _ _
  have hx0 : W0.heap[w.heap.size]? = some (Go.Obj.cells #[.string name, .int .i64 link, .slice a1 params.length k1, .int .i64 res, .slice a2 n k2] 30 (0, 0)) := by rw [hW0.out]; exact new_cells _ _
  have x0 := at_cells hx0 (j := 0) rfl
  have x1 := at_cells hx0 (j := 1) rfl
  have x2 := at_cells hx0 (j := 2) rfl
  have x3 := at_cells hx0 (j := 3) rfl
  have x4 := at_cells hx0 (j := 4) rfl
  have hs0 : W0.heap.size = w.heap.size + 1 := by rw [hW0.out]; simp
  replace hx0 := Kp.mk hx0
  replace hpot := Kp.mk hpot
  clear hpo hn nn n3
  by_cases h0 : n = 0
  · have hg : ((n : Int) == 0) = true := by simp [h0]
    have hfl : lpsD blocks blocks.length = [] := by rw [hnl.out, h0]; rfl
    rw [hfl]
    replace h0 := Kp.mk h0
    rw [hnl.out]
    go_enter Try.func15, Try.ntmps15
    go_upto_region 1 with fail
    rw [← hW0.out]
    go_wp2_with fail
    go_ret
    exact ⟨_, rfl, ⟨[], rfl, ⟨rfl, .inr ⟨w.heap.size + 1, 0, #[], rfl, by omega, new_at hs0, Nat.le_refl _, by decide, rfl, rfl⟩⟩, (fun e he => by cases he), .nil⟩, bel_trans hB0 (bel_alloc _ _)⟩
  have hpos : 0 < n := by omega
  have hg : ((n : Int) == 0) = false := by rw [beq_eq_false_iff_ne]; omega
  rw [hnl.out]
  have CG1 := Kp.mk (CG.out W0 hB0)
  go_enter Try.func15, Try.ntmps15
  go_upto_region 1 with fail
  rw [← hW0.out]
  go_upto_region 3 with fail
  go_wp2_with fail
  refine CG1.out.mono ?_
  rintro e W1 ⟨vN, vP, rfl, hN, hP, hB01⟩
  have hB1 := bel_trans hB0 hB01
  obtain ⟨_, _, ⟨⟨aN, cN, rfl, -, -⟩, -⟩, -, -⟩ := hN.ex
  obtain ⟨_, _, ⟨⟨aP, cP, rfl, -, -⟩, -⟩, -, -⟩ := hP.ex
  clear CG CG1 x0 x1 x2 x3 x4
  have bb := bel_alloc W1 (Go.Obj.cells #[.slice aN n cN, .slice aP n cP] 45)
  have z := new_cells W1 (Go.Obj.cells #[.slice aN n cN, .slice aP n cP] 45)
  have hB2 := bel_trans hB1 bb
  obtain ⟨V, hV⟩ : ∃ V, Kp (V = W1.alloc (Go.Obj.cells #[.slice aN n cN, .slice aP n cP] 45)) := ⟨_, ⟨rfl⟩⟩
  go_upto_region 4 with fail
  rw [← hV.out] at bb z hB2 ⊢
  have hBD := (Below.refl V.heap.size V).drew
  have ZK : Kp (∀ W', Below V.heap.size V W' → W'.heap[W1.heap.size]? = _) := ⟨fun W' h => keep_cells z h⟩
  have C2 : Kp (∀ W', Below V.heap.size V W' → Calls Try.prog 26 #[.agg #[.slice aN n cN, .slice aP n cP]] W' _) := ⟨fun W' h => domsS blocks n _ hnl W' _ _ ((hN.keep bb).keep h) ⟨aP, n, cP, rfl⟩ hn1 hnx.out⟩
  have C3 : Kp (∀ W' vd, Below V.heap.size V W' → Mtx W' vd n (fun i j => dmB blocks i j) → Calls Try.prog 36 #[.agg #[.slice aN n cN, .slice aP n cP], vd] W' _) := ⟨fun W' vd h hM => loopS blocks n _ hnl W' _ _ vd ⟨aN, cN, rfl⟩ ((hP.keep bb).keep h) hM hn1 hpos hpot.out hpv.out⟩
  have z0 : V.cell? ⟨W1.heap.size, 0, none⟩ = some (.slice aN n cN) := at_cells z rfl
  have z1 : V.cell? ⟨W1.heap.size, 1, none⟩ = some (.slice aP n cP) := at_cells z rfl
  clear hN hP bb z
  go_region_with (first
    | (go_at_call 26; go_fit (C2.out _ hBD); rintro e W3 ⟨v3, rfl, hM, hB3⟩; have hB33 := hBD.trans hB3; have CF := Kp.mk (C3.out W3 v3 hB33 hM); have t0 : W3.cell? ⟨W1.heap.size, 0, none⟩ = some (.slice aN n cN) := at_cells (ZK.out _ hB33) rfl; have t1 : W3.cell? ⟨W1.heap.size, 1, none⟩ = some (.slice aP n cP) := at_cells (ZK.out _ hB33) rfl)
    | (go_at_call 36; go_fit CF.out; rintro e W4 ⟨v4, rfl, hO, hB4⟩))
  all_goals
    have hB5 := bel_trans (bel_trans hB2 hB33) hB4
    have hO5 : OwnLp W4 w.heap.size v4 (lpsD blocks n) := hO.base (bel_trans hB2 hB33).size
    clear hO CF C2 C3 t0 t1 z0 z1 hM
    go_wp2_with fail
    go_ret
    exact ⟨_, rfl, hO5, hB5⟩
end Go.Proofs.Ytbfpfjkjeekbdaa
namespace Go.Proofs.Ytbfpfjkjeekbdaa
open Go.ChangeShapes Go.WideShapes Go.ChangeAt Go.RowKit
open Go.Sort (grow)
set_option linter.unusedVariables false
set_option linter.unusedSimpArgs false
theorem lpV_at : ∀ (es : List (Nat × List Int × Value)) (i : Nat) (h : i < es.length), (lpV es)[i * 2]? = some (.int .i64 es[i].1) ∧ (lpV es)[i * 2 + 1]? = some es[i].2.2
  | [], i, h => absurd h (by simp)
  | e :: r, 0, _ => ⟨rfl, rfl⟩
  | e :: r, i + 1, h => by
    have := lpV_at r i (by simpa using h)
    rw [show (i + 1) * 2 = i * 2 + 1 + 1 by omega]
    exact this
/-- A row of loops that is read. -/
structure Lps (w : World) (v : Value) (ls : List (Nat × List Int)) : Prop where
  ex : ∃ b o, Sl v ls.length b o ∧ ∀ i (h : i < ls.length), ∃ u, At w b (o + i * 2) (.int .i64 ls[i].1) ∧ At w b (o + i * 2 + 1) u ∧ Ints 0 .i64 w u ls[i].2
theorem OwnLp.lps {w : World} {base : Nat} {v : Value} {ls : List (Nat × List Int)} (h : OwnLp w base v ls) (hn : ls.length ≤ 1048576) (hl : ∀ p ∈ ls, p.2.length ≤ 1048576) : Lps w v ls := by
  obtain ⟨es, rfl, h2, h3, -⟩ := h.ex
  rw [List.length_map] at hn
  rcases h2.2 with ⟨rfl, e⟩ | ⟨g, cap, cur, rfl, hb, hg, h1, -, hs, h4⟩
  · exact ⟨0, 0, ⟨⟨none, 0, by simp [e], by simp [e], fun h => absurd h (by simp [e])⟩, by simp [e]⟩, fun i hi => absurd hi (by simp [e])⟩
  · refine ⟨g, 0, ⟨⟨_, cap, by rw [List.length_map], by simpa using h1, fun _ => rfl⟩, by rw [List.length_map]; omega⟩, fun i hi => ?_⟩
    rw [List.length_map] at hi
    obtain ⟨q1, q2⟩ := lpV_at es i hi
    rw [← h4, List.getElem?_take, if_pos (by omega)] at q1 q2
    refine ⟨es[i].2.2, ?_, ?_, ?_⟩
    · rw [List.getElem_map]
      exact at_cells hg (by rw [Nat.zero_add]; simpa using q1)
    · exact at_cells hg (by rw [Nat.zero_add]; simpa using q2)
    · rw [List.getElem_map]
      have hm := h3 _ (List.getElem_mem hi)
      have := hl _ (List.mem_map.2 ⟨es[i], List.getElem_mem hi, rfl⟩)
      exact (hm.ints this).mono (Nat.zero_le _) (fun _ _ _ _ q => q)
set_option maxRecDepth 100000 in
set_option maxHeartbeats 2000000 in
theorem eqLp1 (h : Int) (L : List Int) (u1 u2 : Value) (w : World) {l1 l2 : Nat} (k1 : Ints l1 .i64 w u1 L) (k2 : Ints l2 .i64 w u2 L) (hn : L.length ≤ 1048576) :
    Calls Try.prog 41 #[.agg #[.int .i64 h, u1], .agg #[.int .i64 h, u2]] w fun e w' => e = .returned (.bool true) ∧ Below w.heap.size w w' := by
  have CE : Kp (∀ W, Below w.heap.size w W → Calls Try.prog 10 #[u1, u2] W fun e w' => e = .returned (.bool true) ∧ Below W.heap.size W w') := ⟨fun W hW => eqInts u1 u2 L W (k1.keep hW) (k2.keep hW) hn⟩
  obtain ⟨a1, c1, rfl⟩ := k1.shape2
  obtain ⟨a2, c2, rfl⟩ := k2.shape2
  have b1 := bel_trans (bel_alloc w (Go.Obj.cells #[.int .i64 h, .slice a1 L.length c1] 71)) (bel_alloc _ (Go.Obj.cells #[.int .i64 h, .slice a2 L.length c2] 71))
  have x1 := keep_cells (new_cells w (Go.Obj.cells #[.int .i64 h, .slice a1 L.length c1] 71)) (bel_alloc _ (Go.Obj.cells #[.int .i64 h, .slice a2 L.length c2] 71))
  have x2 := new_cells (w.alloc (Go.Obj.cells #[.int .i64 h, .slice a1 L.length c1] 71)) (Go.Obj.cells #[.int .i64 h, .slice a2 L.length c2] 71)
  rw [World.size_alloc] at x2
  have hcmp : (h == h) = true := by simp
  clear k1 k2
  go_enter Try.func41, Try.ntmps41
  go_upto_region 1 with fail
  generalize (w.alloc (Go.Obj.cells #[.int .i64 h, .slice a1 L.length c1] 71)).alloc (Go.Obj.cells #[.int .i64 h, .slice a2 L.length c2] 71) = V at *
  have z0 := at_cells x1 (j := 0) rfl
  have z1 := at_cells x1 (j := 1) rfl
  have y0 := at_cells x2 (j := 0) rfl
  have y1 := at_cells x2 (j := 1) rfl
  have C := Kp.mk (CE.out V b1)
  clear x1 x2 CE
  go_wp2_with fail
  refine C.out.mono ?_
  rintro e w1 ⟨rfl, hb⟩
  go_wp2_with fail
  go_ret
  exact ⟨rfl, bel_trans b1 hb⟩
set_option maxRecDepth 100000 in
set_option maxHeartbeats 4000000 in
theorem eqLps (v u : Value) (ls : List (Nat × List Int)) (w : World) (h : Lps w v ls) (k : Lps w u ls) (hn : ls.length ≤ 1048576) (hl : ∀ p ∈ ls, p.2.length ≤ 1048576) :
    Calls Try.prog 17 #[v, u] w fun e w' => e = .returned (.bool true) ∧ Below w.heap.size w w' := by
  obtain ⟨b, o, ⟨⟨a, cap, rfl, h1, h2⟩, h3⟩, hc⟩ := h.ex
  obtain ⟨b', o', ⟨⟨a', cap', rfl, h1', h2'⟩, h3'⟩, hc'⟩ := k.ex
  have g1 : (ls.length : Int) ≤ 1048576 := by omega
  have HC : Kp (∀ i (h : i < ls.length), ∃ u1 u2, At w b (o + i * 2) (.int .i64 ls[i].1) ∧ At w b (o + i * 2 + 1) u1 ∧ At w b' (o' + i * 2) (.int .i64 ls[i].1) ∧ At w b' (o' + i * 2 + 1) u2 ∧ Ints 0 .i64 w u1 ls[i].2 ∧ Ints 0 .i64 w u2 ls[i].2 ∧ ls[i].2.length ≤ 1048576) := ⟨fun i h => by
    obtain ⟨u1, q1, q2, q3⟩ := hc i h
    obtain ⟨u2, r1, r2, r3⟩ := hc' i h
    exact ⟨u1, u2, q1, q2, r1, r2, q3, r3, hl _ (List.getElem_mem h)⟩⟩
  have H2 : Kp (0 < ls.length → a = some ⟨b, o, none⟩ ∧ a' = some ⟨b', o', none⟩) := ⟨fun q => ⟨h2 q, h2' q⟩⟩
  clear hc hc' h k h2 h2'
  go_enter Try.func17, Try.ntmps17
  go_wp2_with fail
  go_loopw [5] (fun s wr => ∃ i : Nat, i ≤ ls.length ∧ s = .int .i64 i ∧ Below w.heap.size w wr) (fun s _ => ls.length - (intOf s).toNat)
  case atStart => exact ⟨0, Nat.zero_le _, rfl, Below.refl _ _⟩
  case round =>
    obtain ⟨i, hi, rfl, hB⟩ := hrel
    by_cases hlt : i < ls.length
    · obtain ⟨rfl, rfl⟩ := H2.out (by omega)
      obtain ⟨u1, u2, c0, c1, d0, d1, e1, e2, e3⟩ := HC.out i hlt
      replace c0 := at_keep c0 hB
      replace c1 := at_keep c1 hB
      replace d0 := at_keep d0 hB
      replace d1 := at_keep d1 hB
      generalize ls[i] = q at c0 c1 d0 d1 e1 e2 e3
      obtain ⟨q1, q2⟩ := q
      dsimp only at c0 c1 d0 d1 e1 e2 e3
      have C := Kp.mk (fun dq osq => Calls.regrown_of (eqLp1 q1 q2 u1 u2 (grow (redrawn wr dq) osq) (e1.keep (bel_trans hB (below_regrown wr dq osq))) (e2.keep (bel_trans hB (below_regrown wr dq osq))) e3))
      obtain ⟨a1, n1, rfl⟩ := e1.shape2
      obtain ⟨a2, n2, rfl⟩ := e2.shape2
      clear e1 e2
      go_upto_region 6 with fail
      have k0 := cell_regrown c0
      have k1 := cell_regrown c1
      have m0 := cell_regrown d0
      have m1 := cell_regrown d1
      refine wp_region_quiet_below (by kernel_rfl) (by kernel_rfl) ?_
      repeat (quiet_step (fail))
      quiet_step (exact C.out _ _)
      repeat (quiet_step (fail))
      refine wpQuiet_nil ?_
      intro _ hw'
      obtain ⟨⟨dq, osq⟩, hw''⟩ := hw'
      subst hw''
      have hB2 := bel_trans hB (below_regrown wr dq osq)
      clear k0 k1 m0 m1 c0 c1 d0 d1 C
      generalize grow (redrawn wr dq) osq = V at *
      go_wp2_with fail
      exact ⟨⟨i + 1, by omega, by go_num, hB2⟩, by simp [intOf]; omega⟩
    · go_wp2_with fail
      go_ret
      exact ⟨rfl, hB⟩
/-- The number behind the marks of the first i loops. -/
def mkN (ls : List (Nat × List Int)) (k : Int) : Nat → Int
  | 0 => k
  | i + 1 => mkN ls k i + 1 + ((ls[i]?.map (fun p => (p.2.length : Int))).getD 0)
end Go.Proofs.Ytbfpfjkjeekbdaa
namespace Go.Proofs.Ytbfpfjkjeekbdaa
open Go.ChangeShapes Go.WideShapes Go.ChangeAt Go.RowKit
set_option linter.unusedVariables false
set_option linter.unusedSimpArgs false
theorem mkN_succ {ls : List (Nat × List Int)} {k : Int} {i : Nat} (h : i < ls.length) : mkN ls k (i + 1) = mkN ls k i + 1 + (ls[i].2.length : Int) := by
  simp [mkN, h]
/-- A row of loops as the marks left it. -/
structure Mks (w : World) (v : Value) (ls : List (Nat × List Int)) (k : Int) : Prop where
  ex : ∃ b o, Sl v ls.length b o ∧ ∀ i (h : i < ls.length), At w b (o + i * 2) (.int .i64 (mkN ls k i)) ∧ ∃ u bi oi, At w b (o + i * 2 + 1) u ∧ Sl u ls[i].2.length bi oi ∧ ∀ q, q < ls[i].2.length → At w bi (oi + q) (.int .i64 (mkN ls k i + 1 + q))
set_option maxRecDepth 100000 in
set_option maxHeartbeats 4000000 in
theorem heldLps (v : Value) (ls : List (Nat × List Int)) (k : Int) (w : World) (h : Mks w v ls k) (hn : ls.length ≤ 1048576) (hl : ∀ p ∈ ls, p.2.length ≤ 1048576) (hk : ∀ i, i < ls.length → 0 ≤ mkN ls k i ∧ mkN ls k i + 1 ≤ 1099511627776) (hk0 : 0 ≤ k ∧ k ≤ 1099511627776) :
    Calls Try.prog 19 #[v, .int .i64 k] w fun e w' => e = .returned (.int .i64 (mkN ls k ls.length)) ∧ Below w.heap.size w w' := by
  obtain ⟨b, o, ⟨⟨a, cap, rfl, h1, h2⟩, h3⟩, hc⟩ := h.ex
  have g1 : (ls.length : Int) ≤ 1048576 := by omega
  have HC : Kp (∀ i (h : i < ls.length), mkN ls k (i + 1) = mkN ls k i + 1 + (ls[i].2.length : Int) ∧ ls[i].2.length ≤ 1048576 ∧ At w b (o + i * 2) (.int .i64 (mkN ls k i)) ∧ ∃ u bi oi, At w b (o + i * 2 + 1) u ∧ Sl u ls[i].2.length bi oi ∧ ∀ q, q < ls[i].2.length → At w bi (oi + q) (.int .i64 (mkN ls k i + 1 + q))) := ⟨fun i h => ⟨mkN_succ h, hl _ (List.getElem_mem h), hc i h⟩⟩
  replace h2 := Kp.mk h2
  replace hk := Kp.mk hk
  clear hc h
  obtain ⟨hk0, hk1⟩ := hk0
  have hz : Kp (mkN ls k 0 = k) := ⟨rfl⟩
  go_enter Try.func19, Try.ntmps19
  go_wp2_with fail
  go_loopw [1, 5] (fun r s wr => ∃ i : Nat, i ≤ ls.length ∧ s = .int .i64 i ∧ r = .int .i64 (mkN ls k i) ∧ Below w.heap.size w wr) (fun _ s _ => ls.length - (intOf s).toNat)
  case atStart => exact ⟨0, Nat.zero_le _, rfl, rfl, Below.refl _ _⟩
  case round =>
    obtain ⟨i, hi, rfl, rfl, hB⟩ := hrel
    by_cases hlt : i < ls.length
    · obtain rfl := h2.out (by omega)
      obtain ⟨hs, hln, c0, u, bi, oi, c1, hS, hcs⟩ := HC.out i hlt
      obtain ⟨k0, k1⟩ := hk.out i hlt
      replace c0 := at_keep c0 hB
      replace c1 := at_keep c1 hB
      replace hs := Kp.mk hs
      generalize mkN ls k i = x at *
      generalize ls[i].2.length = m at *
      have C := Kp.mk (heldInts u m bi oi (x + 1) wr hS (fun q hq => at_keep (hcs q hq) hB) hln (by omega) k1)
      have hcmp : (x == x) = true := by simp
      obtain ⟨⟨ua, uc, rfl, -, -⟩, -⟩ := hS
      clear hcs
      go_wp2_with fail
      refine C.out.mono ?_
      rintro e w1 ⟨rfl, hb⟩
      have hB1 := bel_trans hB hb
      have hneg : ¬ (x + 1 + (m : Int)) < 0 := by omega
      clear C c0 c1 hB hb
      go_wp2_with fail
      exact ⟨⟨i + 1, by omega, by go_num, by rw [hs.out], hB1⟩, by simp [intOf]; omega⟩
    · obtain rfl : i = ls.length := by omega
      go_wp2_with fail
      go_ret
      exact ⟨rfl, hB⟩
end Go.Proofs.Ytbfpfjkjeekbdaa
namespace Go.Proofs.Ytbfpfjkjeekbdaa
open Go.ChangeShapes Go.WideShapes Go.ChangeAt Go.RowKit
set_option linter.unusedVariables false
set_option linter.unusedSimpArgs false
/-- A row of loops that may be marked: its own block B, a block of its own for each loop's blocks. -/
structure Mkb (w : World) (base n B c : Nat) (ln β : Nat → Nat) (U : Nat → Value) : Prop where
  rw : 0 < n → Rw w B (c * 2)
  odd : ∀ j, j < n → At w B (j * 2 + 1) (U j)
  row : ∀ j, j < n → Own64 w (U j) (ln j) (β j) 0
  nb : ∀ j, j < n → β j ≠ B ∧ base ≤ β j
  nn : ∀ j, j < n → ∀ i, i < n → i ≠ j → β i ≠ β j
theorem OwnLp.mkb {w : World} {base : Nat} {v : Value} {ls : List (Nat × List Int)} (h : OwnLp w base v ls) (hl : ∀ p ∈ ls, 0 < p.2.length ∧ p.2.length ≤ 1048576) :
    ∃ B a c β U, v = .slice a ls.length c ∧ ls.length ≤ c ∧ (0 < ls.length → a = some ⟨B, 0, none⟩) ∧ base ≤ B ∧ Mkb w base ls.length B c (fun j => ((ls[j]?.map (fun p => p.2.length)).getD 0)) β U := by
  obtain ⟨es, rfl, h2, h3, h4⟩ := h.ex
  rcases h2.2 with ⟨rfl, e⟩ | ⟨g, cap, cur, rfl, hb, hg, h1, hm, hs, ht⟩
  · have : es = [] := List.length_eq_zero_iff.1 e
    subst this
    exact ⟨base, none, 0, fun _ => 0, fun _ => undef, rfl, Nat.le_refl _, fun q => absurd q (by simp), Nat.le_refl _, ⟨fun q => absurd q (by simp), fun j hj => absurd hj (by simp), fun j hj => absurd hj (by simp), fun j hj => absurd hj (by simp), fun j hj => absurd hj (by simp)⟩⟩
  · have hB : ∀ j (hj : j < es.length), ∃ b, Own64 w es[j].2.2 es[j].2.1.length b 0 ∧ base ≤ b ∧ es[j].2.2.ownBlock = some b := fun j hj => by
      obtain ⟨l1, l2⟩ := hl _ (List.mem_map.2 ⟨es[j], List.getElem_mem hj, rfl⟩)
      obtain ⟨b, q1, q2⟩ := (h3 _ (List.getElem_mem hj)).own l2 l1
      refine ⟨b, q1, q2, ?_⟩
      obtain ⟨⟨⟨a, c, e1, -, e2⟩, -⟩, -⟩ := q1
      rw [e1, e2 l1]
      rfl
    refine ⟨g, _, cap, fun j => ((es[j]?.bind (fun e => e.2.2.ownBlock)).getD 0), fun j => ((es[j]?.map (fun e => e.2.2)).getD undef), by rw [List.length_map], by rw [List.length_map]; exact h1, fun _ => rfl, hb, ⟨fun _ => ⟨71, fun j => cur.getD j undef, cur, hg, hs, fun i hi => by simp [Array.getD, show i < cur.size by omega]⟩, fun j hj => ?_, fun j hj => ?_, fun j hj => ?_, fun j hj i hi hne => ?_⟩⟩
    all_goals rw [List.length_map] at hj
    · obtain ⟨-, q2⟩ := lpV_at es j hj
      rw [← ht, List.getElem?_take, if_pos (by omega)] at q2
      have : (es[j]?.map (fun e => e.2.2)).getD undef = es[j].2.2 := by simp [hj]
      rw [this]
      exact at_cells hg (by simpa using q2)
    · obtain ⟨b, q1, q2, q3⟩ := hB j hj
      simpa [hj, q3] using q1
    · obtain ⟨b, q1, q2, q3⟩ := hB j hj
      have e : (es[j]?.bind (fun e => e.2.2.ownBlock)).getD 0 = b := by simp [hj, q3]
      try dsimp only
      rw [e]
      refine ⟨fun q => ?_, q2⟩
      subst q
      exact own_ne (h3 _ (List.getElem_mem hj)).r hg (by decide) q3.symm
    · rw [List.length_map] at hi
      obtain ⟨b, -, -, q3⟩ := hB j hj
      obtain ⟨b', -, -, q3'⟩ := hB i hi
      have e : (es[j]?.bind (fun e => e.2.2.ownBlock)).getD 0 = b := by simp [hj, q3]
      have e' : (es[i]?.bind (fun e => e.2.2.ownBlock)).getD 0 = b' := by simp [hi, q3']
      try dsimp only
      rw [e, e']
      have hp := List.pairwise_iff_getElem.1 h4
      rcases Nat.lt_or_gt_of_ne hne with q | q
      · rcases hp i j hi hj q with r | r
        · rw [q3] at r; cases r
        · intro x; rw [q3, q3', x] at r; exact r rfl
      · rcases hp j i hj hi q with r | r
        · rw [q3'] at r; cases r
        · intro x; rw [q3, q3', x] at r; exact r rfl
set_option maxRecDepth 100000 in
set_option maxHeartbeats 4000000 in
theorem markLps (v : Value) (ls : List (Nat × List Int)) (base : Nat) (k : Int) (w : World) (h : OwnLp w base v ls) (hn : ls.length ≤ 1048576) (hl : ∀ p ∈ ls, 0 < p.2.length ∧ p.2.length ≤ 1048576) (hk : ∀ i, i < ls.length → 0 ≤ mkN ls k i ∧ mkN ls k i + 1 ≤ 1099511627776) (hk0 : 0 ≤ k ∧ k ≤ 1099511627776) :
    Calls Try.prog 18 #[v, .int .i64 k] w fun e w' => e = .returned (.int .i64 (mkN ls k ls.length)) ∧ Below base w w' ∧ Mks w' v ls k := by
  obtain ⟨B, a, c, β, U, rfl, h1, h2, hb, hM⟩ := h.mkb hl
  have g1 : (ls.length : Int) ≤ 1048576 := by omega
  obtain ⟨L, hL, hM⟩ : ∃ L : Nat → Nat, Kp (∀ j (h : j < ls.length), L j = ls[j].2.length) ∧ Mkb w base ls.length B c L β U := ⟨_, ⟨fun j h => by simp [h]⟩, hM⟩
  have HC : Kp (∀ i (h : i < ls.length), mkN ls k (i + 1) = mkN ls k i + 1 + (L i : Int) ∧ L i ≤ 1048576) := ⟨fun i h => ⟨by rw [hL.out i h]; exact mkN_succ h, by rw [hL.out i h]; exact (hl _ (List.getElem_mem h)).2⟩⟩
  have hend : Kp (∀ wr, Mkb wr base ls.length B c L β U → (∀ j, j < ls.length → At wr B (j * 2) (.int .i64 (mkN ls k j)) ∧ ∀ q, q < L j → At wr (β j) q (.int .i64 (mkN ls k j + 1 + q))) → Mks wr (.slice a ls.length c) ls k) := ⟨fun wr hm hd => ⟨B, 0, ⟨⟨_, _, rfl, h1, h2⟩, by omega⟩, fun i hi => ⟨by rw [Nat.zero_add]; exact (hd i hi).1, U i, β i, 0, by rw [Nat.zero_add]; exact hm.odd i hi, by rw [← hL.out i hi]; exact (hm.row i hi).s, fun q hq => by rw [Nat.zero_add]; exact (hd i hi).2 q (by rw [hL.out i hi]; exact hq)⟩⟩⟩
  clear hl h hL
  generalize ls.length = n at *
  obtain ⟨hk0, hk1⟩ := hk0
  replace h2 := Kp.mk h2
  replace hk := Kp.mk hk
  have hM0 := Kp.mk hM
  have hz : mkN ls k 0 = k := rfl
  go_enter Try.func18, Try.ntmps18
  go_wp2_with fail
  go_loopw [1, 5] (fun r s wr => ∃ i : Nat, i ≤ n ∧ s = .int .i64 i ∧ r = .int .i64 (mkN ls k i) ∧ Kp (Mkb wr base n B c L β U) ∧ Kp (∀ j, j < i → At wr B (j * 2) (.int .i64 (mkN ls k j)) ∧ ∀ q, q < L j → At wr (β j) q (.int .i64 (mkN ls k j + 1 + q))) ∧ Below base w wr) (fun _ s _ => n - (intOf s).toNat)
  case atStart => exact ⟨0, Nat.zero_le _, rfl, rfl, hM0, ⟨fun j hj => absurd hj (Nat.not_lt_zero _)⟩, Below.refl _ _⟩
  case round =>
    clear hM hM0
    obtain ⟨i, hi, rfl, rfl, hm, hd, hB⟩ := hrel
    by_cases hlt : i < n
    · obtain rfl := h2.out (by omega)
      obtain ⟨hs, hln⟩ := HC.out i hlt
      obtain ⟨k0, k1⟩ := hk.out i hlt
      have hRw := hm.out.rw (by omega)
      obtain ⟨z0, cz0, fz0⟩ := hRw.at (j := i * 2) (by omega)
      have hx : Kp (mkN ls k i = mkN ls k i) := ⟨rfl⟩
      obtain ⟨x, hxe⟩ : ∃ x, Kp (mkN ls k i = x) := ⟨_, ⟨rfl⟩⟩
      rw [hxe.out] at hs k0 k1 ⊢
      clear hx
      have hW1 : Kp (Mkb (wr.setCell ⟨B, i * 2, none⟩ (.int .i64 x)) base n B c L β U) := ⟨⟨fun q => (hm.out.rw q).sets _ _ _, fun j hj => set_other (hm.out.odd j hj) (.inr (by omega)), fun j hj => by
        obtain ⟨q1, m, q2, q3⟩ := hm.out.row j hj
        exact ⟨q1, m, q2.sets _ _ _, q3⟩, hm.out.nb, hm.out.nn⟩⟩
      have hx1 : Kp (At (wr.setCell ⟨B, i * 2, none⟩ (.int .i64 x)) B (i * 2) (.int .i64 x)) := ⟨set_same hRw (by omega) _⟩
      have hd1 : Kp (∀ j, j < i → At (wr.setCell ⟨B, i * 2, none⟩ (.int .i64 x)) B (j * 2) (.int .i64 (mkN ls k j)) ∧ ∀ q, q < L j → At (wr.setCell ⟨B, i * 2, none⟩ (.int .i64 x)) (β j) q (.int .i64 (mkN ls k j + 1 + q))) := ⟨fun j hj => ⟨set_other (hd.out j hj).1 (.inr (by omega)), fun q hq => set_other ((hd.out j hj).2 q hq) (.inl (hm.out.nb j (by omega)).1)⟩⟩
      have hB1 : Kp (Below base w (wr.setCell ⟨B, i * 2, none⟩ (.int .i64 x))) := ⟨bel_set hB hb _⟩
      have c1 := hW1.out.odd i hlt
      have C := markInts (U i) (L i) (β i) 0 (x + 1) _ (hW1.out.row i hlt) hln (by omega) k1
      obtain ⟨⟨⟨ua, uc, hu, -, -⟩, -⟩, -⟩ := hW1.out.row i hlt
      rw [hu] at c1 C
      replace C := Kp.mk C
      replace hs := Kp.mk hs
      clear hm hd hB
      go_wp2_with fail
      refine C.out.mono ?_
      rintro e w2 ⟨rfl, -, m1, m2, m3, m4⟩
      obtain ⟨n1, n2⟩ := hW1.out.nb i hlt
      have hM2 : Kp (Mkb w2 base n B c L β U) := ⟨⟨fun q => m3 _ _ (hW1.out.rw q), fun j hj => m2 _ _ _ (Ne.symm n1) (hW1.out.odd j hj), fun j hj => by
        obtain ⟨q1, m, q2, q3⟩ := hW1.out.row j hj
        exact ⟨q1, m, m3 _ _ q2, q3⟩, hW1.out.nb, hW1.out.nn⟩⟩
      have hd2 : Kp (∀ j, j < i + 1 → At w2 B (j * 2) (.int .i64 (mkN ls k j)) ∧ ∀ q, q < L j → At w2 (β j) q (.int .i64 (mkN ls k j + 1 + q))) := ⟨fun j hj => by
        by_cases e : j = i
        · subst e
          rw [hxe.out]
          exact ⟨m2 _ _ _ (Ne.symm n1) hx1.out, fun q hq => by have := m1 q hq; rwa [Nat.zero_add] at this⟩
        · exact ⟨m2 _ _ _ (Ne.symm n1) (hd1.out j (by omega)).1, fun q hq => m2 _ _ _ (hW1.out.nn i hlt j (by omega) e) ((hd1.out j (by omega)).2 q hq)⟩⟩
      have hB2 : Below base w w2 := hB1.out.trans (m4 base n2)
      clear C m1 m2 m3 m4 hW1 hx1 hd1 hB1 c1 cz0 fz0 hRw
      go_wp2_with fail
      exact ⟨⟨i + 1, by omega, by go_num, by rw [hs.out], hM2, hd2, hB2⟩, by simp [intOf]; omega⟩
    · obtain rfl : i = n := by omega
      have hfin := Kp.mk (hend.out wr hm.out hd.out)
      go_wp2_with fail
      go_ret
      exact ⟨rfl, hB, hfin.out⟩
end Go.Proofs.Ytbfpfjkjeekbdaa
namespace Go.Proofs.Ytbfpfjkjeekbdaa
open Go.ChangeShapes Go.WideShapes Go.ChangeAt Go.RowKit
set_option linter.unusedVariables false
set_option linter.unusedSimpArgs false
theorem OwnI.mkd {w w' : World} {lo E base : Nat} {v : Value} {xs : List Int} (h : OwnI w base v xs) (m : Mk lo E w w') (hb : E ≤ base) : OwnI w' base v xs := by
  refine ⟨h.r.1, ?_⟩
  rcases h.r.2 with h0 | ⟨g, cap, cur, rfl, hb1, hg, rest⟩
  · exact .inl h0
  · exact .inr ⟨g, cap, cur, rfl, hb1, (m.hi g (by omega)).trans hg, rest⟩
/-- The copied function, marked: what lies ahead of it is as it was, and so is what a later call owns. -/
structure Mkd (lo E : Nat) (w w' : World) : Prop where
  bel : Below lo w w'
  own : ∀ base v xs, OwnI w base v xs → E ≤ base → base ≤ w.heap.size → OwnI w' base v xs
theorem mkd_of {lo E : Nat} {w W w' : World} (h : Below w.heap.size w W) (m : Mk lo E W w') (hl : lo ≤ w.heap.size) : Mkd lo E w w' :=
  ⟨(h.mono hl).trans m.bel, fun base v xs o hb _ => (o.keep h).mkd m hb⟩
end Go.Proofs.Ytbfpfjkjeekbdaa
namespace Go.Proofs.Ytbfpfjkjeekbdaa
open Go.ChangeShapes Go.WideShapes Go.ChangeAt Go.RowKit
set_option linter.unusedVariables false
set_option linter.unusedSimpArgs false
theorem OwnLp.mkd {w w' : World} {lo E base : Nat} {v : Value} {ls : List (Nat × List Int)} (h : OwnLp w base v ls) (m : Mk lo E w w') (hb : E ≤ base) : OwnLp w' base v ls := by
  obtain ⟨es, h1, h2, h3, h4⟩ := h.ex
  refine ⟨es, h1, ⟨h2.1, ?_⟩, fun e he => (h3 e he).mkd m hb, h4⟩
  rcases h2.2 with h0 | ⟨g, cap, cur, rfl, hb1, hg, rest⟩
  · exact .inl h0
  · exact .inr ⟨g, cap, cur, rfl, hb1, (m.hi g (by omega)).trans hg, rest⟩
theorem Mks.keep {w w' : World} {v : Value} {ls : List (Nat × List Int)} {k : Int} (h : Mks w v ls k) (hb : Below w.heap.size w w') : Mks w' v ls k := by
  obtain ⟨b, o, s, hc⟩ := h.ex
  refine ⟨b, o, s, fun i hi => ?_⟩
  obtain ⟨c0, u, bi, oi, c1, s1, c2⟩ := hc i hi
  exact ⟨at_keep c0 hb, u, bi, oi, at_keep c1 hb, s1, fun q hq => at_keep (c2 q hq) hb⟩
theorem lpsD_mem {bls : List (List InD)} {p : Nat × List Int} : ∀ n : Nat, p ∈ lpsD bls n → ∃ h, h < n ∧ tlL bls h ≠ [] ∧ p = (h, lpL bls h)
  | 0, h => by cases h
  | n + 1, h => by
    unfold lpsD at h
    rcases List.mem_append.1 h with q | q
    · obtain ⟨h, h1, h2⟩ := lpsD_mem n q
      exact ⟨h, by omega, h2⟩
    · split at q
      · cases q
      · rename_i hne
        exact ⟨n, by omega, hne, List.mem_singleton.1 q⟩
theorem lpL_len (bls : List (List InD)) (h : Nat) : (lpL bls h).length ≤ bls.length := by
  have := List.length_filter_le (fun i : Nat => inB bls h (i : Int)) (List.range bls.length)
  unfold lpL
  rw [List.length_map]
  simpa using this
theorem mkN_le {ls : List (Nat × List Int)} (hl : ∀ p ∈ ls, p.2.length ≤ 1048575) {k : Int} (hk : 0 ≤ k) : ∀ i : Nat, 0 ≤ mkN ls k i ∧ mkN ls k i ≤ k + i * 1048576
  | 0 => ⟨hk, by simp [mkN]⟩
  | i + 1 => by
    obtain ⟨h1, h2⟩ := mkN_le hl hk i
    by_cases h : i < ls.length
    · rw [mkN_succ h]
      have := hl _ (List.getElem_mem h)
      omega
    · have e : mkN ls k (i + 1) = mkN ls k i + 1 + 0 := by simp [mkN, h]
      rw [e]
      omega
/-- What the law wants to know of the loops. -/
theorem lps_small (bls : List (List InD)) (hn : (bls.length : Int) + blsN bls ≤ 1048576) : (lpsD bls bls.length).length ≤ 1048576 ∧ (∀ p ∈ lpsD bls bls.length, 0 < p.2.length ∧ p.2.length ≤ 1048576) ∧ (∀ i, i < (lpsD bls bls.length).length → 0 ≤ mkN (lpsD bls bls.length) 1 i ∧ mkN (lpsD bls bls.length) 1 i + 1 ≤ 1099511627776) ∧ 0 ≤ mkN (lpsD bls bls.length) 1 (lpsD bls bls.length).length := by
  have nn := blsN_nn bls
  have h1 := lpsD_len bls bls.length
  have hp : ∀ p ∈ lpsD bls bls.length, 0 < p.2.length ∧ p.2.length ≤ 1048575 := fun p hp => by
    obtain ⟨h, hh, ht, rfl⟩ := lpsD_mem _ hp
    have h2 := lpL_len bls h
    have h3 : (h : Int) ∈ lpL bls h := (lpL_mem hh).2 (.inl rfl)
    have h4 := List.length_pos_of_mem h3
    have h5 := List.length_pos_iff.2 ht
    have h6 := tlL_len bls h
    have h7 := prevs_len bls bls.length h
    have h8 := nxtN_le bls bls.length (Nat.le_refl _)
    exact ⟨h4, by show (lpL bls h).length ≤ _; omega⟩
  have hm := fun i => mkN_le (k := 1) (fun p q => (hp p q).2) (by decide) i
  refine ⟨by omega, fun p q => ⟨(hp p q).1, by have := (hp p q).2; omega⟩, fun i hi => ⟨(hm i).1, ?_⟩, (hm _).1⟩
  have h2 := (hm i).2
  have h3 : (lpsD bls bls.length).length ≤ 1048575 := by
    obtain ⟨p, hp'⟩ := List.exists_mem_of_length_pos (l := lpsD bls bls.length) (by omega)
    obtain ⟨h, hh, ht, rfl⟩ := lpsD_mem _ hp'
    have h5 := List.length_pos_iff.2 ht
    have h6 := tlL_len bls h
    have h7 := prevs_len bls bls.length h
    have h8 := nxtN_le bls bls.length (Nat.le_refl _)
    omega
  omega
set_option maxRecDepth 100000 in
set_option maxHeartbeats 8000000 in
theorem loops_law (d : FnD) (vp vb : Value) (W : World) {lo : Nat} (h : FnAt lo W d vp vb) :
    Calls Try.prog 4 #[fnV d vp vb] W fun e w' => e = .returned (.bool true) ∧ Below W.heap.size W w' := by
  have C1 : Kp (∀ w, FnAt lo w d vp vb → Calls Try.prog 6 _ w _) := ⟨fun w h => szFn d vp vb 1048576 w h (by decide) (by decide)⟩
  have hnm := fnN_small d
  have H := Kp.mk h
  by_cases hq : less 1048576 (fnN d) < 0
  · obtain ⟨⟨a1, c1, rfl⟩, ⟨a2, c2, rfl⟩⟩ := h.shapes
    clear h hnm
    generalize less 1048576 (fnN d) = r at *
    go_enter Try.func4, Try.ntmps4
    go_wp2_with fail
    refine (C1.out _ (H.out.keep (bel_alloc _ _))).mono ?_
    rintro e w1 ⟨rfl, hb1⟩
    go_wp2_with fail
    go_ret
    exact ⟨rfl, bel_trans (bel_alloc _ _) hb1⟩
  have hn := hnm (by omega)
  have C2 : Kp (∀ w, FnAt lo w d vp vb → Calls Try.prog 8 _ w _) := ⟨fun w h => toFn d vp vb w h hn⟩
  have C3 : Kp (∀ w l p q, FnAt l w d p q → Calls Try.prog 15 _ w _) := ⟨fun w l p q h => lopS d p q w h hn⟩
  have C4 : Kp (∀ w l p q, FnAt l w d p q → Calls Try.prog 16 _ w _) := ⟨fun w l p q h => loopsI d p q w h hn⟩
  have C5 : Kp (∀ w l l2 p q p2 q2, FnAt l w d p q → FnAt l2 w d p2 q2 → Calls Try.prog 11 _ w _) := ⟨fun w l l2 p q p2 q2 h k => eqFn d p q p2 q2 w h k hn⟩
  have C6 : Kp (∀ w lo E p q, FnS lo E w d p q → UnfE lo E w → E ≤ w.heap.size → lo ≤ w.heap.size → Calls Try.prog 12 #[fnV d p q, .int .i64 1] w fun e w' => ∃ r, e = .returned (.int .i64 r) ∧ 1 ≤ r ∧ r ≤ 16777216 ∧ Mkd lo E w w') := ⟨fun w lo E p q h hu hE hl => by
    refine (mkFn lo E d p q 1 w h hu hE hl hn (by decide) (by decide)).mono ?_
    rintro e w' ⟨r, W, rfl, h1, h2, hb, hm⟩
    exact ⟨r, rfl, h1, by omega, mkd_of hb hm hl⟩⟩
  obtain ⟨R, hR⟩ : ∃ R : List (Nat × List Int), R = lpsD d.blocks d.blocks.length := ⟨_, rfl⟩
  obtain ⟨hRl, hR2, hR3, hR4⟩ := lps_small d.blocks (by unfold fnN at hn; omega)
  rw [← hR] at hRl hR2 hR3 hR4
  rw [← hR] at C3 C4
  have C6L : Kp (∀ w lo E p q, FnS lo E w d p q → UnfE lo E w → E ≤ w.heap.size → lo ≤ w.heap.size → Calls Try.prog 12 #[fnV d p q, .int .i64 1] w fun e w' => ∃ r, e = .returned (.int .i64 r) ∧ 1 ≤ r ∧ r ≤ 16777216 ∧ Mkd lo E w w' ∧ Kp (∀ base v, OwnLp w base v R → E ≤ base → OwnLp w' base v R)) := ⟨fun w lo E p q h hu hE hl => by
    refine (mkFn lo E d p q 1 w h hu hE hl hn (by decide) (by decide)).mono ?_
    rintro e w' ⟨r, W, rfl, h1, h2, hb, hm⟩
    exact ⟨r, rfl, h1, by omega, mkd_of hb hm hl, ⟨fun base v hO hE => (hO.keep hb).mkd hm hE⟩⟩⟩
  obtain ⟨T, hT⟩ : ∃ T, mkN R 1 R.length = T := ⟨_, rfl⟩
  have hl5 : ∀ p ∈ R, p.2.length ≤ 1048576 := fun p q => (hR2 p q).2
  have C7 : Kp (∀ w b1 b2 v u, OwnLp w b1 v R → OwnLp w b2 u R → Calls Try.prog 17 #[v, u] w _) := ⟨fun w b1 b2 v u h k => eqLps v u R w (h.lps hRl hl5) (k.lps hRl hl5) hRl hl5⟩
  have C8 : Kp (∀ w b v, OwnLp w b v R → Calls Try.prog 18 #[v, .int .i64 1] w _) := ⟨fun w b v h => markLps v R b 1 w h hRl hR2 hR3 (by decide)⟩
  have C9 : Kp (∀ w v, Mks w v R 1 → Calls Try.prog 19 #[v, .int .i64 1] w _) := ⟨fun w v h => heldLps v R 1 w h hRl hl5 hR3 (by decide)⟩
  rw [hT] at C8 C9 hR4
  have hTn : ¬ T < 0 := by omega
  clear C6 hR2 hR3 hl5 hT
  obtain ⟨⟨a1, c1, rfl⟩, ⟨a2, c2, rfl⟩⟩ := h.shapes
  clear h hnm hn hR
  obtain ⟨name, link, params, res, blocks⟩ := d
  dsimp only [fnV] at *
  generalize less 1048576 (fnN ⟨name, link, params, res, blocks⟩) = r at *
  go_enter Try.func4, Try.ntmps4
  go_wp2_with fail
  refine (C1.out _ (H.out.keep (bel_alloc _ _))).mono ?_
  rintro e w1 ⟨rfl, hb1⟩
  have B1 := bel_trans (bel_alloc _ _) hb1
  have H1 := H.out.keep B1
  have x1 := keep_cells (new_cells W _) hb1
  have x10 : w1.cell? ⟨W.heap.size, 0, none⟩ = _ := at_cells x1 rfl
  have x11 : w1.cell? ⟨W.heap.size, 1, none⟩ = _ := at_cells x1 rfl
  have x12 : w1.cell? ⟨W.heap.size, 2, none⟩ = _ := at_cells x1 rfl
  have x13 : w1.cell? ⟨W.heap.size, 3, none⟩ = _ := at_cells x1 rfl
  have x14 : w1.cell? ⟨W.heap.size, 4, none⟩ = _ := at_cells x1 rfl
  go_wp2_with fail
  refine (C2.out _ H1).mono ?_
  rintro e w2 ⟨vp2, vb2, rfl, H2, hb2, -⟩
  have H2' := Kp.mk (C3.out _ _ _ _ H2)
  go_wp2_with fail
  refine H2'.out.mono ?_
  rintro e w3 ⟨v3, rfl, O3, hb3⟩
  have B3 := bel_trans (bel_trans B1 hb2) hb3
  have H3 := H.out.keep B3
  have x3 := keep_cells (keep_cells x1 hb2) hb3
  have x30 : w3.cell? ⟨W.heap.size, 0, none⟩ = _ := at_cells x3 rfl
  have x31 : w3.cell? ⟨W.heap.size, 1, none⟩ = _ := at_cells x3 rfl
  have x32 : w3.cell? ⟨W.heap.size, 2, none⟩ = _ := at_cells x3 rfl
  have x33 : w3.cell? ⟨W.heap.size, 3, none⟩ = _ := at_cells x3 rfl
  have x34 : w3.cell? ⟨W.heap.size, 4, none⟩ = _ := at_cells x3 rfl
  clear x10 x11 x12 x13 x14
  go_wp2_with fail
  refine (C2.out _ H3).mono ?_
  rintro e w4 ⟨vp4, vb4, rfl, H4, hb4, hU4⟩
  have F4 := H4.s
  have U4 := hU4.e
  obtain ⟨⟨a4, c4, rfl⟩, ⟨b4, d4, rfl⟩⟩ := H4.shapes
  have bb := bel_alloc w4 (Go.Obj.cells #[.string name, .int .i64 link, .slice a4 params.length c4, .int .i64 res, .slice b4 blocks.length d4] 30)
  have B4 := bel_trans (bel_trans B3 hb4) bb
  have H5 := H4.keep bb
  have H5' := Kp.mk (C4.out _ _ _ _ H5)
  have z4 := new_cells w4 (Go.Obj.cells #[.string name, .int .i64 link, .slice a4 params.length c4, .int .i64 res, .slice b4 blocks.length d4] 30)
  have x4 := keep_cells (keep_cells x3 hb4) bb
  have s4 : w3.heap.size ≤ w4.heap.size := hb4.size
  -- from w3 on nothing of w3 turns; from the box on nothing of the copy turns
  have N4 : Below w3.heap.size w3 (w4.alloc (Go.Obj.cells #[.string name, .int .i64 link, .slice a4 params.length c4, .int .i64 res, .slice b4 blocks.length d4] 30)) := bel_trans hb4 bb
  clear x30 x31 x32 x33 x34
  go_wp2_with fail
  refine H5'.out.mono ?_
  rintro e w5 ⟨v5, rfl, O5, hb5⟩
  have B5 := bel_trans B4 hb5
  have N5 := bel_trans N4 hb5
  have M5 : Below w4.heap.size w4 w5 := bel_trans bb hb5
  have x5 := keep_cells x4 hb5
  have z5 := keep_cells z4 hb5
  have H6 := H5.keep hb5
  rw [World.size_alloc] at O5
  have hs5 : w4.heap.size + 1 ≤ w5.heap.size := by have := hb5.size; simpa using this
  have E5 := Kp.mk (C7.out _ _ _ _ _ O5 (O3.keep N5))
  go_wp2_with fail
  refine E5.out.mono ?_
  rintro e w6 ⟨rfl, hb6⟩
  have B6 := bel_trans B5 hb6
  have N6 := bel_trans N5 hb6
  have M6 : Below w4.heap.size w4 w6 := bel_trans M5 hb6
  have x6 := keep_cells x5 hb6
  have z6 := keep_cells z5 hb6
  have O6 := O5.keep hb6
  have H7 := H.out.keep B6
  have H8 := H6.keep hb6
  have x60 : w6.cell? ⟨W.heap.size, 0, none⟩ = _ := at_cells x6 rfl
  have x61 : w6.cell? ⟨W.heap.size, 1, none⟩ = _ := at_cells x6 rfl
  have x62 : w6.cell? ⟨W.heap.size, 2, none⟩ = _ := at_cells x6 rfl
  have x63 : w6.cell? ⟨W.heap.size, 3, none⟩ = _ := at_cells x6 rfl
  have x64 : w6.cell? ⟨W.heap.size, 4, none⟩ = _ := at_cells x6 rfl
  have z60 : w6.cell? ⟨w4.heap.size, 0, none⟩ = _ := at_cells z6 rfl
  have z61 : w6.cell? ⟨w4.heap.size, 1, none⟩ = _ := at_cells z6 rfl
  have z62 : w6.cell? ⟨w4.heap.size, 2, none⟩ = _ := at_cells z6 rfl
  have z63 : w6.cell? ⟨w4.heap.size, 3, none⟩ = _ := at_cells z6 rfl
  have z64 : w6.cell? ⟨w4.heap.size, 4, none⟩ = _ := at_cells z6 rfl
  go_wp2_with fail
  have HK : Kp (∀ w', Below w6.heap.size w6 w' → FnAt lo w' ⟨name, link, params, res, blocks⟩ (.slice a1 params.length c1) (.slice a2 blocks.length c2)) := ⟨fun w' h => H7.keep h⟩
  obtain ⟨l4, H8⟩ : ∃ l4, FnAt l4 w6 ⟨name, link, params, res, blocks⟩ (.slice a4 params.length c4) (.slice b4 blocks.length d4) := ⟨_, H8⟩
  have HZ : Kp (∀ w', Below w6.heap.size w6 w' → FnAt l4 w' ⟨name, link, params, res, blocks⟩ (.slice a4 params.length c4) (.slice b4 blocks.length d4)) := ⟨fun w' h => H8.keep h⟩
  have ZK : Kp (∀ w', Below w6.heap.size w6 w' → w'.heap[w4.heap.size]? = _) := ⟨fun w' h => keep_cells z6 h⟩
  have hBD := (Below.refl w6.heap.size w6).drew
  go_region_with (first
    | (go_at_call 8; refine (C2.out _ (HK.out _ hBD)).mono ?_; rintro e w7 ⟨vp7, vb7, rfl, H9, hb7, -⟩; have hb77 := hBD.trans hb7; have q0 : w7.cell? ⟨w4.heap.size, 0, none⟩ = _ := at_cells (ZK.out _ hb77) rfl; have q1 : w7.cell? ⟨w4.heap.size, 1, none⟩ = _ := at_cells (ZK.out _ hb77) rfl; have q2 : w7.cell? ⟨w4.heap.size, 2, none⟩ = _ := at_cells (ZK.out _ hb77) rfl; have q3 : w7.cell? ⟨w4.heap.size, 3, none⟩ = _ := at_cells (ZK.out _ hb77) rfl; have q4 : w7.cell? ⟨w4.heap.size, 4, none⟩ = _ := at_cells (ZK.out _ hb77) rfl)
    | (go_at_call 11; refine (C5.out _ _ _ _ _ _ _ (HZ.out _ hb77) H9).mono ?_; rintro e w8 ⟨rfl, hb8⟩))
  all_goals
    have B8 := bel_trans (bel_trans B6 hb77) hb8
    have N8 := bel_trans (bel_trans N6 hb77) hb8
    have M8 := bel_trans (bel_trans M6 hb77) hb8
    have O8 := (O6.keep hb77).keep hb8
    have z8 := keep_cells (ZK.out _ hb77) hb8
    have x8 := keep_cells (keep_cells x6 hb77) hb8
    have F8 := F4.keep M8
    have U8 := U4.keep M8
    have s8 : w4.heap.size + 1 ≤ w8.heap.size := by have := hb6.size; have := hb77.size; have := hb8.size; omega
    have z80 : w8.cell? ⟨w4.heap.size, 0, none⟩ = _ := at_cells z8 rfl
    have z81 : w8.cell? ⟨w4.heap.size, 1, none⟩ = _ := at_cells z8 rfl
    have z82 : w8.cell? ⟨w4.heap.size, 2, none⟩ = _ := at_cells z8 rfl
    have z83 : w8.cell? ⟨w4.heap.size, 3, none⟩ = _ := at_cells z8 rfl
    have z84 : w8.cell? ⟨w4.heap.size, 4, none⟩ = _ := at_cells z8 rfl
    have G8 := Kp.mk (C6L.out w8 _ _ _ _ F8 U8 (by omega) (by omega))
    clear q0 q1 q2 q3 q4 x60 x61 x62 x63 x64 z60 z61 z62 z63 z64 HK HZ ZK hb6 H9 H8 x4 x5 x6 z4 z5 z6 O6 H7 H4 H5 H5' E5 hBD
    go_wp2_with fail
    refine G8.out.mono ?_
    rintro e w9 ⟨r9, rfl, r90, r91, K9, KL⟩
    have B9 := B8.trans (K9.bel.mono (by have := B3.size; omega))
    have N9 := N8.trans K9.bel
    have O9 := KL.out _ _ O8 (by omega)
    have x9 : w9.heap[W.heap.size]? = _ := (K9.bel.block W.heap.size (by have := (Array.getElem?_eq_some_iff.1 x3).1; omega)).trans x8
    have E9 := Kp.mk (C7.out _ _ _ _ _ O9 (O3.keep N9))
    have s9 : w4.heap.size + 1 ≤ w9.heap.size := by have := K9.bel.size; omega
    have s3 : w2.heap.size ≤ w3.heap.size := hb3.size
    have s2 : W.heap.size + 1 ≤ w2.heap.size := by have h1 := hb1.size; rw [World.size_alloc] at h1; have := hb2.size; omega
    clear z80 z81 z82 z83 z84 z8 F8 U8 M8 O8 N8 x8 G8
    go_wp2_with fail
    refine E9.out.mono ?_
    rintro e w10 ⟨rfl, hb10⟩
    have B10 := bel_trans B9 hb10
    have N10 := bel_trans N9 hb10
    have O10 := O9.keep hb10
    have x10 := keep_cells x9 hb10
    have s10 : w4.heap.size + 1 ≤ w10.heap.size := by have := hb10.size; omega
    have G10 := Kp.mk (C8.out _ _ _ O10)
    clear E9 x9 O9 hb10
    go_wp2_with fail
    refine G10.out.mono ?_
    rintro e w11 ⟨rfl, hb11, gm⟩
    have B11 := B10.trans (hb11.mono (by have := B3.size; omega))
    have N11 := N10.trans (hb11.mono (by omega))
    have x11 := (hb11.block W.heap.size (by omega)).trans x10
    have G11 := Kp.mk (C9.out w11 _ gm)
    clear G10 O10
    go_wp2_with fail
    refine G11.out.mono ?_
    rintro e w12 ⟨rfl, hb12⟩
    have B12 := bel_trans B11 hb12
    have N12 := bel_trans N11 hb12
    have x12 := keep_cells x11 hb12
    have gm12 := gm.keep hb12
    have y0 : w12.cell? ⟨W.heap.size, 0, none⟩ = _ := at_cells x12 rfl
    have y1 : w12.cell? ⟨W.heap.size, 1, none⟩ = _ := at_cells x12 rfl
    have y2 : w12.cell? ⟨W.heap.size, 2, none⟩ = _ := at_cells x12 rfl
    have y3 : w12.cell? ⟨W.heap.size, 3, none⟩ = _ := at_cells x12 rfl
    have y4 : w12.cell? ⟨W.heap.size, 4, none⟩ = _ := at_cells x12 rfl
    have G12 := Kp.mk (C2.out _ (H.out.keep B12))
    clear G11 gm x11 x10 hb11
    go_wp2_with fail
    refine G12.out.mono ?_
    rintro e w13 ⟨vp13, vb13, rfl, H13, hb13, -⟩
    have N13 := bel_trans N12 hb13
    have B13 := bel_trans B12 hb13
    have gm13 := gm12.keep hb13
    have G13 := Kp.mk (C4.out _ _ _ _ H13)
    clear G12 gm12 y0 y1 y2 y3 y4 x12
    go_wp2_with fail
    refine G13.out.mono ?_
    rintro e w14 ⟨v14, rfl, O14, hb14⟩
    have N14 := bel_trans N13 hb14
    have B14 := bel_trans B13 hb14
    have gm14 := gm13.keep hb14
    have G14 := Kp.mk (C7.out _ _ _ _ _ O14 (O3.keep N14))
    clear G13 gm13
    go_wp2_with fail
    refine G14.out.mono ?_
    rintro e w15 ⟨rfl, hb15⟩
    have B15 := bel_trans B14 hb15
    have G15 := Kp.mk (C9.out w15 _ (gm14.keep hb15))
    clear G14 gm14
    go_wp2_with fail
    refine G15.out.mono ?_
    rintro e w16 ⟨rfl, hb16⟩
    go_wp2_with fail
    go_ret
    exact ⟨rfl, bel_trans B15 hb16⟩
end Go.Proofs.Ytbfpfjkjeekbdaa
