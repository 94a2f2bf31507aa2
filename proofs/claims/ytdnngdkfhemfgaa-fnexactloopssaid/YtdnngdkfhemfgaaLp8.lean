/- Loops: the specification's search. -/
import Derived.Test.YtdnngdkfhemfgaaLp5
namespace Go.Proofs.Ytdnngdkfhemfgaa
open Go.ChangeShapes Go.WideShapes Go.ChangeAt Go.RowKit
set_option linter.unusedVariables false
set_option linter.unusedSimpArgs false
/-- A list of numbers that is read, a part of a row of its own. -/
structure LsI (w : World) (base : Nat) (v : Value) (ys : List Int) : Prop where
  ex : ∃ a c, v = .slice a ys.length c ∧ ys.length ≤ c ∧ (0 < ys.length → ∃ g o, ∃ cur : Array Value, a = some ⟨g, o, none⟩ ∧ base ≤ g ∧ w.heap[g]? = some (Go.Obj.cells cur 2 (0, 0)) ∧ ∀ i (h : i < ys.length), cur[o + i]? = some (.int .i64 ys[i]))
theorem LsI.keep {w w' : World} {base : Nat} {v : Value} {ys : List Int} (h : LsI w base v ys) (hb : Below w.heap.size w w') : LsI w' base v ys := by
  obtain ⟨a, c, h1, h2, h3⟩ := h.ex
  refine ⟨a, c, h1, h2, fun q => ?_⟩
  obtain ⟨g, o, cur, e1, e2, e3, e4⟩ := h3 q
  exact ⟨g, o, cur, e1, e2, keep_cells e3 hb, e4⟩
theorem LsI.set {w : World} {base : Nat} {v : Value} {ys : List Int} (h : LsI w base v ys) {rb n : Nat} {f : Nat → Bool} (hB : BRow w rb n f) (j : Nat) (u : Value) : LsI (w.setCell ⟨rb, j, none⟩ u) base v ys := by
  obtain ⟨a, c, h1, h2, h3⟩ := h.ex
  refine ⟨a, c, h1, h2, fun q => ?_⟩
  obtain ⟨g, o, cur, e1, e2, e3, e4⟩ := h3 q
  refine ⟨g, o, cur, e1, e2, ?_, e4⟩
  obtain ⟨cb, hb, -⟩ := hB.ex
  rw [heap_set]
  · exact e3
  · rintro rfl
    rw [hb] at e3
    cases e3
theorem LsI.own {w : World} {base : Nat} {v : Value} {ys : List Int} (h : OwnI w base v ys) : LsI w base v ys := by
  rcases h.r.2 with ⟨rfl, e⟩ | ⟨g, cap, cur, rfl, h1, h2, h3, h4, h5, h6⟩
  · exact ⟨none, 0, by rw [e], by omega, fun q => by omega⟩
  · refine ⟨_, cap, rfl, h3, fun q => ⟨g, 0, cur, rfl, h1, h2, fun i hi => ?_⟩⟩
    have : (cur.toList.take (ys.length * 1))[i]? = some (.int .i64 ys[i]) := by rw [h6]; simp [hi]
    rw [List.getElem?_take] at this
    split at this
    · simpa using this
    · cases this
theorem LsI.ints {w : World} {base : Nat} {v : Value} {ys : List Int} (h : LsI w base v ys) (hn : ys.length ≤ 8388608) : Ints 0 .i64 w v ys := by
  obtain ⟨a, c, rfl, h2, h3⟩ := h.ex
  by_cases q : 0 < ys.length
  · obtain ⟨g, o, cur, rfl, e2, e3, e4⟩ := h3 q
    exact ⟨g, o, ⟨⟨_, _, rfl, h2, fun _ => rfl⟩, by omega⟩, Nat.zero_le _, fun i hi => at_cells e3 (e4 i hi)⟩
  · exact ⟨0, 0, ⟨⟨a, c, rfl, h2, fun k => absurd k q⟩, by omega⟩, Nat.zero_le _, fun i hi => absurd hi (by omega)⟩
/-- Its first one, and what is behind it. -/
theorem LsI.cons {w : World} {base : Nat} {v : Value} {x : Int} {ys : List Int} (h : LsI w base v (x :: ys)) : ∃ g o c, v = .slice (some ⟨g, o, none⟩) (ys.length + 1) c ∧ ys.length + 1 ≤ c ∧ w.cell? ⟨g, o, none⟩ = some (.int .i64 x) ∧ ∀ a' c', ys.length ≤ c' → (0 < ys.length → a' = some ⟨g, o + 1, none⟩) → LsI w base (.slice a' ys.length c') ys := by
  obtain ⟨a, c, rfl, h2, h3⟩ := h.ex
  obtain ⟨g, o, cur, rfl, e2, e3, e4⟩ := h3 (by simp)
  rw [List.length_cons] at h2
  refine ⟨g, o, c, rfl, h2, at_cells e3 (e4 0 (by simp)), fun a' c' hc' ha' => ⟨_, _, rfl, hc', fun q => ⟨g, o + 1, cur, ha' q, e2, e3, fun i hi => ?_⟩⟩⟩
  have := e4 (i + 1) (by simpa using hi)
  rw [show o + 1 + i = o + (i + 1) by omega]
  simpa using this
/-- A row that was made with its elements false. -/
theorem own_one {w : World} {base : Nat} {v : Value} {xs : List Int} (h : w.ownsRow base 2 1 v xs.length (xs.map (Value.int .i64))) (hbase : base ≤ w.heap.size) (hn : xs.length ≤ 8388608) (x : Int) (T ty : TypeId) :
    ∃ v' w', (Builtin.append_ #[22, 22] ty #[v, .slice (some ⟨w.heap.size, 0, none⟩) 1 1]).run Try.prog (w.alloc (Go.Obj.cells #[.int .i64 x] T)) = .ok v' w' ∧ w'.ownsRow base 2 1 v' (xs ++ [x]).length ((xs ++ [x]).map (Value.int .i64)) ∧ (w.alloc (Go.Obj.cells #[.int .i64 x] T)).grownBy w' v.ownBlock := by
  obtain ⟨i0, hi0, hz0, hz1, hz2⟩ := info_parts info64
  have hb := bel_alloc w (Go.Obj.cells #[.int .i64 x] T)
  have hz := new_cells w (Go.Obj.cells #[.int .i64 x] T)
  have h2 := (OwnI.mk h).keep hb
  obtain ⟨v', w', q1, q2, q3, -⟩ := run_append_own_at (P := Try.prog) (w.alloc (Go.Obj.cells #[.int .i64 x] T)) base 22 ty 2 i0 (.int .i64 0) 1 8 Try.underlying22 hi0 hz0 hz1 hz2 rfl (by decide) v xs.length _ h2.r ⟨w.heap.size, 0, none⟩ 1 1 [.int .i64 x] (by simp) (fun j u hj => by
      obtain ⟨hlt, rfl⟩ := List.getElem?_eq_some_iff.1 hj
      rw [Go.WideShapes.add_plain]
      match j, hlt with
      | 0, _ => exact at_cells hz rfl) (fun u hu => by obtain rfl := List.mem_singleton.1 hu; rfl) (by unfold maxLen; omega) (by omega) (by simp; omega)
  exact ⟨v', w', q1, by simpa using q2, q3⟩
theorem grown_set (w : World) (B j : Nat) (v : Value) : w.grownBy (w.setCell ⟨B, j, none⟩ v) (some B) := ⟨rfl, rfl, rfl, by simp, fun k _ hk => heap_set w B j k v (fun e => hk (by rw [e]))⟩
theorem take_filter {xs : List Int} {p : Int → Bool} {i : Nat} (hi : i < xs.length) : (p xs[i] = true → (xs.take (i + 1)).filter p = (xs.take i).filter p ++ [xs[i]]) ∧ (p xs[i] = false → (xs.take (i + 1)).filter p = (xs.take i).filter p) := by
  rw [List.take_succ_eq_append_getElem hi, List.filter_append]
  exact ⟨fun h => by simp [h], fun h => by simp [h]⟩
set_option maxRecDepth 100000 in
set_option maxHeartbeats 8000000 in
theorem loopS (blocks : List (List InD)) (n lo : Nat) (hnl : Kp (blocks.length = n)) (w : World) (vN vP vd : Value) (hN : ∃ a c, vN = .slice a n c) (G : Rws lo w vP n (prevs blocks n)) (H : Mtx w vd n (fun i j => dmB blocks i j)) (hn : n ≤ 1048576) (hpos : 0 < n)
    (hpot : pot blocks (fun _ => false) n ≤ 2097152)
    (hpv : ∀ i : Nat, i < n → (prevs blocks n i).length ≤ 1048576 ∧ ∀ y ∈ prevs blocks n i, 0 ≤ y ∧ y < (n : Int)) :
    Calls Try.prog 36 #[.agg #[vN, vP], vd] w fun e w' => ∃ v', e = .returned v' ∧ OwnLp w' w.heap.size v' (lpsD blocks n) ∧ Below w.heap.size w w' := by
  obtain ⟨aN, cN, rfl⟩ := hN
  obtain ⟨a0, c0, rfl, hx⟩ := H.ex
  have hG := G
  obtain ⟨hb, ho, ⟨⟨an, cn, rfl, g1, g2⟩, g3⟩, -, gc⟩ := G.ex
  obtain ⟨i0, hi0, hz0, hz1, hz2⟩ := info_parts info64
  obtain rfl := g2 hpos
  have GC : Kp (∀ (i : Nat), i < n → ∃ a c b o, (0 < (prevs blocks n i).length → a = some ⟨b, o, none⟩) ∧ ∀ W : World, Below w.heap.size w W → W.cell? ⟨hb, ho + i, none⟩ = some (.slice a (prevs blocks n i).length c) ∧ (∀ q (h : q < (prevs blocks n i).length), At W b (o + q) (.int .i64 (prevs blocks n i)[q])) ∧ Ints lo .i64 W (.slice a (prevs blocks n i).length c) (prevs blocks n i)) := ⟨fun i hi => by
    obtain ⟨u, h1, h2⟩ := gc i hi
    have h2' := h2
    obtain ⟨b, o, ⟨⟨a, c, rfl, s1, s2⟩, s3⟩, hl, hc⟩ := h2.ex
    exact ⟨a, c, b, o, s2, fun W hW => ⟨at_keep h1 hW, fun q hq => at_keep (hc q hq) hW, h2'.keep hW⟩⟩⟩
  obtain ⟨dB, hdB⟩ : ∃ dB, Kp (∀ W i j, Below w.heap.size w W → i < n → j < n → ∃ bi ci, W.cell? ⟨dB, i, none⟩ = some (.slice (some ⟨bi, 0, none⟩) n ci) ∧ W.cell? ⟨bi, j, none⟩ = some (.bool (dmB blocks i j))) ∧ a0 = some ⟨dB, 0, none⟩ := by
    obtain ⟨g, bi, ci, h1, -⟩ := hx 0 hpos
    refine ⟨g, ⟨fun W i j hW hi hj => ?_⟩, h1⟩
    obtain ⟨g', bi, ci, h1', h2, h3⟩ := hx i hi
    rw [h1] at h1'
    cases h1'
    exact ⟨bi, ci, at_keep h2 hW, at_keep (h3 j hj) hW⟩
  obtain ⟨MC, rfl⟩ := hdB
  obtain ⟨O, hmk, hSO⟩ := mkSeen n hn
  have hBR : Kp (∀ W : World, BRow (W.alloc O) W.heap.size n (fun _ => false)) := ⟨fun W => by
    obtain ⟨cur, h1, h2⟩ := (hSO W).ex
    exact ⟨cur, h1, fun i hi => by rw [h2 i hi]; simp⟩⟩
  clear H hx G gc g1 g3 g2 hSO
  obtain ⟨Bo, hBo⟩ : ∃ Bo, Kp (Bo = Go.Obj.cells #[.slice aN n cN, .slice (some ⟨hb, ho, none⟩) n cn] 45 (0, 0)) := ⟨_, ⟨rfl⟩⟩
  obtain ⟨W0, hW0⟩ : ∃ W0, Kp (W0 = w.alloc (Go.Obj.cells #[.slice aN n cN, .slice (some ⟨hb, ho, none⟩) n cn] 45)) := ⟨_, ⟨rfl⟩⟩
  have hB0 : Below w.heap.size w W0 := by rw [hW0.out]; exact bel_alloc _ _
  have hg0 : W0.heap[w.heap.size]? = some Bo := by rw [hW0.out, hBo.out]; exact new_cells _ _
  have SK : Kp (∀ W' : World, Below W0.heap.size W0 W' → W'.cell? ⟨w.heap.size, 0, none⟩ = some (.slice aN n cN) ∧ W'.cell? ⟨w.heap.size, 1, none⟩ = some (.slice (some ⟨hb, ho, none⟩) n cn)) := ⟨fun W' h => by
    have h1 := keep_cells hg0 h
    rw [hBo.out] at h1
    exact ⟨at_cells h1 rfl, at_cells h1 rfl⟩⟩
  replace hpv := Kp.mk hpv
  replace hpot := Kp.mk hpot
  replace hG := Kp.mk hG
  obtain ⟨y0, -⟩ := SK.out _ (bel_alloc W0 (Go.Obj.cells #[] 71))
  go_enter Try.func36, Try.ntmps36
  go_upto_region 1 with fail
  rw [← hW0.out]
  go_wp2_with fail
  go_loopw [5, 7] (fun vo s wr => ∃ b : Nat, b ≤ n ∧ s = .int .i64 b ∧ OwnLp wr W0.heap.size vo (lpsD blocks b) ∧ Below W0.heap.size W0 wr) (fun _ s _ => n - (intOf s).toNat)
  case atStart => exact ⟨0, Nat.zero_le _, rfl, ⟨[], rfl, ⟨rfl, .inr ⟨W0.heap.size, 0, #[], rfl, Nat.le_refl _, new_cells W0 _, Nat.le_refl _, by decide, rfl, rfl⟩⟩, (fun e he => by cases he), .nil⟩, bel_alloc _ _⟩
  case round =>
    clear y0
    obtain ⟨b, hbn, rfl, hO, hBl⟩ := hrel
    obtain ⟨oa, oc, rfl⟩ := hO.shape
    obtain ⟨Wo, hWo⟩ : ∃ W, W = wr := ⟨wr, rfl⟩
    subst hWo
    have b0 : (0 : Int) ≤ (b : Int) := by omega
    by_cases hlt : b < n
    · have b1 : (b : Int) < (n : Int) := by omega
      have hll := lpsD_len blocks b
      obtain ⟨hpl, hpy⟩ := hpv.out b hlt
      go_wp2_with fail
      go_loopw [8, 9] (fun s8 s9 wz => ∃ i : Nat, i ≤ (prevs blocks n b).length ∧ s9 = .int .i64 i ∧ OwnI wz Wo.heap.size s8 (((prevs blocks n b).take i).filter (fun p => dmB blocks b p)) ∧ Below Wo.heap.size Wo wz) (fun _ s9 _ => (prevs blocks n b).length - (intOf s9).toNat)
      case atStart => exact ⟨0, Nat.zero_le _, rfl, ⟨rfl, .inr ⟨Wo.heap.size, 0, #[], rfl, Nat.le_refl _, new_cells Wo _, Nat.le_refl _, by decide, rfl, rfl⟩⟩, bel_alloc _ _⟩
      case round =>
        obtain ⟨i, hi, rfl, hT, hBz⟩ := hrel
        have hBW := bel_trans hBl hBz
        obtain ⟨y0, y1⟩ := SK.out _ hBW
        have hBw := bel_trans hB0 hBW
        obtain ⟨ra, rc, rb, ro, hra, hgx⟩ := GC.out b hlt
        obtain ⟨hrow, hrcs, hri⟩ := hgx _ hBw
        clear hgx
        have i00 : (0 : Int) ≤ (i : Int) := by omega
        by_cases hil : i < (prevs blocks n b).length
        · have i01 : (i : Int) < ((prevs blocks n b).length : Int) := by omega
          have hc := hrcs i hil
          obtain rfl := hra (by omega)
          have hyb := hpy _ (List.getElem_mem hil)
          obtain ⟨tf1, tf2⟩ := take_filter (p := fun p => dmB blocks b p) hil
          have tf3 : (((prevs blocks n b).take i).filter (fun p => dmB blocks b p)).length ≤ 1048576 := by
            have h1 := List.length_filter_le (fun p => dmB blocks b p) ((prevs blocks n b).take i)
            rw [List.length_take] at h1
            omega
          replace tf1 := Kp.mk tf1
          replace tf2 := Kp.mk tf2
          clear hrcs hra hri
          generalize (prevs blocks n b)[i] = c at *
          obtain ⟨tc, rfl⟩ : ∃ tc : Nat, c = tc := ⟨c.toNat, by omega⟩
          have htc : tc < n := by omega
          have tc0 : (0 : Int) ≤ (tc : Int) := by omega
          have tc1 : (tc : Int) < (n : Int) := by omega
          obtain ⟨bi, ci, c1, c2⟩ := MC.out wr b tc hBw hlt htc
          obtain ⟨T, hT2⟩ : ∃ T, Kp (((prevs blocks n b).take i).filter (fun p => dmB blocks b p) = T) := ⟨_, ⟨rfl⟩⟩
          rw [hT2.out] at hT tf1 tf2 tf3
          obtain ⟨a8, c8, rfl⟩ := hT.shape
          obtain ⟨q, hq⟩ : ∃ q, dmB blocks b tc = q := ⟨_, rfl⟩
          rw [hq] at c2
          generalize (prevs blocks n b).length = pl at *
          cases q with
          | true =>
            have tf := Kp.mk (tf1.out hq)
            clear tf1 tf2 hq
            have hTD := hT.keep (bel_drew wr)
            obtain ⟨v6, w6, hrun, hO6, hg6⟩ := own_one hTD.r (by have := hBz.size; simpa using this) (by omega) tc 2 22
            have hBD := bel_trans (bel_trans hBz (bel_drew wr)) (bel_alloc _ (Go.Obj.cells #[.int .i64 tc] 2))
            have hB6 := hBD.grown hg6 hBD.size (fun k hk => (hT.r.lt k hk).1)
            replace hT := Kp.mk hT
            replace hO6 := Kp.mk hO6
            replace hrun := Kp.mk hrun
            clear hTD hBD hg6
            go_upto_region 10 with fail
            go_region
            go_wp2_with (at_builtin; refine wpList_append_run _ rfl (.tmp 49) (.tmp 58) 22 rfl rfl rfl hrun.out ?_)
            exact ⟨⟨i + 1, by omega, by go_num, by rw [tf.out]; exact ⟨hO6.out⟩, hB6⟩, by simp [intOf]; omega⟩
          | false =>
            have tf := Kp.mk (tf2.out hq)
            clear tf1 tf2 hq
            have hTD := hT.keep (bel_drew wr)
            have hBD := bel_trans hBz (bel_drew wr)
            replace hT := Kp.mk hT
            go_upto_region 10 with fail
            go_region
            go_wp2_with fail
            exact ⟨⟨i + 1, by omega, by go_num, by rw [tf.out]; exact hTD, hBD⟩, by simp [intOf]; omega⟩
        · obtain rfl : i = (prevs blocks n b).length := by omega
          have hfin : ((prevs blocks n b).take (prevs blocks n b).length).filter (fun p => dmB blocks b p) = tlL blocks b := by rw [List.take_length]; unfold tlL; rw [hnl.out]
          rw [hfin] at hT
          have htl : (tlL blocks b).length ≤ 1048576 := by have := tlL_len blocks b; rw [hnl.out] at this; omega
          have htb : Kp (∀ x ∈ tlL blocks b, 0 ≤ x ∧ x < (n : Int)) := ⟨fun x hx => hpy x (by unfold tlL at hx; rw [hnl.out] at hx; exact (List.mem_filter.1 hx).1)⟩
          clear hrcs hra hri hfin y0
          generalize (prevs blocks n b).length = pl at *
          obtain ⟨a8, c8, rfl⟩ := hT.shape
          have hOz := hO.keep hBz
          by_cases h0 : tlL blocks b = []
          · have hgt : (((tlL blocks b).length : Int) == 0) = true := by rw [h0]; rfl
            have hnx : Kp (lpsD blocks (b + 1) = lpsD blocks b) := ⟨by simp [lpsD, h0]⟩
            replace h0 := Kp.mk h0
            clear hT
            go_wp2_with fail
            exact ⟨⟨b + 1, by omega, by go_num, by rw [hnx.out]; exact hOz, hBW⟩, by simp [intOf]; omega⟩
          have hgt : (((tlL blocks b).length : Int) == 0) = false := by
            have := List.length_pos_iff.2 h0
            rw [beq_eq_false_iff_ne]
            omega
          have hnx : Kp (lpsD blocks (b + 1) = lpsD blocks b ++ [(b, lpL blocks b)]) := ⟨by simp [lpsD, h0]⟩
          have h0' : 0 < (tlL blocks b).length := List.length_pos_iff.2 h0
          replace h0 := Kp.mk h0
          have hba := bel_alloc wr O
          have hr0 := hBR.out wr
          have hmk0 := hmk wr
          have hT0 := LsI.own (hT.keep hba)
          have hO0 := hOz.keep hba
          have hB0a := bel_trans hBz hba
          obtain ⟨rb, hrb⟩ : ∃ rb, wr.heap.size = rb := ⟨_, rfl⟩
          have hrbW : Wo.heap.size ≤ rb := by rw [← hrb]; exact hBz.size
          rw [hrb] at hr0 hmk0
          have zc := hr0.at hlt
          have zf := hr0.rw b
          have hst := hr0.set (x := true) hlt (g := fun i : Nat => ((i : Int) == (b : Int))) (fun i hi => by
            by_cases e : i = b
            · subst e; simp
            · rw [if_neg e]; exact beq_false_of_ne (by omega))
          have hT1 := hT0.set hr0 b (.bool true)
          have hB1 : Below Wo.heap.size Wo ((wr.alloc O).setCell ⟨rb, b, none⟩ (.bool true)) := hB0a.setCell hrbW _
          replace zc : (wr.alloc O).cell? ⟨rb, b, none⟩ = some (.bool false) := zc
          clear hba hr0 hT hT0 hO0 hB0a hBz hBW hBw hOz
          have hT1 := Kp.mk hT1
          replace hst := Kp.mk hst
          replace hB1 := Kp.mk hB1
          go_upto_region 13 with fail
          clear hrow y1
          go_wp2_with fail
          have hp0 : (tlL blocks b).length + pot blocks (fun x => x == (b : Int)) n ≤ 1048576 + 2097152 := by have h1 := pot_le blocks (fun x => x == (b : Int)) n; have h2 := hpot.out; omega
          go_loopg [11, 12] ((tlL blocks b).length + pot blocks (fun x => x == (b : Int)) n) (fun k s11 _ wz => ∃ (inn : Int → Bool) (ys : List Int), LsI wz Wo.heap.size s11 ys ∧ BRow wz rb n (fun i => inn i) ∧ Kp (Wk blocks b inn (fun x => x ∈ ys)) ∧ Kp (∀ x ∈ ys, 0 ≤ x ∧ x < (n : Int)) ∧ ys.length + pot blocks inn n = k ∧ k ≤ 1048576 + 2097152 ∧ Below Wo.heap.size Wo wz)
          case atStart => exact ⟨fun x => x == (b : Int), tlL blocks b, hT1.out, hst.out, ⟨Wk.start⟩, htb, rfl, hp0, hB1.out⟩
          case round =>
            clear hT1 hst hB1 zc zf hmk0
            obtain ⟨inn, ys, hL, hR, hK, hy, hk, hk2, hBz⟩ := hrel
            have hBW := bel_trans hBl hBz
            have hBw := bel_trans hB0 hBW
            obtain ⟨-, y1⟩ := SK.out _ hBW
            cases ys with
            | nil =>
              obtain ⟨la, lc, rfl, -, -⟩ := hL.ex
              have hin := hK.out.done (fun x hx => by simp at hx)
              have hfr : Kp (frU (fun i : Nat => inn i) n = lpL blocks b) := ⟨by
                unfold lpL frU
                rw [hnl.out]
                congr 1
                refine List.filter_congr fun i _ => ?_
                rw [Bool.eq_iff_iff, hin, inB_true]⟩
              have hba := bel_alloc wr (Go.Obj.cells #[.int .i64 b, .slice none 0 0] 71)
              have hz := new_cells wr (Go.Obj.cells #[.int .i64 b, .slice none 0 0] 71)
              have hRa := hR.keep hba
              have hBa := bel_trans hBz hba
              have hWB := hBz.size
              clear hL hK hy hR hBz hBW hBw y1 hin hk
              go_upto_region 23 with fail
              generalize wr.alloc (Go.Obj.cells #[.int .i64 b, .slice none 0 0] 71) = Wl at *
              generalize wr.heap.size = Bx at *
              go_wp2_with fail
              go_loopg [14] n (fun k s wz => ∃ (m : Nat) (V : Value), m ≤ n ∧ s = .int .i64 m ∧ wz.heap[Bx]? = some (Go.Obj.cells #[.int .i64 b, V] 71 (0, 0)) ∧ OwnI wz Wo.heap.size V (frU (fun i : Nat => inn i) m) ∧ BRow wz rb n (fun i => inn i) ∧ Below Wo.heap.size Wo wz ∧ n - m = k)
              case atStart => exact ⟨0, _, Nat.zero_le _, rfl, hz, ⟨World.ownsRow_nil _ _ _ _⟩, hRa, hBa, rfl⟩
              case round =>
                clear hz hRa hBa
                obtain ⟨m, V, hm, rfl, hz, hV, hR, hBz, rfl⟩ := hrel
                have z0 := at_cells hz (j := 0) rfl
                have z1 := at_cells hz (j := 1) rfl
                have m0 : (0 : Int) ≤ (m : Int) := by omega
                by_cases hmn : m < n
                · have m1 : (m : Int) < (n : Int) := by omega
                  have hx := hR.at hmn
                  obtain ⟨q, hq⟩ : ∃ q, inn (m : Int) = q := ⟨_, rfl⟩
                  rw [hq] at hx
                  replace hx : wr.cell? ⟨rb, m, none⟩ = some (.bool q) := hx
                  have hlen := frU_len (fun i : Nat => inn i) m
                  cases q with
                  | false =>
                    have hnx2 : Kp (frU (fun i : Nat => inn i) (m + 1) = frU (fun i : Nat => inn i) m) := ⟨by simp [frU, List.range_succ, List.filter_append, List.filter_cons, hq]⟩
                    replace hq := Kp.mk hq
                    replace hz := Kp.mk hz
                    go_wp2_with fail
                    go_roundg (n - (m + 1))
                    case measure => omega
                    case rel => exact ⟨m + 1, V, by omega, by go_num, hz.out, by rw [hnx2.out]; exact hV, hR, hBz, rfl⟩
                  | true =>
                    have hnx2 : Kp (frU (fun i : Nat => inn i) (m + 1) = frU (fun i : Nat => inn i) m ++ [(m : Int)]) := ⟨frU_yes hq⟩
                    obtain ⟨v6, w6, hrun, hO6, hg6⟩ := own_one hV.r hBz.size (by omega) m 2 22
                    have hb6 := bel_alloc wr (Go.Obj.cells #[.int .i64 m] 2)
                    have hVa := hV.keep hb6
                    have hB6 := (bel_trans hBz hb6).grown hg6 (bel_trans hBz hb6).size (fun k hk => (hV.r.lt k hk).1)
                    have hR6 := (hR.keep hb6).kept hg6 ((hR.keep hb6).ne hVa.r (by decide))
                    have hz6 := (hg6.block _ (Array.getElem?_eq_some_iff.1 (keep_cells hz hb6)).1 (own_ne hVa.r (keep_cells hz hb6) (by decide))).trans (keep_cells hz hb6)
                    have k1 := at_cells hz6 (j := 1) rfl
                    have kf := rw_cells hz6 1
                    have hz7 : (w6.setCell ⟨Bx, 1, none⟩ v6).heap[Bx]? = some (Go.Obj.cells #[.int .i64 b, v6] 71 (0, 0)) := set_cells hz6 1 v6
                    have hO7 : OwnI (w6.setCell ⟨Bx, 1, none⟩ v6) Wo.heap.size v6 (frU (fun i : Nat => inn i) m ++ [(m : Int)]) := ⟨hO6.kept (grown_set w6 Bx 1 v6) (.inr (fun e => own_ne hO6 hz6 (by decide) e.symm))⟩
                    have hR7 := hR6.kept (grown_set w6 Bx 1 v6) (fun e => by
                      obtain ⟨cb, h1, -⟩ := hR6.ex
                      cases e
                      rw [h1] at hz6
                      cases hz6)
                    have hB7 : Below Wo.heap.size Wo (w6.setCell ⟨Bx, 1, none⟩ v6) := hB6.setCell hWB _
                    obtain ⟨va, vc, rfl⟩ := hV.shape
                    obtain ⟨va6, vc6, rfl⟩ := (OwnI.mk hO6).shape
                    rw [show (frU (fun i : Nat => inn i) m ++ [(m : Int)]).length = (frU (fun i : Nat => inn i) m).length + 1 by simp] at hrun hz7 hO7 hR7 hB7
                    replace hq := Kp.mk hq
                    replace hz := Kp.mk hz
                    replace hrun := Kp.mk hrun
                    replace hz7 := Kp.mk hz7
                    replace hO7 := Kp.mk hO7
                    replace hR7 := Kp.mk hR7
                    replace hB7 := Kp.mk hB7
                    clear hV hR hBz hO6 hg6 hb6 hVa hB6 hR6 hz6
                    go_wp2_with (at_builtin; refine wpList_append_run _ rfl (.tmp 114) (.tmp 116) 22 rfl rfl rfl hrun.out ?_)
                    go_roundg (n - (m + 1))
                    case measure => omega
                    case rel => exact ⟨m + 1, _, by omega, by go_num, hz7.out, by rw [hnx2.out]; exact hO7.out, hR7.out, hB7.out, rfl⟩
                · obtain rfl : m = n := by omega
                  rw [hfr.out] at hV
                  obtain ⟨va, vc, rfl⟩ := hV.shape
                  have hU4 := bel_trans hBl hBz
                  obtain ⟨v6, w6, hrun, hO6, hg6, hlo, -⟩ := hO.more hBz (by omega) hBl.size b (lpL blocks b) _ hV 71 37
                  have hU5 := bel_trans hU4 (bel_alloc wr (Go.Obj.cells #[.int .i64 b, .slice va (lpL blocks b).length vc] 71))
                  have hU6 := hU5.grown hg6 hU5.size hlo
                  rw [← hnx.out] at hO6
                  replace hrun := Kp.mk hrun
                  replace hO6 := Kp.mk hO6
                  replace hU6 := Kp.mk hU6
                  replace hz := Kp.mk hz
                  clear hV hR hBz hg6 hlo hU4 hU5
                  go_wp2_with (at_builtin; refine wpList_append_run _ rfl (.tmp 119) (.tmp 121) 37 rfl rfl rfl hrun.out ?_)
                  exact ⟨⟨b + 1, by omega, by go_num, hO6.out, hU6.out⟩, by simp [intOf]; omega⟩
            | cons x us =>
              obtain ⟨xb, xu⟩ : (0 ≤ x ∧ x < (n : Int)) ∧ Kp (∀ y ∈ us, 0 ≤ y ∧ y < (n : Int)) := ⟨hy.out x (by simp), ⟨fun y hq => hy.out y (by simp [hq])⟩⟩
              obtain ⟨g, o, c, rfl, hc, hx0, hL2⟩ := hL.cons
              obtain ⟨X, rfl⟩ : ∃ X : Nat, x = X := ⟨x.toNat, by omega⟩
              have hX : X < n := by omega
              rw [List.length_cons] at hk
              have hx1 := hR.at hX
              obtain ⟨bi, ci, c1, c2⟩ := MC.out wr 0 X hBw hpos hX
              obtain ⟨q1, hq1⟩ : ∃ q, inn (X : Int) = q := ⟨_, rfl⟩
              obtain ⟨q2, hq2⟩ : ∃ q, dmB blocks (0 : Int) X = q := ⟨_, rfl⟩
              rw [hq1] at hx1
              replace c2 : wr.cell? ⟨bi, X, none⟩ = some (.bool (dmB blocks (0 : Int) X)) := c2
              rw [hq2] at c2
              replace hx1 : wr.cell? ⟨rb, X, none⟩ = some (.bool q1) := hx1
              clear hL hy
              cases q1 with
              | true =>
                have hK2 : Kp (Wk blocks b inn (fun y => y ∈ us)) := ⟨hK.out.skip (b := (X : Int)) (.inl hq1) (fun y hy => by simpa using hy) (fun y hy => by simp [hy])⟩
                replace hq1 := Kp.mk hq1
                replace hq2 := Kp.mk hq2
                clear hK
                replace hL2 := Kp.mk hL2
                go_wp2_with fail
                all_goals
                  go_roundg (us.length + pot blocks inn n)
                  case measure => omega
                  case rel => exact ⟨inn, us, by first | exact hL2.out _ _ (by omega) (fun _ => rfl) | exact hL2.out _ _ (by omega) (fun h => absurd h (by omega)), hR, hK2, xu, rfl, by omega, hBz⟩
              | false =>
                cases q2 with
                | false =>
                  have hK2 : Kp (Wk blocks b inn (fun y => y ∈ us)) := ⟨hK.out.skip (b := (X : Int)) (.inr hq2) (fun y hy => by simpa using hy) (fun y hy => by simp [hy])⟩
                  replace hq1 := Kp.mk hq1
                  replace hq2 := Kp.mk hq2
                  clear hK
                  replace hL2 := Kp.mk hL2
                  go_wp2_with fail
                  all_goals
                    go_roundg (us.length + pot blocks inn n)
                    case measure => omega
                    case rel => exact ⟨inn, us, by first | exact hL2.out _ _ (by omega) (fun _ => rfl) | exact hL2.out _ _ (by omega) (fun h => absurd h (by omega)), hR, hK2, xu, rfl, by omega, hBz⟩
                | true =>
                  have hpt := pot_take (bls := blocks) (inn := inn) hq1 (by omega : (0 : Int) ≤ (X : Int)) n (by omega)
                  rw [hnl.out, Int.toNat_natCast] at hpt
                  have hK2 : Kp (Wk blocks b (fun y => inn y || y == (X : Int)) (fun y => y ∈ us ++ prevs blocks n X)) := ⟨hK.out.take (b := (X : Int)) (by simp) hq1 hq2 (fun y hy => by
                      rcases List.mem_cons.1 hy with h | h
                      · exact .inl h
                      · exact .inr (List.mem_append_left _ h)) (fun y hy => by rw [Int.toNat_natCast, hnl.out] at hy; exact List.mem_append_right _ hy) (fun y hy => by
                      rw [Int.toNat_natCast, hnl.out]
                      rcases List.mem_append.1 hy with h | h
                      · exact .inl (List.mem_cons_of_mem _ h)
                      · exact .inr h)⟩
                  obtain ⟨hxl, hxy⟩ := hpv.out X hX
                  have hy2 : Kp (∀ y ∈ us ++ prevs blocks n X, 0 ≤ y ∧ y < (n : Int)) := ⟨fun y hy => by
                    rcases List.mem_append.1 hy with h | h
                    · exact xu.out y h
                    · exact hxy y h⟩
                  have zf := hR.rw X
                  have hst := hR.set (x := true) hX (g := fun i : Nat => (inn i || ((i : Int) == (X : Int)))) (fun i hi => by
                    by_cases e : i = X
                    · subst e; simp
                    · rw [if_neg e, beq_false_of_ne (by omega : (i : Int) ≠ (X : Int)), Bool.or_false])
                  have hBs : Below Wo.heap.size Wo (wr.setCell ⟨rb, X, none⟩ (.bool true)) := hBz.setCell hrbW _
                  have kz := bel_drew (wr.setCell ⟨rb, X, none⟩ (.bool true))
                  have hBd := bel_trans hBs kz
                  replace hst := hst.keep kz
                  have hLg : us.length ≤ 4194304 := by omega
                  obtain ⟨pa, pc, pb, po, -, hpa⟩ := GC.out X hX
                  have SV : Kp (∀ W', Below Wo.heap.size Wo W' → W'.cell? ⟨w.heap.size, 1, none⟩ = some (.slice (some ⟨hb, ho, none⟩) n cn) ∧ W'.cell? ⟨hb, ho + X, none⟩ = some (.slice pa (prevs blocks n X).length pc)) := ⟨fun W' h => ⟨(SK.out W' (bel_trans hBl h)).2, (hpa W' (bel_trans hB0 (bel_trans hBl h))).1⟩⟩
                  have SI : Kp (∀ W', Below Wo.heap.size Wo W' → Ints lo .i64 W' (.slice pa (prevs blocks n X).length pc) (prevs blocks n X)) := ⟨fun W' h => (hpa W' (bel_trans hB0 (bel_trans hBl h))).2.2⟩
                  replace hL2 := Kp.mk hL2
                  replace hq1 := Kp.mk hq1
                  replace hq2 := Kp.mk hq2
                  clear hK hpa hxy
                  by_cases hc1 : c = 1
                  · subst hc1
                    obtain rfl : us = [] := List.eq_nil_of_length_eq_zero (by omega)
                    go_upto_region 21 with fail
                    have hLs := hL2.out (some ⟨g, o, none⟩) (0) (by omega) (fun h => absurd h (by simp))
                    have hLt := (hLs.set hR X (.bool true)).keep kz
                    replace hLs := Kp.mk hLs
                    refine wp_region_held_drew (S := fun W' => W'.cell? ⟨w.heap.size, 1, none⟩ = some (.slice (some ⟨hb, ho, none⟩) n cn) ∧ W'.cell? ⟨hb, ho + X, none⟩ = some (.slice pa (prevs blocks n X).length pc)) (by kernel_rfl) (SV.out _ hBd) (fun hHeld => ?_)
                    generalize (wr.setCell ⟨rb, X, none⟩ (.bool true)).drew = Y0 at *
                    refine tks 4 [1, 3, 4, 5] hHeld ?_
                    try simp only [tkP]
                    refine tks 2 [6, 7] hHeld ?_
                    try simp only [tkP]
                    refine rdy 0 fun K hK => ?_
                    go_simp
                    have hb1 := bel_alloc Y0 (Go.Obj.cells #[] 2)
                    have ho1 := World.ownsRow_made (base := Wo.heap.size) (e := 2) (size := 1) Y0 #[] 0 hBd.size (Nat.zero_le _) rfl
                    refine hK.out _ _ (SV.out _ (bel_trans hBd hb1)) (fun hHeld => ?_)
                    clear hK K
                    try simp only [tkP]
                    obtain ⟨v5, w5, hrun5, ho5, hg5, -⟩ := run_append_ints (P := Try.prog) (Y0.alloc (Go.Obj.cells #[] 2)) Wo.heap.size 22 22 2 i0 (.int .i64 0) Try.underlying22 hi0 hz0 hz1 hz2 rfl _ 0 _ ho1 _ [] ((hLt.keep hb1).ints (by omega)) (by omega) (by have := hBd.size; simp; omega)
                    have hB5 := (bel_trans hBd hb1).grown hg5 (bel_trans hBd hb1).size (fun k hk => (ho1.lt k hk).1)
                    have hR5 := (hst.keep hb1).kept hg5 ((hst.keep hb1).ne ho1 (by decide))
                    refine rdy 2 fun K hK => ?_
                    refine step_append_run rfl (.tmp 93) (.tmp 94) 22 rfl (by simp [Act.eval, Act.put]) (by simp [Act.eval, Act.put]) hrun5 ?_
                    refine hK.out _ _ (SV.out _ hB5) (fun hHeld => ?_)
                    clear hK K
                    try simp only [tkP]
                    obtain ⟨v6, w6, hrun6, ho6, hg6, -⟩ := run_append_ints (P := Try.prog) w5 Wo.heap.size 22 22 2 i0 (.int .i64 0) Try.underlying22 hi0 hz0 hz1 hz2 rfl _ _ _ ho5 _ (prevs blocks n X) (SI.out _ hB5) (by omega) hB5.size
                    have hB6 := hB5.grown hg6 hB5.size (fun k hk => (ho5.lt k hk).1)
                    have hR6 := hR5.kept hg6 (hR5.ne ho5 (by decide))
                    refine rdy 8 fun K hK => ?_
                    refine step_append_run rfl (.tmp 95) (.tmp 100) 22 rfl (by simp [Act.eval, Act.put]) (by simp [Act.eval, Act.put]) hrun6 ?_
                    refine hK.out _ _ (SV.out _ hB6) (fun hHeld => ?_)
                    clear hK K
                    try simp only [tkP]
                    refine tks 1 [9] hHeld ?_
                    try simp only [tkP]
                    refine wpAnyH_done (by kernel_rfl) ?_ _
                    have hO6 : OwnI w6 Wo.heap.size v6 ([] ++ prevs blocks n X) := ⟨by simpa using ho6⟩
                    have hL6 := LsI.own hO6
                    clear hrun5 hrun6 ho5 ho6 hg5 hg6 hHeld hB5 hR5 ho1 hb1 hLs hLt hO6
                    go_wp2_with fail
                    go_roundg (([] ++ prevs blocks n X).length + pot blocks (fun y => inn y || y == (X : Int)) n)
                    case measure => simp only [List.length_append, List.length_nil] at *; omega
                    case rel => exact ⟨fun y => inn y || y == (X : Int), [] ++ prevs blocks n X, hL6, hR6, hK2, hy2, rfl, by simp only [List.length_append, List.length_nil] at *; omega, hB6⟩
                  · have hc2 : ¬ (c - 1 = 0) := by omega
                    go_upto_region 21 with fail
                    have hLs := hL2.out (some ⟨g, o + 1, none⟩) (c - 1) (by omega) (fun _ => rfl)
                    have hLt := (hLs.set hR X (.bool true)).keep kz
                    replace hLs := Kp.mk hLs
                    refine wp_region_held_drew (S := fun W' => W'.cell? ⟨w.heap.size, 1, none⟩ = some (.slice (some ⟨hb, ho, none⟩) n cn) ∧ W'.cell? ⟨hb, ho + X, none⟩ = some (.slice pa (prevs blocks n X).length pc)) (by kernel_rfl) (SV.out _ hBd) (fun hHeld => ?_)
                    generalize (wr.setCell ⟨rb, X, none⟩ (.bool true)).drew = Y0 at *
                    refine tks 4 [1, 3, 4, 5] hHeld ?_
                    try simp only [tkP]
                    refine tks 2 [6, 7] hHeld ?_
                    try simp only [tkP]
                    refine rdy 0 fun K hK => ?_
                    go_simp
                    have hb1 := bel_alloc Y0 (Go.Obj.cells #[] 2)
                    have ho1 := World.ownsRow_made (base := Wo.heap.size) (e := 2) (size := 1) Y0 #[] 0 hBd.size (Nat.zero_le _) rfl
                    refine hK.out _ _ (SV.out _ (bel_trans hBd hb1)) (fun hHeld => ?_)
                    clear hK K
                    try simp only [tkP]
                    obtain ⟨v5, w5, hrun5, ho5, hg5, -⟩ := run_append_ints (P := Try.prog) (Y0.alloc (Go.Obj.cells #[] 2)) Wo.heap.size 22 22 2 i0 (.int .i64 0) Try.underlying22 hi0 hz0 hz1 hz2 rfl _ 0 _ ho1 _ us ((hLt.keep hb1).ints (by omega)) (by omega) (by have := hBd.size; simp; omega)
                    have hB5 := (bel_trans hBd hb1).grown hg5 (bel_trans hBd hb1).size (fun k hk => (ho1.lt k hk).1)
                    have hR5 := (hst.keep hb1).kept hg5 ((hst.keep hb1).ne ho1 (by decide))
                    refine rdy 2 fun K hK => ?_
                    refine step_append_run rfl (.tmp 93) (.tmp 94) 22 rfl (by simp [Act.eval, Act.put]) (by simp [Act.eval, Act.put]) hrun5 ?_
                    refine hK.out _ _ (SV.out _ hB5) (fun hHeld => ?_)
                    clear hK K
                    try simp only [tkP]
                    obtain ⟨v6, w6, hrun6, ho6, hg6, -⟩ := run_append_ints (P := Try.prog) w5 Wo.heap.size 22 22 2 i0 (.int .i64 0) Try.underlying22 hi0 hz0 hz1 hz2 rfl _ _ _ ho5 _ (prevs blocks n X) (SI.out _ hB5) (by omega) hB5.size
                    have hB6 := hB5.grown hg6 hB5.size (fun k hk => (ho5.lt k hk).1)
                    have hR6 := hR5.kept hg6 (hR5.ne ho5 (by decide))
                    refine rdy 8 fun K hK => ?_
                    refine step_append_run rfl (.tmp 95) (.tmp 100) 22 rfl (by simp [Act.eval, Act.put]) (by simp [Act.eval, Act.put]) hrun6 ?_
                    refine hK.out _ _ (SV.out _ hB6) (fun hHeld => ?_)
                    clear hK K
                    try simp only [tkP]
                    refine tks 1 [9] hHeld ?_
                    try simp only [tkP]
                    refine wpAnyH_done (by kernel_rfl) ?_ _
                    have hO6 : OwnI w6 Wo.heap.size v6 (us ++ prevs blocks n X) := ⟨by simpa using ho6⟩
                    have hL6 := LsI.own hO6
                    clear hrun5 hrun6 ho5 ho6 hg5 hg6 hHeld hB5 hR5 ho1 hb1 hLs hLt hO6
                    go_wp2_with fail
                    go_roundg ((us ++ prevs blocks n X).length + pot blocks (fun y => inn y || y == (X : Int)) n)
                    case measure => simp only [List.length_append]; omega
                    case rel => exact ⟨fun y => inn y || y == (X : Int), us ++ prevs blocks n X, hL6, hR6, hK2, hy2, rfl, by simp only [List.length_append]; omega, hB6⟩
    · obtain rfl : b = n := by omega
      have hO9 := hO.base hB0.size
      have hB9 := bel_trans hB0 hBl
      clear hO
      go_wp2_with fail
      go_ret
      exact ⟨_, rfl, hO9, hB9⟩
end Go.Proofs.Ytdnngdkfhemfgaa
