/- The specification's order of a long graph. -/
import Derived.Test.YtoajibpconhkdaaWs3
namespace Go.Proofs.Ytoajibpconhkdaa
open Go.ChangeShapes Go.WideShapes Go.ChangeAt Go.RowKit
set_option linter.unusedVariables false
set_option linter.unusedSimpArgs false
theorem infoInt : (Try.prog.info? 3).map (fun i => (i.zero, i.size, i.bytes)) = some (some (.int .i64 0), 1, 8) := by kernel_rfl
/-- k moves ahead of the end. -/
def LgR (nxf : Int → List Int) (n sb Bg E : Nat) (Go' : Obj) (W2 : World) (M : List Int) (k : Nat) (s5 s6 s7 : Value) (wr : World) : Prop :=
  ∃ ps s Lf Lr, Lw nxf k (stOf nxf ps) s Lr ∧ Lf ++ Lr = M ∧ LgI n sb Bg E Go' W2 wr s5 s6 s7 ps s Lf ∧ (∀ p ∈ ps, 0 ≤ p.1 ∧ p.1 < (n : Int) ∧ p.2 ≤ (nxf p.1).length) ∧ ps.length + Lf.length + unS n s ≤ n
theorem row_cell {w : World} {base g n cap : Nat} {e : TypeId} {xs : List Value} (h : w.ownsRow base e 1 (.slice (some ⟨g, 0, none⟩) n cap) n xs) {i : Nat} (hi : i < n) {y : Value} (hy : xs[i]? = some y) : At w g i y := by
  obtain ⟨hl, ⟨e, q⟩ | ⟨g', cap', cur, e, h1, h2, h3, h4, h5, h6⟩⟩ := h
  · cases e
  · injection e with e1 e2 e3
    cases e1
    refine at_cells h2 ?_
    rw [← h6, List.getElem?_take] at hy
    split at hy
    · simpa using hy
    · cases hy
theorem row_frz {w : World} {base g n cap : Nat} {e : TypeId} {xs : List Value} (h : w.ownsRow base e 1 (.slice (some ⟨g, 0, none⟩) n cap) n xs) (i : Nat) : w.frozen? ⟨g, i, none⟩ = false := by
  obtain ⟨hl, ⟨e, q⟩ | ⟨g', cap', cur, e, h1, h2, h3, h4, h5, h6⟩⟩ := h
  · cases e
  · injection e with e1 e2 e3
    cases e1
    exact rw_cells h2 i
theorem row_form {w : World} {base n : Nat} {e : TypeId} {v : Value} {xs : List Value} (h : w.ownsRow base e 1 v n xs) (hn : 0 < n) : ∃ g cap, v = .slice (some ⟨g, 0, none⟩) n cap ∧ n ≤ cap := by
  rcases h.2 with ⟨_, h0⟩ | ⟨g, cap, _, rfl, _, _, h3, _⟩
  · omega
  · exact ⟨g, cap, rfl, h3⟩
set_option maxRecDepth 100000 in
set_option maxHeartbeats 8000000 in
theorem longS (d : FnD) (vp vb : Value) (w : World) {lo : Nat} (h : FnAt lo w d vp vb) (hn : fnN d ≤ 1048576) (hbig : 0 < d.blocks.length) :
    Calls Try.prog 30 #[fnV d vp vb] w fun e w' => ∃ v L, e = .returned v ∧ OrdOf (nextL d.blocks) d.blocks.length L ∧ OwnI w' w.heap.size v L ∧ Below w.heap.size w w' := by
  have CG : Kp (∀ W, Below w.heap.size w W → Calls Try.prog 32 #[fnV d vp vb] W _) := ⟨fun W hW => graphS d vp vb W (h.keep hW) hn⟩
  unfold fnN at hn
  obtain ⟨name, link, params, res, blocks⟩ := d
  obtain ⟨-, hp, hb⟩ := h
  dsimp only [fnV] at *
  have nn := blsN_nn blocks
  have n2 : (blocks.length : Int) ≤ 1048576 := by omega
  obtain ⟨a1, k1, rfl⟩ := hp.shape
  obtain ⟨a2, k2, rfl⟩ := hb.shape
  clear hp hb
  obtain ⟨n, hnl⟩ : ∃ n, Kp (blocks.length = n) := ⟨_, ⟨rfl⟩⟩
  have hnx : ∀ i : Nat, i < n → (nextL blocks i).length ≤ 1048576 ∧ ∀ y ∈ nextL blocks i, 0 ≤ y ∧ y < (n : Int) := fun i hi => ⟨by have := @nextL_len blocks i; omega, fun y hy => by have := nextL_bd hy; rw [hnl.out] at this; exact this⟩
  have hnp : 0 < n := by rw [← hnl.out]; exact hbig
  have hnm : n ≤ 1048576 := by rw [← hnl.out]; omega
  obtain ⟨k0, E0, hE0⟩ := exists_root (nextL blocks) n (fun i hi => (hnx i hi).2) 0 hnp
  have hLw := hE0.lw
  obtain ⟨M, hM⟩ : ∃ M, Kp (lefts E0 = M) := ⟨_, ⟨rfl⟩⟩
  rw [hM.out] at hLw
  have hOrd : Kp (OrdOf (nextL blocks) n M.reverse) := ⟨.inr ⟨hnp, k0, M, hLw, rfl⟩⟩
  obtain ⟨O, hmk, hSO⟩ := mkSeen n hnm
  rw [hnl.out] at CG ⊢
  obtain ⟨i0, hi0, hz0, hz1, hz2⟩ := info_parts info64
  obtain ⟨i1, hm0, hm1, hm2, hm3⟩ := info_parts infoInt
  replace hnx := Kp.mk hnx
  replace hSO := Kp.mk hSO
  obtain ⟨W1, hW1⟩ : ∃ W1, Kp (W1 = w.alloc (Go.Obj.cells #[.string name, .int .i64 link, .slice a1 params.length k1, .int .i64 res, .slice a2 n k2] 30)) := ⟨_, ⟨rfl⟩⟩
  have hB1 : Below w.heap.size w W1 := by rw [hW1.out]; exact bel_alloc _ _
  have hx1 : W1.heap[w.heap.size]? = some (Go.Obj.cells #[.string name, .int .i64 link, .slice a1 params.length k1, .int .i64 res, .slice a2 n k2] 30 (0, 0)) := by rw [hW1.out]; exact new_cells w _
  have x0 : W1.cell? ⟨w.heap.size, 0, none⟩ = _ := at_cells hx1 rfl
  have x1 : W1.cell? ⟨w.heap.size, 1, none⟩ = _ := at_cells hx1 rfl
  have x2 : W1.cell? ⟨w.heap.size, 2, none⟩ = _ := at_cells hx1 rfl
  have x3 : W1.cell? ⟨w.heap.size, 3, none⟩ = _ := at_cells hx1 rfl
  have x4 : W1.cell? ⟨w.heap.size, 4, none⟩ = _ := at_cells hx1 rfl
  replace hx1 := Kp.mk hx1
  replace hE0 := Kp.mk hE0
  replace hLw := Kp.mk hLw
  go_enter Try.func30, Try.ntmps30
  go_upto_region 1 with fail
  rw [← hW1.out]
  go_wp2_with fail
  refine (CG.out _ hB1).mono ?_
  rintro e W2 ⟨vN, vP, rfl, hN, hP, hB2⟩
  obtain ⟨hb', ho, ⟨⟨an, cn, rfl, g1, g2⟩, g3⟩, -, gc⟩ := hN.ex
  obtain rfl := g2 hnp
  obtain ⟨_, _, ⟨⟨ap, cp, rfl, -, -⟩, -⟩, -, -⟩ := hP.ex
  have GC : Kp (∀ (W : World) (i : Nat), Below W2.heap.size W2 W → i < n → ∃ a c b o, At W hb' (ho + i) (.slice a (nextL blocks i).length c) ∧ (0 < (nextL blocks i).length → a = some ⟨b, o, none⟩) ∧ ∀ q (h : q < (nextL blocks i).length), At W b (o + q) (.int .i64 (nextL blocks i)[q])) := ⟨fun W i hW hi => by
    obtain ⟨u, h1, h2⟩ := gc i hi
    obtain ⟨b, o, ⟨⟨a, c, rfl, s1, s2⟩, s3⟩, hl, hc⟩ := h2.ex
    exact ⟨a, c, b, o, at_keep h1 hW, s2, fun q hq => at_keep (hc q hq) hW⟩⟩
  have hs2 : w.heap.size + 1 ≤ W2.heap.size := by have := hB2.size; have := (Array.getElem?_eq_some_iff.1 hx1.out).1; omega
  have hB02 := bel_trans hB1 hB2
  clear gc hN hP g2 x0 x1 x2 x3 x4
  obtain ⟨Go', hGo⟩ : ∃ Go', Kp (Go' = Go.Obj.cells #[.slice (some ⟨hb', ho, none⟩) n cn, .slice ap n cp] 59 (0, 0)) := ⟨_, ⟨rfl⟩⟩
  obtain ⟨W5, hW5⟩ : ∃ W5, Kp (W5 = ((((W2.alloc (Go.Obj.cells #[.slice (some ⟨hb', ho, none⟩) n cn, .slice ap n cp] 59)).alloc O).alloc (Go.Obj.cells #[.int .i64 0] 2)).alloc (Go.Obj.cells #[.int .i64 0] 3)).alloc (Go.Obj.cells #[] 2)) := ⟨_, ⟨rfl⟩⟩
  have hL5 : LgI n (W2.heap.size + 1) W2.heap.size (W2.heap.size + 2) Go' W2 W5 (.slice (some ⟨W2.heap.size + 1 + 1, 0, none⟩) 1 1) (.slice (some ⟨W2.heap.size + 1 + 1 + 1, 0, none⟩) 1 1) (.slice (some ⟨W2.heap.size + 1 + 1 + 1 + 1, 0, none⟩) 0 0) [(0, 0)] [] [] := by
    rw [hW5.out]
    refine ⟨⟨⟨rfl, .inr ⟨_, 1, #[.int .i64 0], rfl, by omega, ?_, Nat.le_refl _, by decide, rfl, rfl⟩⟩⟩, ⟨rfl, .inr ⟨_, 1, #[.int .i64 0], rfl, by omega, ?_, Nat.le_refl _, by decide, rfl, rfl⟩⟩, ⟨⟨rfl, .inr ⟨_, 0, #[], rfl, by omega, ?_, Nat.le_refl _, by decide, rfl, rfl⟩⟩⟩, ?_, .inr (by intro e; simp only [Value.ownBlock, Option.some.injEq] at e; omega), .inr (by intro e; simp only [Value.ownBlock, Option.some.injEq] at e; omega), ?_, ?_, by simp⟩
    · repeat (first | (refine new_at ?_; simp; done) | refine keep_cells ?_ (bel_alloc _ _))
    · repeat (first | (refine new_at ?_; simp; done) | refine keep_cells ?_ (bel_alloc _ _))
    · repeat (first | (refine new_at ?_; simp; done) | refine keep_cells ?_ (bel_alloc _ _))
    · refine (((SeenAt.keep ?_ (bel_alloc _ _)).keep (bel_alloc _ _)).keep (bel_alloc _ _))
      have := hSO.out (W2.alloc (Go.Obj.cells #[.slice (some ⟨hb', ho, none⟩) n cn, .slice ap n cp] 59))
      rwa [World.size_alloc] at this
    · rw [hGo.out]
      repeat (first | (refine new_at ?_; simp; done) | refine keep_cells ?_ (bel_alloc _ _))
    · exact bel_trans (bel_trans (bel_trans (bel_trans (bel_alloc _ _) (bel_alloc _ _)) (bel_alloc _ _)) (bel_alloc _ _)) (bel_alloc _ _)
  have hL6 := hL5.mark (t := 0) (by omega) (by omega) (by omega) (Nat.le_refl _) hnp
  have hsc := hL5.seen.at hnp
  have hsf := hL5.seen.rw 0
  have hun : 1 + 0 + unS n [((0 : Nat) : Int)] ≤ n := by
    have h1 := unS_add n (s := []) hnp rfl
    have h2 := unS_nil n []
    rw [List.nil_append] at h1
    omega
  have hR6 : LgR (nextL blocks) n (W2.heap.size + 1) W2.heap.size (W2.heap.size + 2) Go' W2 M k0 (.slice (some ⟨W2.heap.size + 1 + 1, 0, none⟩) 1 1) (.slice (some ⟨W2.heap.size + 1 + 1 + 1, 0, none⟩) 1 1) (.slice (some ⟨W2.heap.size + 1 + 1 + 1 + 1, 0, none⟩) 0 0) (W5.setCell ⟨W2.heap.size + 1, 0, none⟩ (.bool true)) :=
    ⟨[(0, 0)], [((0 : Nat) : Int)], [], M, hLw.out, rfl, hL6, fun p hp => by
      obtain rfl := List.mem_singleton.1 hp
      exact ⟨by decide, by show (0 : Int) < n; omega, Nat.zero_le _⟩, hun⟩
  replace hL5 := Kp.mk hL5
  replace hL6 := Kp.mk hL6
  go_upto_region 6 with fail
  rw [← hW5.out]
  have hsc0 : W5.cell? ⟨W2.heap.size + 1, 0, none⟩ = some (.bool false) := hsc
  clear hW5 hmk hsc
  go_wp2_with fail
  go_loopg [5, 6, 7] k0 (fun k s5 s6 s7 wr => LgR (nextL blocks) n (W2.heap.size + 1) W2.heap.size (W2.heap.size + 2) Go' W2 M k s5 s6 s7 wr)
  case atStart => exact hR6
  case round =>
    clear hR6 hsc0 hsf
    obtain ⟨ps, s, Lf, Lr, hlw, hLM, hI, hval, hcn⟩ := hrel
    rcases List.eq_nil_or_concat ps with rfl | ⟨us, x, ews⟩
    · have hLr := Lw.inv_nil hlw
      subst hLr
      rw [List.append_nil] at hLM
      subst hLM
      have hlO := hI.lf
      have hbl := hB02.trans (hI.bel.mono (by omega))
      have hln : Lf.length ≤ 1048576 := by simp at hcn; omega
      obtain ⟨a5, c5, e5⟩ := hI.st.shape
      subst e5
      obtain ⟨a2', c2', e7⟩ := hlO.shape
      subst e7
      have hsz := hI.sz
      replace hI := Kp.mk hI
      replace hlw := Kp.mk hlw
      have hOut : ∀ (W : World), Below w.heap.size w W → ∀ v, v = Value.slice (some ⟨W.heap.size, 0, none⟩) 0 0 → OwnI (W.alloc (Go.Obj.cells #[] 2)) w.heap.size v [] := fun W hW v e => by
        subst e
        exact ⟨rfl, .inr ⟨_, 0, #[], rfl, hW.size, new_cells _ _, Nat.le_refl _, by decide, rfl, rfl⟩⟩
      have hown2 := hOut wr hbl _ rfl
      have hlOa := hlO.keep (bel_alloc wr (Go.Obj.cells #[] 2))
      have hbla := hbl.trans ((bel_alloc wr (Go.Obj.cells #[] 2)).mono hbl.size)
      have hsep : (Value.slice (some ⟨wr.heap.size, 0, none⟩) 0 0).ownBlock ≠ (Value.slice a2' Lf.length c2').ownBlock := fun e => by have : wr.heap.size < wr.heap.size := (hlO.r.lt _ e.symm).2; omega
      obtain ⟨wq, hwq⟩ : ∃ wq, Kp (wq = wr.alloc (Go.Obj.cells #[] 2)) := ⟨_, ⟨rfl⟩⟩
      rw [← hwq.out] at hown2 hlOa hbla
      clear hOut
      go_upto_region 21 with fail
      rw [← hwq.out]
      clear hwq
      go_wp2_with fail
      go_loopw [11, 12] (fun r q wz => ∃ k : Nat, k ≤ Lf.length ∧ q = .int .i64 ((k : Int) - 1) ∧ OwnI wz w.heap.size r (Lf.drop k).reverse ∧ OwnI wz (W2.heap.size + 2) (.slice a2' Lf.length c2') Lf ∧ r.ownBlock ≠ (Value.slice a2' Lf.length c2').ownBlock ∧ Below w.heap.size w wz) (fun _ q _ => (intOf q + 1).toNat)
      case atStart => exact ⟨Lf.length, Nat.le_refl _, by simp, by rw [List.drop_eq_nil_of_le (Nat.le_refl _)]; exact hown2, hlOa, hsep, hbla⟩
      case round =>
        clear hown2 hlOa hsep hbla
        obtain ⟨k, hk, rfl, hown, hO, hsep, hB⟩ := hrel
        by_cases k0 : k = 0
        · subst k0
          rw [List.drop_zero] at hown
          replace hown := Kp.mk hown
          go_wp2_with fail
          go_ret
          exact ⟨_, _, rfl, hOrd.out, hown.out, hB⟩
        · obtain ⟨j, rfl⟩ : ∃ j, k = j + 1 := ⟨k - 1, by omega⟩
          have ej : (((j + 1 : Nat) : Int) - 1) = (j : Int) := by omega
          rw [ej]
          have hj : j < Lf.length := by omega
          obtain ⟨gb, go, ⟨⟨_, _, eq, -, ga⟩, -⟩, -, gc⟩ := (hO.ints hln).ex
          cases eq
          obtain rfl := ga (by omega)
          have c0 := gc j hj
          have hst : Kp ((Lf.drop j).reverse = (Lf.drop (j + 1)).reverse ++ [Lf[j]]) := ⟨by rw [List.drop_eq_getElem_cons hj, List.reverse_cons]⟩
          obtain ⟨ys, hys⟩ : ∃ ys, Kp ((Lf.drop (j + 1)).reverse = ys) := ⟨_, ⟨rfl⟩⟩
          rw [hys.out] at hown hst
          have hyl : ys.length ≤ 1048576 := by rw [← hys.out, List.length_reverse, List.length_drop]; omega
          generalize Lf[j] = x at *
          have hj0 : (0 : Int) ≤ (j : Int) := by omega
          obtain ⟨ar, cr, hr⟩ := hown.shape
          subst hr
          replace hst := Kp.mk hst
          have hwz : w.heap.size ≤ (wr.alloc (Go.Obj.cells #[.int .i64 x] 2)).heap.size := by have := hB.size; simp; omega
          clear gc
          go_wp2_with (at_builtin; refine wpList_append_lies _ rfl _ _ _ rfl w.heap.size 2 i0 _ 1 8 Try.underlying22 hi0 hz0 hz1 hz2 rfl (by omega) (.slice ar ys.length cr) ys.length (ys.map (Value.int .i64)) rfl (hown.r.alloc _) ⟨wr.heap.size, 0, none⟩ 1 1 [.int .i64 x] rfl rfl (World.news_of_block (cs := #[.int .i64 x]) (t := 2) (fr := (0, 0)) (heap_alloc_new wr _)) (by simp [Value.oneCell']) (by omega) (by unfold maxLen; omega) (by omega) hwz (wr.heap.size + 1) (by simp) ?_; intro gg cap w3 hown3 hgrow hat hlt3)
          have hO3 := (hO.keep (bel_alloc wr (Go.Obj.cells #[.int .i64 x] 2))).kept hgrow (.inr (Ne.symm hsep))
          have hB3 := (hB.alloc hB.size (Go.Obj.cells #[.int .i64 x] 2)).grown hgrow hwz (fun g hg => (hown.r.lt _ hg).1)
          have hsep3 : (Value.slice (some ⟨gg, 0, none⟩) (ys.length + 1) cap).ownBlock ≠ (Value.slice (some ⟨gb, go, none⟩) Lf.length c2').ownBlock := by
            rcases hat with q | q
            · show some gg ≠ _
              rw [← q]; exact hsep
            · intro e
              have h1 := (hO.r.lt gb rfl).2
              simp only [Value.ownBlock, Option.some.injEq] at e
              omega
          have hown4 : OwnI w3 w.heap.size (.slice (some ⟨gg, 0, none⟩) (ys.length + 1) cap) (Lf.drop j).reverse := ⟨by rw [hst.out.out]; simpa using hown3⟩
          replace hown4 := Kp.mk hown4
          clear hown hO hB hown3 hgrow hsep
          go_wp2_with fail
          exact ⟨⟨j, by omega, by go_num, hown4.out, hO3, hsep3, hB3⟩, by simp [intOf]; omega⟩
    · rw [List.concat_eq_append] at ews
      subst ews
      obtain ⟨b, j⟩ := x
      obtain ⟨b0, b1, hj⟩ := hval (b, j) (by simp)
      have hvu : ∀ p ∈ us, 0 ≤ p.1 ∧ p.1 < (n : Int) ∧ p.2 ≤ (nextL blocks p.1).length := fun p hp => hval p (by simp [hp])
      dsimp only at b0 b1 hj
      obtain ⟨tb, rfl⟩ : ∃ tb : Nat, b = tb := ⟨b.toNat, by omega⟩
      have htb : tb < n := by omega
      have hul : us.length + 1 + Lf.length + unS n s ≤ n := by simpa using hcn
      have hst := hI.st.r
      rw [show (stV (us ++ [((tb : Int), j)])).length = us.length + 1 by simp] at hst
      obtain ⟨g5, c5, e5, hc5⟩ := row_form hst (Nat.succ_pos _)
      subst e5
      have hnr := hI.nx
      rw [show (us ++ [((tb : Int), j)]).length = us.length + 1 by simp] at hnr
      obtain ⟨g6, c6, e6, hc6⟩ := row_form hnr (Nat.succ_pos _)
      subst e6
      have d5 := row_cell hst (i := us.length) (by omega) (y := .int .i64 tb) (by simp)
      have d6 := row_cell hnr (i := us.length) (by omega) (y := .int .i64 j) (by simp)
      have hG := hI.box
      rw [hGo.out] at hG
      have y0 := at_cells hG (j := 0) rfl
      obtain ⟨ra, rc, rb, ro, hrow, hra, hrcs⟩ := GC.out wr tb hI.bel htb
      have ub : (0 : Int) ≤ (us.length : Int) := by omega
      have ub1 : (us.length : Int) < (us.length : Int) + 1 := by omega
      have tb0 : (0 : Int) ≤ (tb : Int) := by omega
      have tb1 : (tb : Int) < (n : Int) := by omega
      have hc5' : us.length ≤ c5 := by omega
      have hc6' : us.length ≤ c6 := by omega
      obtain ⟨wd, hwd⟩ : ∃ wd, Kp (wd = wr.drew) := ⟨_, ⟨rfl⟩⟩
      obtain ⟨a7, c7, e7⟩ := hI.lf.shape
      subst e7
      have hId := hI.keep (bel_drew wr) (by omega)
      rw [← hwd.out] at hId
      rw [stOf_snoc] at hlw
      dsimp only at hlw
      replace hI := Kp.mk hI
      replace hst := Kp.mk hst
      replace hnr := Kp.mk hnr
      replace hG := Kp.mk hG
      by_cases hjl : j = (nextL blocks tb).length
      · have hjb : ((j : Int) == ((nextL blocks tb).length : Int)) = true := by rw [hjl]; simp
        rw [hjl, List.drop_eq_nil_of_le (Nat.le_refl _)] at hlw
        obtain ⟨k', Lr', rfl, rfl, hlw'⟩ := Lw.inv_leave hlw
        replace hlw := Kp.mk hlw
        replace hlw' := Kp.mk hlw'
        replace hjl := Kp.mk hjl
        go_upto_region 10 with fail
        go_region
        go_upto_region 11 with fail
        rw [← hwd.out]
        have hIa := hId.keep (bel_alloc wd (Go.Obj.cells #[.int .i64 tb] 2)) (by omega)
        have hbs : W2.heap.size + 2 ≤ (wd.alloc (Go.Obj.cells #[.int .i64 tb] 2)).heap.size := hIa.sz
        replace hId := Kp.mk hId
        go_wp2_with (at_builtin; refine wpList_append_lies _ rfl _ _ _ rfl (W2.heap.size + 2) 2 i0 _ 1 8 Try.underlying22 hi0 hz0 hz1 hz2 rfl (by omega) (.slice a7 Lf.length c7) Lf.length (Lf.map (Value.int .i64)) rfl hIa.lf.r ⟨wd.heap.size, 0, none⟩ 1 1 [.int .i64 tb] rfl rfl (World.news_of_block (cs := #[.int .i64 tb]) (t := 2) (fr := (0, 0)) (heap_alloc_new wd _)) (by simp [Value.oneCell']) (by omega) (by unfold maxLen; omega) (by omega) hbs (wd.alloc (Go.Obj.cells #[.int .i64 tb] 2)).heap.size rfl ?_; intro gg cap w3 hown3 hgrow hat hlt3)
        have hI3 := (hIa.left (by omega) (by omega) (by omega) hgrow hown3 hat).pop
        have hLgR : LgR (nextL blocks) n (W2.heap.size + 1) W2.heap.size (W2.heap.size + 2) Go' W2 M k' _ _ _ w3 := ⟨us, s, Lf ++ [(tb : Int)], Lr', hlw'.out, by rw [List.append_assoc]; exact hLM, hI3, hvu, by simp; omega⟩
        go_roundg k'
        case measure => omega
        case rel => exact hLgR
      · have hjb : ((j : Int) == ((nextL blocks tb).length : Int)) = false := by rw [beq_eq_false_iff_ne]; omega
        have hjt : j < (nextL blocks tb).length := by omega
        have hny := (hnx.out tb htb).2 _ (List.getElem_mem hjt)
        rw [List.drop_eq_getElem_cons hjt] at hlw
        have hjm : (j : Int) ≤ 1048576 := by have := (hnx.out tb htb).1; omega
        have c0 := hrcs j hjt
        obtain rfl := hra (by omega)
        have hj0 : (0 : Int) ≤ (j : Int) := by omega
        have hj1 : (j : Int) < ((nextL blocks tb).length : Int) := by omega
        generalize hte : (nextL blocks tb)[j] = y at *
        obtain ⟨t, rfl⟩ : ∃ t : Nat, y = t := ⟨y.toNat, by omega⟩
        have ht : t < n := by omega
        replace hte := Kp.mk hte
        have bwd : Below wr.heap.size wr wd := by rw [hwd.out]; exact bel_drew wr
        have d5d := at_keep d5 bwd
        have d6d := at_keep d6 bwd
        have y0d := at_keep y0 bwd
        have rwd := at_keep hrow bwd
        have c0d := at_keep c0 bwd
        obtain ⟨we, hwe⟩ : ∃ we, Kp (we = wd.drew) := ⟨_, ⟨rfl⟩⟩
        have hIe := hId.keep (bel_drew wd) (by omega)
        rw [← hwe.out] at hIe
        have hIi := hIe.inc (by omega) (by omega) (by omega)
        obtain ⟨w4, hw4⟩ : ∃ w4, Kp (w4 = we.setCell ⟨g6, us.length, none⟩ (.int .i64 ((j : Int) + 1))) := ⟨_, ⟨rfl⟩⟩
        rw [← hw4.out] at hIi
        have d6e := row_cell (by have := hIe.nx; rwa [show (us ++ [((tb : Int), j)]).length = us.length + 1 by simp] at this) (i := us.length) (by omega) (y := .int .i64 j) (by simp)
        have d6f := row_frz (by have := hIe.nx; rwa [show (us ++ [((tb : Int), j)]).length = us.length + 1 by simp] at this) us.length
        have sa := hIi.seen.at ht
        have sf := hIi.seen.rw t
        have ht0 : (0 : Int) ≤ (t : Int) := by omega
        have ht1 : (t : Int) < (n : Int) := by omega
        obtain ⟨k', rfl, hcase⟩ := Lw.inv_cons hlw
        have hvn : ∀ p ∈ us ++ [((tb : Int), j + 1)], 0 ≤ p.1 ∧ p.1 < (n : Int) ∧ p.2 ≤ (nextL blocks p.1).length := fun p hp => by
          rcases List.mem_append.1 hp with hp | hp
          · exact hvu p hp
          · obtain rfl := List.mem_singleton.1 hp
            exact ⟨by omega, by omega, hjt⟩
        replace hlw := Kp.mk hlw
        replace hId := Kp.mk hId
        replace hIe := Kp.mk hIe
        replace hIi := Kp.mk hIi
        replace hjl := Kp.mk hjl
        rcases hcase with ⟨hcs, hlw'⟩ | ⟨hcs, hlw'⟩
        · rw [hcs] at sa
          replace hlw' := Kp.mk hlw'
          replace hcs := Kp.mk hcs
          go_upto_region 10 with fail
          go_region
          go_upto_region 14 with fail
          rw [← hwd.out]
          go_region
          go_upto_region 15 with fail
          rw [← hwe.out]
          go_upto_region 16 with fail
          rw [← hw4.out]
          have hLgR : LgR (nextL blocks) n (W2.heap.size + 1) W2.heap.size (W2.heap.size + 2) Go' W2 M k' _ _ _ w4 := ⟨us ++ [((tb : Int), j + 1)], s, Lf, Lr, by rw [stOf_snoc]; exact hlw'.out, hLM, hIi.out, hvn, by simp; omega⟩
          go_wp2_with fail
          go_roundg k'
          case measure => omega
          case rel => exact hLgR
        · rw [hcs] at sa
          replace hlw' := Kp.mk hlw'
          have hun := unS_add n ht hcs
          replace hcs := Kp.mk hcs
          have hI5 := hIi.out.mark (by omega) (by omega) (by omega) (Nat.le_refl _) ht
          obtain ⟨w5, hw5⟩ : ∃ w5, Kp (w5 = w4.setCell ⟨W2.heap.size + 1, t, none⟩ (.bool true)) := ⟨_, ⟨rfl⟩⟩
          rw [← hw5.out] at hI5
          have hI5a := hI5.keep (bel_alloc w5 (Go.Obj.cells #[.int .i64 t] 2)) (by omega)
          have hbs : W2.heap.size + 2 ≤ (w5.alloc (Go.Obj.cells #[.int .i64 t] 2)).heap.size := hI5a.sz
          have hst5 := hI5a.st.r
          have hnl5 : (stV (us ++ [((tb : Int), j + 1)])).length = us.length + 1 := by simp
          rw [hnl5] at hst5
          replace hI5 := Kp.mk hI5
          go_upto_region 10 with fail
          go_region
          go_upto_region 14 with fail
          rw [← hwd.out]
          go_region
          go_upto_region 15 with fail
          rw [← hwe.out]
          go_upto_region 16 with fail
          rw [← hw4.out]
          go_upto_region 18 with fail
          rw [← hw5.out]
          have hnl6 : (us ++ [((tb : Int), j + 1)]).length = us.length + 1 := by simp
          go_upto_region 19 with (at_builtin; refine wpList_append_lies _ rfl _ _ 22 rfl (W2.heap.size + 2) 2 i0 _ 1 8 Try.underlying22 hi0 hz0 hz1 hz2 rfl (by omega) (.slice (some ⟨g5, 0, none⟩) (us.length + 1) c5) (us.length + 1) _ rfl hst5 ⟨w5.heap.size, 0, none⟩ 1 1 [.int .i64 t] rfl rfl (World.news_of_block (cs := #[.int .i64 t]) (t := 2) (fr := (0, 0)) (heap_alloc_new w5 _)) (by simp [Value.oneCell']) (by omega) (by unfold maxLen; omega) (by omega) hbs (w5.alloc (Go.Obj.cells #[.int .i64 t] 2)).heap.size rfl ?_; intro gg cap w6 hown6 hgrow6 hat6 hlt6)
          have h6n := (hI5a.nx.kept hgrow6 (ne_types hI5a.nx hI5a.st.r (by decide))).alloc (Go.Obj.cells #[.int .i64 0] 3)
          rw [hnl6] at h6n
          have hb6 : W2.heap.size + 2 ≤ (w6.alloc (Go.Obj.cells #[.int .i64 0] 3)).heap.size := by have := hgrow6.size; simp at this hbs ⊢; omega
          go_wp2_with (at_builtin; refine wpList_append_lies _ rfl _ _ 81 rfl (W2.heap.size + 2) 3 i1 _ 1 8 Try.underlying81 hm0 hm1 hm2 hm3 rfl (by omega) (.slice (some ⟨g6, 0, none⟩) (us.length + 1) c6) (us.length + 1) _ rfl h6n ⟨w6.heap.size, 0, none⟩ 1 1 [.int .i64 0] rfl rfl (World.news_of_block (cs := #[.int .i64 0]) (t := 3) (fr := (0, 0)) (heap_alloc_new w6 _)) (by simp [Value.oneCell']) (by omega) (by unfold maxLen; omega) (by omega) hb6 (w6.alloc (Go.Obj.cells #[.int .i64 0] 3)).heap.size rfl ?_; intro gg2 cap2 w7 hown7 hgrow7 hat7 hlt7)
          have hI7 := hI5a.push (by omega) (by omega) (by omega) hgrow6 (by rw [hnl5]; exact hown6) hat6 (fun _ _ => (World.grownBy_alloc w6 (Go.Obj.cells #[.int .i64 0] 3) _).trans hgrow7) (by rw [hnl6]; exact hown7)
          rw [hnl5, hnl6] at hI7
          have hLgR : LgR (nextL blocks) n (W2.heap.size + 1) W2.heap.size (W2.heap.size + 2) Go' W2 M k' _ _ _ w7 := ⟨(us ++ [((tb : Int), j + 1)]) ++ [((t : Int), 0)], s ++ [(t : Int)], Lf, Lr, by rw [stOf_snoc, stOf_snoc]; exact hlw'.out, hLM, hI7, fun p hp => by
            rcases List.mem_append.1 hp with hp | hp
            · exact hvn p hp
            · obtain rfl := List.mem_singleton.1 hp
              exact ⟨by omega, by omega, Nat.zero_le _⟩, by simp; omega⟩
          go_roundg k'
          case measure => omega
          case rel => exact hLgR
end Go.Proofs.Ytoajibpconhkdaa
