/- The graph of a function: the program's answer. -/
import Derived.Test.YtbfpfjkjeekbdaaGr1
import Derived.Deep.RegionHeld3
import Derived.Deep.AppendLies
namespace Go.Proofs.Ytbfpfjkjeekbdaa
open Go.ChangeShapes Go.WideShapes Go.ChangeAt Go.RowKit
set_option linter.unusedVariables false
set_option linter.unusedSimpArgs false
theorem HdG.congr {w : World} {b n : Nat} {g g' : Nat → Value} (h : HdG w b n g) (e : ∀ i, i < n → g' i = g i) : HdG w b n g' := by
  obtain ⟨cur, h1, h2⟩ := h.ex
  exact ⟨cur, h1, fun i hi => by rw [e i hi]; exact h2 i hi⟩
/-- 'make([][]int64, n)': a row of nil slices. -/
theorem mkHd (n : Nat) (hn : n ≤ 1048576) : ∃ O : Obj, (∀ W : World, (Instr.makeSlice 43 (.int .i64 (n : Int)) (.int .i64 (n : Int))).run Try.prog W = .ok (.slice (some ⟨W.heap.size, 0, none⟩) n n) (W.alloc O)) ∧ ∀ W : World, HdG (W.alloc O) W.heap.size n (fun _ => .slice none 0 0) := by
  obtain ⟨i, hi, hzz⟩ := Option.map_eq_some_iff.1 (show (Try.prog.info? 22).map (fun i => (i.zero, i.size, i.bytes)) = some (some (.slice none 0 0), 1, 24) by kernel_rfl)
  simp only [Prod.mk.injEq] at hzz
  obtain ⟨hz, hs, hbb⟩ := hzz
  refine ⟨.cells (madeCells (Value.slice none 0 0).cells (n * 1)) 22, fun W => ?_, fun W => ⟨_, new_cells W _, fun j hj => ?_⟩⟩
  · have hb' : (i.bytes : Int) * (n : Int) ≤ 281474976710656 := by rw [hbb]; omega
    have hr := run_make (P := Try.prog) W 43 22 i _ Try.underlying43 hi hz .i64 .i64 n n (by omega) (Int.le_refl _) hb' (by omega)
    simp only [Int.toNat_natCast, hs] at hr
    exact hr
  · have e := size_madeCells (Value.slice none 0 0).cells (n * 1)
    have hj2 : j < (madeCells (Value.slice none 0 0).cells (n * 1)).size := by rw [e]; omega
    rw [Array.getElem?_eq_getElem hj2]
    simp [madeCells, Value.cells, Nat.mod_one]
theorem new_at {W : World} {o : Obj} {b : Nat} (h : W.heap.size = b) : (W.alloc o).heap[b]? = some o := h ▸ new_cells W o
theorem bel_drew (w : World) : Below w.heap.size w w.drew := (Below.refl _ _).drew
theorem OwnI.shape {w : World} {base : Nat} {v : Value} {xs : List Int} (h : OwnI w base v xs) : ∃ a c, v = .slice a xs.length c := by
  rcases h.r.2 with ⟨rfl, h0⟩ | ⟨g, cap, cur, rfl, _⟩
  · exact ⟨none, 0, by rw [h0]⟩
  · exact ⟨_, _, rfl⟩
/-- What holds between two blocks: the first b of 'next' are set; 'prev' is P. -/
structure GrI (blocks : List (List InD)) (w wr : World) (B bN bP : Nat) (Fo Go' Ro : Obj) (b : Nat) (P : Nat → List Int) (f : Bool × Nat → Value) (x : Bool × Nat → List Int) : Prop where
  fam : Fam wr (w.heap.size + 2) (fun k => k.2 < blocks.length) f x
  hN : HdG wr bN blocks.length (fun i => f (false, i))
  hP : HdG wr bP blocks.length (fun i => f (true, i))
  xN : ∀ i, i < blocks.length → x (false, i) = if i < b then nextL blocks i else []
  xP : ∀ i, i < blocks.length → x (true, i) = P i
  F : wr.heap[w.heap.size]? = some Fo
  G : wr.heap[B]? = some Go'
  R : wr.heap[w.heap.size + 1]? = some Ro
  bel : Below w.heap.size w wr
section
variable {blocks : List (List InD)} {w wr w' : World} {B bN bP : Nat} {Fo Go' Ro : Obj} {b : Nat} {P : Nat → List Int} {f : Bool × Nat → Value} {x : Bool × Nat → List Int}
theorem GrI.keep (h : GrI blocks w wr B bN bP Fo Go' Ro b P f x) (hb : Below wr.heap.size wr w') : GrI blocks w w' B bN bP Fo Go' Ro b P f x :=
  ⟨h.fam.keep hb, h.hN.keep hb, h.hP.keep hb, h.xN, h.xP, keep_cells h.F hb, keep_cells h.G hb, keep_cells h.R hb, bel_trans h.bel hb⟩
theorem heap_set (w : World) (b j k : Nat) (u : Value) (h : k ≠ b) : (w.setCell ⟨b, j, none⟩ u).heap[k]? = w.heap[k]? := Below.heap_setCell _ _ _ k h
theorem HdG.setOther {w : World} {b n b' j : Nat} {g : Nat → Value} (h : HdG w b n g) (u : Value) (hne : b ≠ b') : HdG (w.setCell ⟨b', j, none⟩ u) b n g := by
  obtain ⟨cur, h1, h2⟩ := h.ex
  exact ⟨cur, (heap_set _ _ _ _ _ hne).trans h1, h2⟩
theorem GrI.setN (h : GrI blocks w wr B bN bP Fo Go' Ro b P f x) (hlt : b < blocks.length) (hb : Below wr.heap.size wr w') (hs : w.heap.size + 2 ≤ wr.heap.size) {v : Value} (ho : OwnI w' wr.heap.size v (nextL blocks b))
    (hne : bN ≠ bP) (hBN : B ≠ bN) (hB2 : w.heap.size + 2 ≤ bN) : GrI blocks w (w'.setCell ⟨bN, b, none⟩ v) B bN bP Fo Go' Ro (b + 1) P (upd f (false, b) v) (upd x (false, b) (nextL blocks b)) := by
  have hN2 := h.hN.keep hb
  refine ⟨(h.fam.fresh (false, b) hb hs ho).setHd hN2 b v, (hN2.set hlt v).congr (fun i hi => ?_), ((h.hP.keep hb).setOther v (Ne.symm hne)).congr (fun i hi => ?_), fun i hi => ?_, fun i hi => ?_, ?_, ?_, ?_, ?_⟩
  · by_cases e : i = b
    · subst e; rw [upd_same, upd_same]
    · rw [upd_other _ _ _ _ e, upd_other _ _ _ _ (by intro q; cases q; exact e rfl)]
  · rw [upd_other _ _ _ _ (by intro q; cases q)]
  · by_cases e : i = b
    · subst e; rw [upd_same, if_pos (Nat.lt_succ_self _)]
    · rw [upd_other _ _ _ _ (by intro q; cases q; exact e rfl), h.xN i hi]
      by_cases q : i < b
      · rw [if_pos q, if_pos (by omega)]
      · rw [if_neg q, if_neg (by omega)]
  · rw [upd_other _ _ _ _ (by intro q; cases q)]
    exact h.xP i hi
  · exact (heap_set _ _ _ _ _ (by omega)).trans (keep_cells h.F hb)
  · exact (heap_set _ _ _ _ _ hBN).trans (keep_cells h.G hb)
  · exact (heap_set _ _ _ _ _ (by omega)).trans (keep_cells h.R hb)
  · exact (bel_trans h.bel hb).setCell (by show w.heap.size ≤ bN; omega) _
/-- Without the cells of what is handed back. -/
structure GrR (blocks : List (List InD)) (w wr : World) (bN bP : Nat) (b : Nat) (P : Nat → List Int) (f : Bool × Nat → Value) (x : Bool × Nat → List Int) : Prop where
  fam : Fam wr (w.heap.size + 2) (fun k => k.2 < blocks.length) f x
  hN : HdG wr bN blocks.length (fun i => f (false, i))
  hP : HdG wr bP blocks.length (fun i => f (true, i))
  xN : ∀ i, i < blocks.length → x (false, i) = if i < b then nextL blocks i else []
  xP : ∀ i, i < blocks.length → x (true, i) = P i
  bel : Below w.heap.size w wr
theorem GrR.setR (h : GrR blocks w wr bN bP b P f x) (v : Value) (j : Nat) (hB2 : w.heap.size + 2 ≤ bN) (hB3 : w.heap.size + 2 ≤ bP) : GrR blocks w (wr.setCell ⟨w.heap.size + 1, j, none⟩ v) bN bP b P f x :=
  ⟨⟨fun k hk => (h.fam.own k hk).kept (Fam.setHd.gset wr (w.heap.size + 1) j v) (.inr fun e => by have := ((h.fam.own k hk).lt _ e).1; omega), h.fam.apart⟩, h.hN.setOther v (by omega), h.hP.setOther v (by omega), h.xN, h.xP, h.bel.setCell (by show w.heap.size ≤ w.heap.size + 1; omega) _⟩
theorem GrI.push {w1 w2 : World} (h : GrI blocks w wr B bN bP Fo Go' Ro b P f x) {t : Nat} (hlt : t < blocks.length) (hb : Below wr.heap.size wr w1) (hs : w.heap.size + 2 ≤ wr.heap.size) (hg : w1.grownBy w2 (f (true, t)).ownBlock) {v : Value} {k : Int}
    (ho : w2.ownsRow (w.heap.size + 2) 2 1 v (x (true, t) ++ [k]).length ((x (true, t) ++ [k]).map (Value.int .i64))) (hl : v.ownBlock = (f (true, t)).ownBlock ∨ v.ownBlock = some w1.heap.size)
    (hne : bN ≠ bP) (hBP : B ≠ bP) (hB2 : w.heap.size + 2 ≤ bP) (hB : w.heap.size + 2 ≤ B) (hGt : ∀ g, (f (true, t)).ownBlock = some g → g ≠ B) :
    GrI blocks w (w2.setCell ⟨bP, t, none⟩ v) B bN bP Fo Go' Ro b (pushT k P t) (upd f (true, t) v) (upd x (true, t) (x (true, t) ++ [k])) := by
  have h1 := h.keep hb
  have hS : (fun k : Bool × Nat => k.2 < blocks.length) (true, t) := hlt
  have hrow := h1.fam.own (true, t) hS
  have hF2 := h1.fam.put (true, t) hS hg ho hl
  have hP2 := h1.hP.kept hg (h1.hP.ne_row hrow)
  have hN2 := h1.hN.kept hg (h1.hN.ne_row hrow)
  have hlow : ∀ j, j < w.heap.size + 2 → j < w1.heap.size → w2.heap[j]? = w1.heap[j]? := fun j hj hj2 => hg.block j hj2 (fun e => by have := (hrow.lt _ e.symm).1; omega)
  have hs1 : wr.heap.size ≤ w1.heap.size := hb.size
  refine ⟨hF2.setHd hP2 t v, (hN2.setOther v hne).congr (fun i hi => ?_), (hP2.set hlt v).congr (fun i hi => ?_), fun i hi => ?_, fun i hi => ?_, ?_, ?_, ?_, ?_⟩
  · rw [upd_other _ _ _ _ (by intro q; cases q)]
  · by_cases e : i = t
    · subst e; rw [upd_same, upd_same]
    · rw [upd_other _ _ _ _ e, upd_other _ _ _ _ (by intro q; cases q; exact e rfl)]
  · rw [upd_other _ _ _ _ (by intro q; cases q)]
    exact h.xN i hi
  · unfold pushT
    rw [Int.toNat_natCast]
    by_cases e : i = t
    · subst e; rw [upd_same, upd_same, h.xP i hi]
    · rw [upd_other _ _ _ _ e, upd_other _ _ _ _ (by intro q; cases q; exact e rfl), h.xP i hi]
  · exact ((heap_set _ _ _ _ _ (by omega)).trans (hlow _ (by omega) (by omega))).trans h1.F
  · exact ((heap_set _ _ _ _ _ hBP).trans (hg.block _ (Array.getElem?_eq_some_iff.1 h1.G).1 (fun e => hGt _ e.symm rfl))).trans h1.G
  · exact ((heap_set _ _ _ _ _ (by omega)).trans (hlow _ (by omega) (by omega))).trans h1.R
  · exact (h1.bel.grown hg h1.bel.size (fun j hj => by have := (hrow.lt _ hj).1; omega)).setCell (by show w.heap.size ≤ bP; omega) _
end
set_option maxRecDepth 100000 in
set_option maxHeartbeats 8000000 in
theorem graphI (d : FnD) (vp vb : Value) (w : World) {lo : Nat} (h : FnAt lo w d vp vb) (hn : fnN d ≤ 1048576) :
    Calls Try.prog 29 #[fnV d vp vb] w fun e w' => ∃ vN vP, e = .returned (.agg #[vN, vP]) ∧ Rws w.heap.size w' vN d.blocks.length (fun i => nextL d.blocks i) ∧ Rws w.heap.size w' vP d.blocks.length (prevs d.blocks d.blocks.length) ∧ Below w.heap.size w w' := by
  have CN : Kp (∀ W (k : Nat), Below w.heap.size w W → Calls Try.prog 52 #[fnV d vp vb, .int .i64 k] W fun e w' => ∃ v, e = .returned v ∧ OwnI w' W.heap.size v (nextL d.blocks k) ∧ Below W.heap.size W w') := ⟨fun W k hW => nextI d vp vb k W (h.keep hW) hn⟩
  unfold fnN at hn
  obtain ⟨name, link, params, res, blocks⟩ := d
  obtain ⟨-, hp, hb⟩ := h
  dsimp only [fnV] at *
  have nn := blsN_nn blocks
  have n2 : (blocks.length : Int) ≤ 1048576 := by omega
  obtain ⟨a1, k1, rfl⟩ := hp.shape
  obtain ⟨a2, k2, rfl⟩ := hb.shape
  obtain ⟨O, hmk, hHO⟩ := mkHd blocks.length (by omega)
  replace hHO := Kp.mk hHO
  clear hp hb
  obtain ⟨W0, hW⟩ : ∃ W0, Kp (W0 = w.alloc (Go.Obj.cells #[.string name, .int .i64 link, .slice a1 params.length k1, .int .i64 res, .slice a2 blocks.length k2] 30)) := ⟨_, ⟨rfl⟩⟩
  go_enter Try.func29, Try.ntmps29
  go_upto_region 1 with fail
  have H0 : ∀ (W : World) (b : Nat), W.heap.size = b → HdG (W.alloc O) b blocks.length (fun _ => .slice none 0 0) := fun W b h => h ▸ hHO.out W
  go_cut [3] (fun s wr => ∃ B bN bP, s = .pointer (some ⟨B, 0, none⟩) ∧ wr.heap[B]? = some (Go.Obj.cells #[.slice (some ⟨bN, 0, none⟩) blocks.length blocks.length, .slice (some ⟨bP, 0, none⟩) blocks.length blocks.length] 53 (0, 0)) ∧
    HdG wr bN blocks.length (fun _ => .slice none 0 0) ∧ HdG wr bP blocks.length (fun _ => .slice none 0 0) ∧ bN ≠ bP ∧ w.heap.size + 2 ≤ B ∧ w.heap.size + 2 ≤ bN ∧ w.heap.size + 2 ≤ bP ∧
    wr.heap[w.heap.size]? = some (Go.Obj.cells #[.string name, .int .i64 link, .slice a1 params.length k1, .int .i64 res, .slice a2 blocks.length k2] 30 (0, 0)) ∧ wr.heap[w.heap.size + 1]? = some (Go.Obj.cells #[.slice none 0 0, .slice none 0 0] 53 (0, 0)) ∧ Below w.heap.size w wr)
  case first =>
    replace H0 := Kp.mk H0
    go_region
    all_goals go_wp2_with fail
    all_goals go_meet
    all_goals
      clear hmk CN
      refine ⟨_, _, _, rfl, (by
        refine keep_cells ?_ (bel_drew _)
        repeat (first | (refine new_at ?_; simp; done) | refine keep_cells ?_ (bel_alloc _ _))), (by
        refine HdG.keep ?_ (bel_drew _)
        repeat (first | (refine H0.out _ _ ?_; simp; done) | refine HdG.keep ?_ (bel_alloc _ _))), (by
        refine HdG.keep ?_ (bel_drew _)
        repeat (first | (refine H0.out _ _ ?_; simp; done) | refine HdG.keep ?_ (bel_alloc _ _))), by omega, by omega, by omega, by omega, (by
        refine keep_cells ?_ (bel_drew _)
        repeat (first | (refine new_at ?_; simp; done) | refine keep_cells ?_ (bel_alloc _ _))), (by
        refine keep_cells ?_ (bel_drew _)
        repeat (first | (refine new_at ?_; simp; done) | refine keep_cells ?_ (bel_alloc _ _))), (by
        refine bel_trans ?_ (bel_drew _)
        repeat (first | exact bel_alloc w _ | refine bel_trans ?_ (bel_alloc _ _)))⟩
  case rest =>
    obtain ⟨B, bN, bP, rfl, hG, hN, hP, hne, hB1, hB2, hB3, hF, hR, hBl⟩ := hcut
    have hty : ∀ {b' : Nat} {g : Nat → Value}, HdG wc b' blocks.length g → B ≠ b' := fun h e => by
      obtain ⟨cur, h1, -⟩ := h.ex
      rw [← e, hG] at h1
      cases h1
    have hBN := hty hN
    have hBP := hty hP
    clear hty
    have hF4 := at_cells hF (j := 4) (v := .slice a2 blocks.length k2) rfl
    have hBw : B < wc.heap.size := (Array.getElem?_eq_some_iff.1 hG).1
    clear H0 hHO hmk
    obtain ⟨Fo, hFo⟩ : ∃ Fo, Kp (Fo = Go.Obj.cells #[.string name, .int .i64 link, .slice a1 params.length k1, .int .i64 res, .slice a2 blocks.length k2] 30 (0, 0)) := ⟨_, ⟨rfl⟩⟩
    obtain ⟨Go', hGo⟩ : ∃ Go', Kp (Go' = Go.Obj.cells #[.slice (some ⟨bN, 0, none⟩) blocks.length blocks.length, .slice (some ⟨bP, 0, none⟩) blocks.length blocks.length] 53 (0, 0)) := ⟨_, ⟨rfl⟩⟩
    obtain ⟨Ro, hRo⟩ : ∃ Ro, Kp (Ro = Go.Obj.cells #[.slice none 0 0, .slice none 0 0] 53 (0, 0)) := ⟨_, ⟨rfl⟩⟩
    rw [← hFo.out] at hF
    rw [← hGo.out] at hG
    rw [← hRo.out] at hR
    go_wp2_with fail
    go_loopw [19] (fun r wr => ∃ (b : Nat) (f : Bool × Nat → Value) (x : Bool × Nat → List Int), b ≤ blocks.length ∧ r = .int .i64 b ∧ GrI blocks w wr B bN bP Fo Go' Ro b (prevs blocks b) f x) (fun r _ => blocks.length - (intOf r).toNat)
    case atStart => exact ⟨0, fun _ => .slice none 0 0, fun _ => [], Nat.zero_le _, rfl, ⟨⟨fun k _ => ⟨rfl, .inl ⟨rfl, rfl⟩⟩, fun k l _ _ _ => .inl rfl⟩, hN, hP, fun i _ => by simp, fun i _ => rfl, hF, hG, hR, hBl⟩⟩
    case round =>
      clear hN hP hF hG hR hBl hF4
      obtain ⟨b, f, x, hb, rfl, hI⟩ := hrel
      have hs : w.heap.size + 2 ≤ wr.heap.size := Nat.le_trans hB2 (Nat.le_of_lt hI.hN.lt)
      by_cases hlt : b < blocks.length
      · have hCb := Kp.mk (CN.out)
        have hF := hI.F
        have hG := hI.G
        rw [hFo.out] at hF
        rw [hGo.out] at hG
        have x0 := at_cells hF (j := 0) rfl
        have x1 := at_cells hF (j := 1) rfl
        have x2 := at_cells hF (j := 2) rfl
        have x3 := at_cells hF (j := 3) rfl
        have x4 := at_cells hF (j := 4) rfl
        have y0 := at_cells hG (j := 0) rfl
        have hBD := (Below.refl wr.heap.size wr).drew
        have hbz : (b : Int) < (blocks.length : Int) := by omega
        have hb0 : (0 : Int) ≤ (b : Int) := by omega
        replace hF := Kp.mk hF
        replace hG := Kp.mk hG
        replace hI := Kp.mk hI
        clear hb
        go_upto_region 5 with fail
        go_cut [] (fun w2 => ∃ (f : Bool × Nat → Value) (x : Bool × Nat → List Int), GrI blocks w w2 B bN bP Fo Go' Ro (b + 1) (prevs blocks b) f x)
        case first =>
          go_region_with (go_at_call 52; refine (hCb.out _ b (bel_trans hI.out.bel hBD)).mono ?_; rintro e w2 ⟨v2, rfl, hO2, hb2⟩; have hb22 := bel_trans hBD hb2; obtain ⟨av, cv, rfl⟩ := hO2.shape; have q0 : w2.cell? ⟨B, 0, none⟩ = _ := at_keep y0 hb22; have q1 : w2.cell? ⟨bN, b, none⟩ = _ := at_keep (hI.out.hN.at hlt) hb22; have q2 := (hI.out.hN.keep hb22).rw b)
          all_goals go_wp2_with fail
          all_goals go_meet
          all_goals exact ⟨_, _, hI.out.setN hlt hb22 hs hO2 hne hBN hB2⟩
        case rest =>
          clear x0 x1 x2 x3 x4 y0 hI hF hG hs hBD hCb
          obtain ⟨f0, x0, hI⟩ := hcut
          have hs : w.heap.size + 2 ≤ wc.heap.size := Nat.le_trans hB2 (Nat.le_of_lt hI.hN.lt)
          have hG := hI.G
          rw [hGo.out] at hG
          have y0 := at_cells hG (j := 0) rfl
          have hxb := hI.xN b hlt
          rw [if_pos (Nat.lt_succ_self _)] at hxb
          have hOb : OwnI wc (w.heap.size + 2) (f0 (false, b)) (nextL blocks b) := ⟨by have := hI.fam.own (false, b) hlt; rwa [hxb] at this⟩
          obtain ⟨au, cu, hu⟩ := hOb.shape
          have q1 := hI.hN.at hlt
          rw [hu] at q1
          obtain ⟨L, hL⟩ : ∃ L, L = nextL blocks b := ⟨_, rfl⟩
          rw [← hL] at hu q1 hxb
          have hLb : ∀ y ∈ L, 0 ≤ y ∧ y < blocks.length := fun y hy => nextL_bd (hL ▸ hy)
          have hLn : L.length ≤ 1048576 := by have := @nextL_len blocks b; rw [hL]; omega
          replace hLb := Kp.mk hLb
          replace hL := Kp.mk hL
          replace hu := Kp.mk hu
          replace hxb := Kp.mk hxb
          clear hOb hG
          go_wp2_with fail
          go_loopw [35] (fun r wr => ∃ (j : Nat) (f : Bool × Nat → Value) (x : Bool × Nat → List Int), j ≤ L.length ∧ r = .int .i64 j ∧ GrI blocks w wr B bN bP Fo Go' Ro (b + 1) (pushL b (prevs blocks b) (L.take j)) f x ∧ f (false, b) = .slice au L.length cu) (fun r _ => L.length - (intOf r).toNat)
          case atStart => exact ⟨0, f0, x0, Nat.zero_le _, rfl, hI, hu.out⟩
          case round =>
            clear hI y0 q1 hs
            obtain ⟨j, f, x, hj, rfl, hI, hu2⟩ := hrel
            by_cases hjl : j < L.length
            · have hs : w.heap.size + 2 ≤ wr.heap.size := Nat.le_trans hB2 (Nat.le_of_lt hI.hN.lt)
              have hxb2 := hI.xN b hlt
              rw [if_pos (Nat.lt_succ_self _), ← hL.out] at hxb2
              have hOb : OwnI wr (w.heap.size + 2) (f (false, b)) L := ⟨by have := hI.fam.own (false, b) hlt; rwa [hxb2] at this⟩
              rw [hu2] at hOb
              obtain ⟨gb, go, ⟨⟨_, _, eq, -, ga⟩, -⟩, -, gc⟩ := (hOb.ints hLn).ex
              cases eq
              obtain rfl := ga (by omega)
              have c0 := gc j hjl
              have hby := hLb.out L[j] (List.getElem_mem hjl)
              have hst : Kp (L.take (j + 1) = L.take j ++ [L[j]]) := ⟨List.take_succ_eq_append_getElem hjl⟩
              generalize L[j] = y at *
              obtain ⟨t, rfl⟩ : ∃ t : Nat, y = t := ⟨y.toNat, by omega⟩
              have ht : t < blocks.length := by omega
              have hG := hI.G
              rw [hGo.out] at hG
              have y1 := at_cells hG (j := 1) rfl
              have hrow := hI.fam.own (true, t) ht
              have q1 := hI.hP.at ht
              obtain ⟨at', ct, hft⟩ := OwnI.shape ⟨hrow⟩
              rw [hft] at q1
              rw [hft] at hrow
              have hxl : (x (true, t)).length ≤ 3145728 := by
                rw [hI.xP t ht]
                have h1 := pushL_len b (prevs blocks b) (L.take j) t
                have h2 := prevs_len blocks b t
                have h3 := nxtN_le blocks b (by omega)
                have h4 := List.length_take_le' j L
                omega
              obtain ⟨xs, hxs⟩ : ∃ xs, Kp (x (true, t) = xs) := ⟨_, ⟨rfl⟩⟩
              rw [hxs.out] at hrow hft q1 hxl
              have ht1 : (0 : Int) ≤ (t : Int) := by omega
              have ht2 : (t : Int) < (blocks.length : Int) := by omega
              have hnB : ∀ g, (Value.slice at' xs.length ct).ownBlock = some g → g ≠ B := fun g hg e => by
                subst e
                exact own_ne hrow hG (by decide) hg.symm
              have hnP : some bP ≠ (Value.slice at' xs.length ct).ownBlock := hI.hP.ne_row hrow
              have lB := (Array.getElem?_eq_some_iff.1 hG).1
              have lP := hI.hP.lt
              have hfz := hI.hP.rw t
              have nB : (Value.slice at' xs.length ct).ownBlock ≠ some B := fun e => hnB _ e rfl
              obtain ⟨i0, hi0, hz0, hz1, hz2⟩ := info_parts info64
              replace hI := Kp.mk hI
              replace hft := Kp.mk hft
              replace hG := Kp.mk hG
              clear gc
              have m1 : Kp (∀ o, (wr.alloc o).drew.cell? ⟨B, 1, none⟩ = some (.slice (some ⟨bP, 0, none⟩) blocks.length blocks.length)) := ⟨fun o => at_keep y1 (bel_trans (bel_alloc _ _) (bel_drew _))⟩
              have m2 : Kp (∀ o, (wr.alloc o).drew.cell? ⟨bP, t, none⟩ = some (.slice at' xs.length ct)) := ⟨fun o => at_keep q1 (bel_trans (bel_alloc _ _) (bel_drew _))⟩
              have m3 : Kp (∀ o, (wr.alloc o).drew.frozen? ⟨bP, t, none⟩ = false) := ⟨fun o => (hI.out.hP.keep (bel_trans (bel_alloc _ o) (bel_drew _))).rw t⟩
              have m2s := m2.out (Go.Obj.cells #[.int .i64 b] 2)
              have m1 : Kp (∀ o, (wr.alloc o).drew.cell? ⟨B, 1, none⟩ = some (.slice (some ⟨bP, 0, none⟩) blocks.length blocks.length)) := ⟨fun o => at_keep y1 (bel_trans (bel_alloc _ _) (bel_drew _))⟩
              have m2 : Kp (∀ o, (wr.alloc o).drew.cell? ⟨bP, t, none⟩ = some (.slice at' xs.length ct)) := ⟨fun o => at_keep q1 (bel_trans (bel_alloc _ _) (bel_drew _))⟩
              have m3 : Kp (∀ o, (wr.alloc o).drew.frozen? ⟨bP, t, none⟩ = false) := ⟨fun o => (hI.out.hP.keep (bel_trans (bel_alloc _ o) (bel_drew _))).rw t⟩
              have m2s := m2.out (Go.Obj.cells #[.int .i64 b] 2)
              have m1 : Kp (∀ o, (wr.alloc o).drew.cell? ⟨B, 1, none⟩ = some (.slice (some ⟨bP, 0, none⟩) blocks.length blocks.length)) := ⟨fun o => at_keep y1 (bel_trans (bel_alloc _ _) (bel_drew _))⟩
              have m2 : Kp (∀ o, (wr.alloc o).drew.cell? ⟨bP, t, none⟩ = some (.slice at' xs.length ct)) := ⟨fun o => at_keep q1 (bel_trans (bel_alloc _ _) (bel_drew _))⟩
              have m3 : Kp (∀ o, (wr.alloc o).drew.frozen? ⟨bP, t, none⟩ = false) := ⟨fun o => (hI.out.hP.keep (bel_trans (bel_alloc _ o) (bel_drew _))).rw t⟩
              have m2s := m2.out (Go.Obj.cells #[.int .i64 b] 2)
              go_upto_region 9 with fail
              refine wp_region_held_drew (S := fun W' => W'.cell? ⟨B, 1, none⟩ = some (.slice (some ⟨bP, 0, none⟩) blocks.length blocks.length)) (by kernel_rfl) y1 (fun hHeld => ?_)
              refine wpAnyH_take (i := 0) (v := .pointer (some ⟨B, 1, none⟩)) rfl (by kernel_rfl) (by kernel_rfl) (by kernel_rfl) (fun _ _ _ h => h) (Or.inl ⟨by rfl, fun wq hSw => by (try dsimp only at hSw); go_simp⟩) hHeld ?_
              try simp only [Act.put, List.getElem_toArray, List.getElem_cons_succ, List.getElem_cons_zero, List.setIfInBounds_toArray, List.set_cons_zero, List.set_cons_succ]
              refine wpAnyH_take (i := 1) (v := .slice (some ⟨bP, 0, none⟩) blocks.length blocks.length) rfl (by kernel_rfl) (by kernel_rfl) (by kernel_rfl) (fun _ _ _ h => h) (Or.inl ⟨by rfl, fun wq hSw => by (try dsimp only at hSw); go_simp⟩) hHeld ?_
              try simp only [Act.put, List.getElem_toArray, List.getElem_cons_succ, List.getElem_cons_zero, List.setIfInBounds_toArray, List.set_cons_zero, List.set_cons_succ]
              refine wpAnyH_take (i := 2) (v := .int .i64 t) rfl (by kernel_rfl) (by kernel_rfl) (by kernel_rfl) (fun _ _ _ h => h) (Or.inl ⟨by rfl, fun wq hSw => by (try dsimp only at hSw); go_simp⟩) hHeld ?_
              try simp only [Act.put, List.getElem_toArray, List.getElem_cons_succ, List.getElem_cons_zero, List.setIfInBounds_toArray, List.set_cons_zero, List.set_cons_succ]
              refine wpAnyH_take (i := 3) (v := .pointer (some ⟨B, 1, none⟩)) rfl (by kernel_rfl) (by kernel_rfl) (by kernel_rfl) (fun _ _ _ h => h) (Or.inl ⟨by rfl, fun wq hSw => by (try dsimp only at hSw); go_simp⟩) hHeld ?_
              try simp only [Act.put, List.getElem_toArray, List.getElem_cons_succ, List.getElem_cons_zero, List.setIfInBounds_toArray, List.set_cons_zero, List.set_cons_succ]
              refine wpAnyH_take (i := 4) (v := .slice (some ⟨bP, 0, none⟩) blocks.length blocks.length) rfl (by kernel_rfl) (by kernel_rfl) (by kernel_rfl) (fun _ _ _ h => h) (Or.inl ⟨by rfl, fun wq hSw => by (try dsimp only at hSw); go_simp⟩) hHeld ?_
              try simp only [Act.put, List.getElem_toArray, List.getElem_cons_succ, List.getElem_cons_zero, List.setIfInBounds_toArray, List.set_cons_zero, List.set_cons_succ]
              refine wpAnyH_take (i := 5) (v := .int .i64 t) rfl (by kernel_rfl) (by kernel_rfl) (by kernel_rfl) (fun _ _ _ h => h) (Or.inl ⟨by rfl, fun wq hSw => by (try dsimp only at hSw); go_simp⟩) hHeld ?_
              try simp only [Act.put, List.getElem_toArray, List.getElem_cons_succ, List.getElem_cons_zero, List.setIfInBounds_toArray, List.set_cons_zero, List.set_cons_succ]
              refine wpAnyH_take (i := 6) (v := .pointer (some ⟨bP, t, none⟩)) rfl (by kernel_rfl) (by kernel_rfl) (by kernel_rfl) (fun _ _ _ h => h) (Or.inl ⟨by rfl, fun wq hSw => by (try dsimp only at hSw); go_simp⟩) hHeld ?_
              try simp only [Act.put, List.getElem_toArray, List.getElem_cons_succ, List.getElem_cons_zero, List.setIfInBounds_toArray, List.set_cons_zero, List.set_cons_succ]
              refine wpAnyH_take (i := 8) (v := .int .i64 b) rfl (by kernel_rfl) (by kernel_rfl) (by kernel_rfl) (fun _ _ _ h => h) (Or.inl ⟨by rfl, fun wq hSw => by (try dsimp only at hSw); go_simp⟩) hHeld ?_
              try simp only [Act.put, List.getElem_toArray, List.getElem_cons_succ, List.getElem_cons_zero, List.setIfInBounds_toArray, List.set_cons_zero, List.set_cons_succ]
              refine wpAnyH_ready (rs := [7, 9]) (by kernel_rfl) (by simp) ?_
              refine AllReadyH.cons rfl (fun K hK => ?_) (AllReadyH.cons rfl (fun K hK => ?_) AllReadyH.nil)
              · go_simp
                refine hK.out _ _ y1 (fun hHeld => ?_)
                clear hK K
                try simp only [Act.put, List.getElem_toArray, List.getElem_cons_succ, List.getElem_cons_zero, List.setIfInBounds_toArray, List.set_cons_zero, List.set_cons_succ]
                refine wpAnyH_ready (rs := [9]) (by kernel_rfl) (by simp) ?_
                refine AllReadyH.cons rfl (fun K hK => ?_) AllReadyH.nil
                go_simp
                refine hK.out _ _ (m1.out _) (fun hHeld => ?_)
                clear hK K
                try simp only [Act.put, List.getElem_toArray, List.getElem_cons_succ, List.getElem_cons_zero, List.setIfInBounds_toArray, List.set_cons_zero, List.set_cons_succ]
                refine wpAnyH_ready (rs := [10]) (by kernel_rfl) (by simp) ?_
                refine AllReadyH.cons rfl (fun K hK => ?_) AllReadyH.nil
                refine step_append_lies _ (by rfl) _ _ _ (by rfl) (w.heap.size + 2) 2 i0 _ 1 8 Try.underlying22 hi0 hz0 hz1 hz2 rfl (by omega) (.slice at' xs.length ct) xs.length (xs.map (Value.int .i64)) (by rfl) ((hrow.alloc _).drew)
                  ⟨wr.heap.size, 0, none⟩ 1 1 [.int .i64 b] (by rfl) (by rfl) (World.news_of_block (cs := #[.int .i64 b]) (t := 2) (fr := (0, 0)) (heap_alloc_new wr _)) (by simp [Value.oneCell'])
                  (by omega) (by unfold maxLen; omega) (by omega) (by simp; omega) (wr.heap.size + 1) (by simp) ?_
                intro gg cap w1 hown1 hgrow hat hlt'
                have z1 : w1.frozen? ⟨bP, t, none⟩ = false := (hgrow.frozen_far _ (by simp; omega) hnP).trans (m3.out _)
                have z2 : w1.cell? ⟨bP, t, none⟩ = some (.slice at' xs.length ct) := (hgrow.cell_far _ (by simp; omega) hnP).trans (m2.out _)
                have z3 : w1.cell? ⟨B, 1, none⟩ = some (.slice (some ⟨bP, 0, none⟩) blocks.length blocks.length) := (hgrow.cell_far _ (by simp; omega) (Ne.symm nB)).trans (m1.out _)
                refine hK.out _ _ z3 (fun hHeld => ?_)
                clear hK K
                try simp only [Act.put, List.getElem_toArray, List.getElem_cons_succ, List.getElem_cons_zero, List.setIfInBounds_toArray, List.set_cons_zero, List.set_cons_succ]
                refine wpAnyH_take (i := 11) (v := .pointer (some ⟨bP, t, none⟩)) rfl (by kernel_rfl) (by kernel_rfl) (by kernel_rfl) (fun _ _ _ h => h) (Or.inl ⟨by rfl, fun wq hSw => by (try dsimp only at hSw); go_simp⟩) hHeld ?_
                try simp only [Act.put, List.getElem_toArray, List.getElem_cons_succ, List.getElem_cons_zero, List.setIfInBounds_toArray, List.set_cons_zero, List.set_cons_succ]
                refine wpAnyH_ready (rs := [12]) (by kernel_rfl) (by simp) ?_
                refine AllReadyH.cons rfl (fun K hK => ?_) AllReadyH.nil
                go_simp
                refine hK.out _ _ ((World.cell?_setCell_other _ _ _ _ (by intro e; injection e; omega)).trans z3) (fun hHeld => ?_)
                clear hK K
                try simp only [Act.put, List.getElem_toArray, List.getElem_cons_succ, List.getElem_cons_zero, List.setIfInBounds_toArray, List.set_cons_zero, List.set_cons_succ]
                refine wpAnyH_done (by kernel_rfl) ?_ _
                go_wp2_with fail
                have hgrow' : (wr.alloc (Go.Obj.cells #[.int .i64 b] 2)).drew.grownBy w1 (f (true, t)).ownBlock := by rw [hft.out]; exact hgrow
                have hpp := hI.out.push (k := (b : Int)) (v := .slice (some ⟨gg, 0, none⟩) (xs.length + 1) cap) ht (bel_trans (bel_alloc wr (Go.Obj.cells #[.int .i64 b] 2)) (bel_drew _)) hs hgrow' (by rw [hxs.out]; simpa using hown1)
                  (by rw [hft.out]; rcases hat with q | q; exact .inl q.symm; exact .inr (by rw [q]; simp [Value.ownBlock])) hne hBP hB3 hB1 (fun g hg => hnB g (by rw [← hft.out]; exact hg))
                rw [hxs.out, ← pushL_snoc, ← hst.out] at hpp
                have hu3 : upd f (true, t) (.slice (some ⟨gg, 0, none⟩) (xs.length + 1) cap) (false, b) = _ := (upd_other _ _ _ _ (by intro q; cases q)).trans hu2
                exact ⟨⟨j + 1, _, _, by omega, by go_num, hpp, hu3⟩, by simp [intOf]; omega⟩
              · go_simp
                refine hK.out _ _ (m1.out _) (fun hHeld => ?_)
                clear hK K
                try simp only [Act.put, List.getElem_toArray, List.getElem_cons_succ, List.getElem_cons_zero, List.setIfInBounds_toArray, List.set_cons_zero, List.set_cons_succ]
                refine wpAnyH_ready (rs := [7]) (by kernel_rfl) (by simp) ?_
                refine AllReadyH.cons rfl (fun K hK => ?_) AllReadyH.nil
                go_simp
                refine hK.out _ _ (m1.out _) (fun hHeld => ?_)
                clear hK K
                try simp only [Act.put, List.getElem_toArray, List.getElem_cons_succ, List.getElem_cons_zero, List.setIfInBounds_toArray, List.set_cons_zero, List.set_cons_succ]
                refine wpAnyH_ready (rs := [10]) (by kernel_rfl) (by simp) ?_
                refine AllReadyH.cons rfl (fun K hK => ?_) AllReadyH.nil
                refine step_append_lies _ (by rfl) _ _ _ (by rfl) (w.heap.size + 2) 2 i0 _ 1 8 Try.underlying22 hi0 hz0 hz1 hz2 rfl (by omega) (.slice at' xs.length ct) xs.length (xs.map (Value.int .i64)) (by rfl) ((hrow.alloc _).drew)
                  ⟨wr.heap.size, 0, none⟩ 1 1 [.int .i64 b] (by rfl) (by rfl) (World.news_of_block (cs := #[.int .i64 b]) (t := 2) (fr := (0, 0)) (heap_alloc_new wr _)) (by simp [Value.oneCell'])
                  (by omega) (by unfold maxLen; omega) (by omega) (by simp; omega) (wr.heap.size + 1) (by simp) ?_
                intro gg cap w1 hown1 hgrow hat hlt'
                have z1 : w1.frozen? ⟨bP, t, none⟩ = false := (hgrow.frozen_far _ (by simp; omega) hnP).trans (m3.out _)
                have z2 : w1.cell? ⟨bP, t, none⟩ = some (.slice at' xs.length ct) := (hgrow.cell_far _ (by simp; omega) hnP).trans (m2.out _)
                have z3 : w1.cell? ⟨B, 1, none⟩ = some (.slice (some ⟨bP, 0, none⟩) blocks.length blocks.length) := (hgrow.cell_far _ (by simp; omega) (Ne.symm nB)).trans (m1.out _)
                refine hK.out _ _ z3 (fun hHeld => ?_)
                clear hK K
                try simp only [Act.put, List.getElem_toArray, List.getElem_cons_succ, List.getElem_cons_zero, List.setIfInBounds_toArray, List.set_cons_zero, List.set_cons_succ]
                refine wpAnyH_take (i := 11) (v := .pointer (some ⟨bP, t, none⟩)) rfl (by kernel_rfl) (by kernel_rfl) (by kernel_rfl) (fun _ _ _ h => h) (Or.inl ⟨by rfl, fun wq hSw => by (try dsimp only at hSw); go_simp⟩) hHeld ?_
                try simp only [Act.put, List.getElem_toArray, List.getElem_cons_succ, List.getElem_cons_zero, List.setIfInBounds_toArray, List.set_cons_zero, List.set_cons_succ]
                refine wpAnyH_ready (rs := [12]) (by kernel_rfl) (by simp) ?_
                refine AllReadyH.cons rfl (fun K hK => ?_) AllReadyH.nil
                go_simp
                refine hK.out _ _ ((World.cell?_setCell_other _ _ _ _ (by intro e; injection e; omega)).trans z3) (fun hHeld => ?_)
                clear hK K
                try simp only [Act.put, List.getElem_toArray, List.getElem_cons_succ, List.getElem_cons_zero, List.setIfInBounds_toArray, List.set_cons_zero, List.set_cons_succ]
                refine wpAnyH_done (by kernel_rfl) ?_ _
                go_wp2_with fail
                have hgrow' : (wr.alloc (Go.Obj.cells #[.int .i64 b] 2)).drew.grownBy w1 (f (true, t)).ownBlock := by rw [hft.out]; exact hgrow
                have hpp := hI.out.push (k := (b : Int)) (v := .slice (some ⟨gg, 0, none⟩) (xs.length + 1) cap) ht (bel_trans (bel_alloc wr (Go.Obj.cells #[.int .i64 b] 2)) (bel_drew _)) hs hgrow' (by rw [hxs.out]; simpa using hown1)
                  (by rw [hft.out]; rcases hat with q | q; exact .inl q.symm; exact .inr (by rw [q]; simp [Value.ownBlock])) hne hBP hB3 hB1 (fun g hg => hnB g (by rw [← hft.out]; exact hg))
                rw [hxs.out, ← pushL_snoc, ← hst.out] at hpp
                have hu3 : upd f (true, t) (.slice (some ⟨gg, 0, none⟩) (xs.length + 1) cap) (false, b) = _ := (upd_other _ _ _ _ (by intro q; cases q)).trans hu2
                exact ⟨⟨j + 1, _, _, by omega, by go_num, hpp, hu3⟩, by simp [intOf]; omega⟩
            · obtain rfl : j = L.length := by omega
              rw [List.take_length] at hI
              rw [hL.out] at hI
              replace hI := Kp.mk hI
              go_wp2_with fail
              exact ⟨⟨b + 1, f, x, by omega, by go_num, hI.out⟩, by simp [intOf]; omega⟩
      · obtain rfl : b = blocks.length := by omega
        have hG := hI.G
        have hR := hI.R
        rw [hGo.out] at hG
        rw [hRo.out] at hR
        have y0 := at_cells hG (j := 0) rfl
        have y1 := at_cells hG (j := 1) rfl
        have r0 := at_cells hR (j := 0) rfl
        have r1 := at_cells hR (j := 1) rfl
        have z0 := rw_cells hR 0
        have z1 := rw_cells hR 1
        have hGR : B ≠ w.heap.size + 1 := by omega
        replace hI := Kp.mk hI
        go_wp2_with fail
        have hc := (GrR.setR ⟨hI.out.fam, hI.out.hN, hI.out.hP, hI.out.xN, hI.out.xP, hI.out.bel⟩ (.slice (some ⟨bN, 0, none⟩) blocks.length blocks.length) 0 hB2 hB3).setR (.slice (some ⟨bP, 0, none⟩) blocks.length blocks.length) 1 hB2 hB3
        refine bodyPost_ret (v := .agg #[.slice (some ⟨bN, 0, none⟩) blocks.length blocks.length, .slice (some ⟨bP, 0, none⟩) blocks.length blocks.length]) ?_ rfl ⟨_, _, rfl, ?_, ?_, hc.bel⟩
        · simp [results, Try.results29, go_sem, y0, y1, r0, r1]
        · refine (rws_of hc.fam hc.hN hB2 (Nat.le_refl _) (by omega) (fun i => (false, i)) (fun i hi => ⟨hi, rfl, ?_⟩)).congr (by omega) (fun i hi => ?_)
          · rw [hc.xN i hi, if_pos hi]
            have := @nextL_len blocks i
            omega
          · rw [hc.xN i hi, if_pos hi]
        · refine (rws_of hc.fam hc.hP hB3 (Nat.le_refl _) (by omega) (fun i => (true, i)) (fun i hi => ⟨hi, rfl, ?_⟩)).congr (by omega) (fun i hi => ?_)
          · rw [hc.xP i hi]
            have h1 := prevs_len blocks blocks.length i
            have h2 := nxtN_le blocks blocks.length (Nat.le_refl _)
            omega
          · rw [hc.xP i hi]
end Go.Proofs.Ytbfpfjkjeekbdaa
