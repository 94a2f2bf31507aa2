/- Values that are live: the specification's row of a block, its parts as Booleans; its mark. -/
import Derived.Test.YtbfpfjkjeekbdaaId2
import Derived.Test.YtbfpfjkjeekbdaaLi6
import Derived.BigRegion
import Derived.Deep.DeepFit
namespace Go.Proofs.Ytbfpfjkjeekbdaa
open Go.ChangeShapes Go.WideShapes Go.ChangeAt Go.RowKit
set_option linter.unusedVariables false
set_option linter.unusedSimpArgs false
/-- The phis of a block that have the value for the block b. -/
def phX (b : Nat) (u : Nat) (x : InD) : Bool := (List.range x.args.length).any fun j => phU b x j u
/-- What the first i blocks behind tell. -/
def p1B (bls : List (List InD)) (L : Nat → Nat → Bool) (b i u : Nat) : Bool := ((nextL bls b).take i).any fun t => L t.toNat u || (bls.getD t.toNat []).any (phX b u)
/-- An instruction, backwards. -/
def bwS (res : Nat → Int) (x : InD) (k : Nat) (R : Nat → Bool) : Nat → Bool := fun u => (!(res k == (u : Int)) && R u) || (!(x.op == 20) && x.args.any (fun o => opU o u))
/-- The last m instructions, backwards. -/
def bwB (xs : List InD) (res : Nat → Int) (base : Nat → Bool) : Nat → Nat → Bool
  | 0 => base
  | m + 1 => bwS res (xs.getD (xs.length - 1 - m) default) (xs.length - 1 - m) (bwB xs res base m)
theorem bwB_iff (xs : List InD) (res : Nat → Int) (base : Nat → Bool) (u : Nat) : ∀ m, m ≤ xs.length → (bwB xs res base m u = true ↔
    (∃ k x, xs.length - m ≤ k ∧ xs[k]? = some x ∧ x.op ≠ 20 ∧ (∃ o, o ∈ x.args ∧ opU o u = true) ∧ ∀ j, xs.length - m ≤ j → j < k → res j ≠ (u : Int)) ∨ (base u = true ∧ ∀ j, xs.length - m ≤ j → j < xs.length → res j ≠ (u : Int)))
  | 0, _ => by
    simp only [bwB, Nat.sub_zero]
    constructor
    · intro h
      exact .inr ⟨h, fun j h1 h2 => by omega⟩
    · rintro (⟨k, x, h1, h2, -⟩ | ⟨h, -⟩)
      · have := (List.getElem?_eq_some_iff.1 h2).1; omega
      · exact h
  | m + 1, hm => by
    have ih := bwB_iff xs res base u m (by omega)
    have hk : xs.length - 1 - m < xs.length := by omega
    have hx : xs.getD (xs.length - 1 - m) default = xs[xs.length - 1 - m] := by rw [List.getD_eq_getElem?_getD, List.getElem?_eq_getElem hk]; rfl
    have e1 : xs.length - m = xs.length - 1 - m + 1 := by omega
    have e2 : xs.length - (m + 1) = xs.length - 1 - m := by omega
    have hget := List.getElem?_eq_getElem hk
    rw [e1] at ih
    rw [e2]
    show bwS res (xs.getD (xs.length - 1 - m) default) (xs.length - 1 - m) (bwB xs res base m) u = true ↔ _
    rw [hx]
    unfold bwS
    generalize xs.length - 1 - m = q at *
    simp only [Bool.or_eq_true, Bool.and_eq_true, Bool.not_eq_true', beq_eq_false_iff_ne, List.any_eq_true]
    rw [ih]
    constructor
    · rintro (⟨h1, (⟨k, x, h2, h3, h4, h5, h6⟩ | ⟨h2, h3⟩)⟩ | ⟨h1, o, h2, h3⟩)
      · refine .inl ⟨k, x, by omega, h3, h4, h5, fun j j1 j2 => ?_⟩
        by_cases e : j = q
        · subst e; exact h1
        · exact h6 j (by omega) j2
      · refine .inr ⟨h2, fun j j1 j2 => ?_⟩
        by_cases e : j = q
        · subst e; exact h1
        · exact h3 j (by omega) j2
      · exact .inl ⟨q, _, Nat.le_refl _, hget, h1, ⟨o, h2, h3⟩, fun j j1 j2 => by omega⟩
    · rintro (⟨k, x, h2, h3, h4, ⟨o, h5, h6⟩, h7⟩ | ⟨h2, h3⟩)
      · by_cases e : k = q
        · subst e
          rw [hget] at h3
          cases h3
          exact .inr ⟨h4, o, h5, h6⟩
        · exact .inl ⟨h7 q (Nat.le_refl _) (by omega), .inl ⟨k, x, by omega, h3, h4, ⟨o, h5, h6⟩, fun j j1 j2 => h7 j (by omega) j2⟩⟩
      · exact .inl ⟨h3 q (Nat.le_refl _) (by omega), .inr ⟨h2, fun j j1 j2 => h3 j (by omega) j2⟩⟩
/-- The specification's row of a block. -/
def tfB (bls : List (List InD)) (res : Nat → Nat → Int) (L : Nat → Nat → Bool) (b : Nat) : Nat → Bool := bwB (bls.getD b []) (res b) (p1B bls L b (nextL bls b).length) (bls.getD b []).length
theorem tfB_iff {bls : List (List InD)} {res : Nat → Nat → Int} {L : Nat → Nat → Bool} {b u : Nat} : tfB bls res L b u = true ↔ Tf bls res (fun t v => L t v = true) b u := by
  unfold tfB
  rw [bwB_iff _ _ _ _ _ (Nat.le_refl _)]
  unfold Tf
  simp only [Nat.sub_self, Nat.zero_le, true_implies, true_and]
  refine or_congr ?_ ?_
  · exact Iff.rfl
  · rw [and_comm]
    refine and_congr_right fun _ => ?_
    unfold p1B
    rw [List.take_length, List.any_eq_true]
    constructor
    · rintro ⟨t, ht, h⟩
      obtain ⟨k, rfl, hk⟩ := nextL_nat ht
      rw [Int.toNat_natCast, Bool.or_eq_true] at h
      refine ⟨k, ht, h.imp id fun h => ?_⟩
      obtain ⟨x, hx, h⟩ := List.any_eq_true.1 h
      unfold phX at h
      obtain ⟨j, hj, h⟩ := List.any_eq_true.1 h
      exact ⟨x, hx, j, h⟩
    · rintro ⟨k, ht, h⟩
      refine ⟨k, ht, ?_⟩
      rw [Int.toNat_natCast, Bool.or_eq_true]
      refine h.imp id ?_
      rintro ⟨x, hx, j, h⟩
      refine List.any_eq_true.2 ⟨x, hx, ?_⟩
      unfold phX
      refine List.any_eq_true.2 ⟨j, ?_, h⟩
      obtain ⟨-, -, o, ho, -⟩ := phU_iff.1 h
      exact List.mem_range.2 (List.getElem?_eq_some_iff.1 ho).1
set_option maxRecDepth 100000 in
set_option maxHeartbeats 4000000 in
theorem markS (rb n c : Nat) (f : Nat → Bool) (o : OpD) (w : World) (h : BRow w rb n f) (hn : n ≤ 1048576) :
    Calls Try.prog 79 #[.slice (some ⟨rb, 0, none⟩) n c, .agg #[.int .i64 o.k, .int .i64 o.t, .int .i64 o.i, .int .u64 o.w]] w fun e w' => (∃ v, e = .returned v) ∧ BRow w' rb n (fun u => f u || opU o u) ∧ w.grownBy w' (some rb) := by
  obtain ⟨k, t, i, x⟩ := o
  dsimp only
  obtain ⟨W0, hW0⟩ : ∃ W0, Kp (W0 = w.alloc (Go.Obj.cells #[.int .i64 k, .int .i64 t, .int .i64 i, .int .u64 x] 115)) := ⟨_, ⟨rfl⟩⟩
  have hB0 : Below w.heap.size w W0 := by rw [hW0.out]; exact bel_alloc _ _
  have hx0 : W0.heap[w.heap.size]? = some (Go.Obj.cells #[.int .i64 k, .int .i64 t, .int .i64 i, .int .u64 x] 115 (0, 0)) := by rw [hW0.out]; exact new_cells _ _
  have x0 := at_cells hx0 (j := 0) rfl
  have x2 := at_cells hx0 (j := 2) rfl
  have hg0 : w.grownBy W0 (some rb) := ⟨hB0.os, hB0.tape, hB0.output, hB0.size, fun b hb _ => hB0.block b hb⟩
  have h0 := h.keep hB0
  replace hx0 := Kp.mk hx0
  by_cases hc : k = 4 ∧ 0 ≤ i ∧ i < n
  · obtain ⟨rfl, hi0, hi1⟩ := hc
    obtain ⟨j, rfl⟩ : ∃ j : Nat, i = j := ⟨i.toNat, by omega⟩
    have hj : j < n := by omega
    have hr := h0.rw j
    have hc := h0.at hj
    have hfin : BRow (W0.setCell ⟨rb, j, none⟩ (.bool true)) rb n (fun u => f u || opU ⟨4, t, (j : Int), x⟩ u) := h0.set hj true (fun u hu => by
      by_cases e : u = j
      · subst e; simp [opU]
      · rw [if_neg e]
        have : opU ⟨4, t, (j : Int), x⟩ u = false := by simp [opU]; omega
        rw [this, Bool.or_false])
    have hgf : w.grownBy (W0.setCell ⟨rb, j, none⟩ (.bool true)) (some rb) := ⟨hg0.os, hg0.tape, hg0.output, by simp [World.setCell]; exact hg0.size, fun b hb hne => (heap_set _ _ _ _ _ (fun e => hne (by rw [e]))).trans (hg0.block b hb hne)⟩
    replace hfin := Kp.mk hfin
    replace hgf := Kp.mk hgf
    clear hg0
    go_enter Try.func79, Try.ntmps79
    go_upto_region 1 with fail
    rw [← hW0.out]
    go_wp2_with fail
    go_end0
    exact ⟨⟨_, rfl⟩, hfin.out, hgf.out⟩
  · have hfin : BRow W0 rb n (fun u => f u || opU ⟨k, t, i, x⟩ u) := h0.congr (fun u hu => by
      have : opU ⟨k, t, i, x⟩ u = false := by
        rw [Bool.eq_false_iff]
        intro q
        simp only [opU, Bool.and_eq_true, beq_iff_eq] at q
        exact hc ⟨q.1, by omega, by omega⟩
      rw [this, Bool.or_false])
    replace hfin := Kp.mk hfin
    replace hg0 := Kp.mk hg0
    by_cases h4 : k = 4
    · subst h4
      by_cases hi0 : 0 ≤ i
      · have hi1 : ¬ i < (n : Int) := fun q => hc ⟨rfl, hi0, q⟩
        clear hc
        go_enter Try.func79, Try.ntmps79
        go_upto_region 1 with fail
        rw [← hW0.out]
        go_wp2_with fail
        go_end0
        exact ⟨⟨_, rfl⟩, hfin.out, hg0.out⟩
      · have hi2 : decide (i ≥ 0) = false := decide_eq_false hi0
        clear hc
        go_enter Try.func79, Try.ntmps79
        go_upto_region 1 with fail
        rw [← hW0.out]
        go_wp2_with fail
        go_end0
        exact ⟨⟨_, rfl⟩, hfin.out, hg0.out⟩
    · have hk4 : (k == 4) = false := by simp [h4]
      clear hc
      go_enter Try.func79, Try.ntmps79
      go_upto_region 1 with fail
      rw [← hW0.out]
      go_wp2_with fail
      go_end0
      exact ⟨⟨_, rfl⟩, hfin.out, hg0.out⟩
end Go.Proofs.Ytbfpfjkjeekbdaa
namespace Go.Proofs.Ytbfpfjkjeekbdaa
open Go.ChangeShapes Go.WideShapes Go.ChangeAt Go.RowKit
set_option linter.unusedVariables false
set_option linter.unusedSimpArgs false
/-- A table of Booleans, to be read. -/
structure Tab (w : World) (v : Value) (m n : Nat) (L : Nat → Nat → Bool) : Prop where
  ex : ∃ a c, v = .slice a m c ∧ ∀ i, i < m → ∃ hb bi ci, a = some ⟨hb, 0, none⟩ ∧ At w hb i (.slice (some ⟨bi, 0, none⟩) n ci) ∧ ∀ j, j < n → At w bi j (.bool (L i j))
theorem Tab.keep {w w' : World} {v : Value} {m n : Nat} {L : Nat → Nat → Bool} (h : Tab w v m n L) (hb : Below w.heap.size w w') : Tab w' v m n L := by
  obtain ⟨a, c, e, h⟩ := h.ex
  refine ⟨a, c, e, fun i hi => ?_⟩
  obtain ⟨g, bi, ci, h1, h2, h3⟩ := h i hi
  exact ⟨g, bi, ci, h1, at_keep h2 hb, fun j hj => at_keep (h3 j hj) hb⟩
theorem res_bd (d : FnD) {lo : Nat} {w : World} {vb : Value} (hb : Bls lo w vb d.blocks) (b k : Nat) : resN d b k = -1 ∨ ∃ v : Nat, resN d b k = v ∧ v < cntV d := by
  obtain ⟨Y, hY, hYd, -⟩ := itBls_of hb
  have hap := apart_flat Y hY.ix
  unfold resN
  rw [blPl_Y hYd hY.ix, cntV_Y hYd hY.ix, hmL_len]
  by_cases hx : ∃ i, ∃ hi : i < (defL d.params.length Y.flatten).length, ((defL d.params.length Y.flatten)[i].2.1 : Int) = b ∧ ((defL d.params.length Y.flatten)[i].2.2 : Int) = k
  · obtain ⟨i, hi, e1, e2⟩ := hx
    rw [rOf_hit b k _ _ hap i hi e1 e2, defL_num]
    exact .inr ⟨d.params.length + i, by omega, by omega⟩
  · rw [rOf_miss b k _ _ (fun i hi e => hx ⟨i, hi, e⟩)]
    exact .inl rfl
theorem phX_stop {b u j : Nat} {x : InD} (hj : j ≤ x.args.length) (h : x.bl.length ≤ j ∨ x.op ≠ 20) : phX b u x = (List.range j).any fun q => phU b x q u := by
  unfold phX
  rw [Bool.eq_iff_iff, List.any_eq_true, List.any_eq_true]
  constructor
  · rintro ⟨q, hq, hp⟩
    refine ⟨q, List.mem_range.2 ?_, hp⟩
    obtain ⟨h1, h2, -⟩ := phU_iff.1 hp
    have := (List.getElem?_eq_some_iff.1 h2).1
    rcases h with h | h
    · omega
    · exact absurd h1 h
  · rintro ⟨q, hq, hp⟩
    exact ⟨q, List.mem_range.2 (by have := List.mem_range.1 hq; omega), hp⟩
set_option maxRecDepth 100000 in
set_option maxHeartbeats 16000000 in
theorem liveBlkS (d : FnD) (vp vb vN vP vT : Value) (b lo l2 : Nat) (L : Nat → Nat → Bool) (w : World) (h : FnAt lo w d vp vb) (hn : fnN d ≤ 1048576) (hN : Rws l2 w vN d.blocks.length (fun i => nextL d.blocks i)) (hP : ∃ a n c, vP = .slice a n c) (hT : Tab w vT d.blocks.length (cntV d) L) (hb : b < d.blocks.length) (hcn : cntV d ≤ 1048576) :
    Calls Try.prog 61 #[fnV d vp vb, .agg #[vN, vP], vT, .int .i64 b, .int .i64 (cntV d)] w fun e w' => e = .returned (.slice (some ⟨w.heap.size + 2, 0, none⟩) (cntV d) (cntV d)) ∧ BRow w' (w.heap.size + 2) (cntV d) (tfB d.blocks (resN d) L b) ∧ Below w.heap.size w w' := by
  have CR : Kp (∀ W (k : Nat), Below w.heap.size w W → Calls Try.prog 80 #[fnV d vp vb, .int .i64 b, .int .i64 k] W fun e w' => e = .returned (.int .i64 (resN d b k)) ∧ Below W.heap.size W w') := ⟨fun W k hW => resOfS d vp vb b k W (h.keep hW) hn⟩
  have hres : Kp (∀ k : Nat, resN d b k = -1 ∨ ∃ v : Nat, resN d b k = v ∧ v < cntV d) := ⟨fun k => res_bd d h.b b k⟩
  generalize cntV d = cnt at *
  generalize resN d = res at *
  unfold fnN at hn
  obtain ⟨name, link, params, rs, blocks⟩ := d
  obtain ⟨-, hp, hbl⟩ := h
  dsimp only [fnV] at *
  have nn := blsN_nn blocks
  have n2 : (blocks.length : Int) ≤ 1048576 := by omega
  obtain ⟨a1, k1, rfl⟩ := hp.shape
  obtain ⟨b2, o2, ⟨⟨a2, k2, rfl, m1, m2⟩, m3⟩, -, fc⟩ := hbl.ex
  obtain rfl := m2 (by omega)
  obtain ⟨bN, oN, ⟨⟨aN, cN, rfl, l1, l3⟩, l4⟩, -, nc⟩ := hN.ex
  obtain rfl := l3 (by omega)
  obtain ⟨aP, nP, cP, rfl⟩ := hP
  obtain ⟨aT, cT, rfl, tc⟩ := hT.ex
  obtain ⟨u, nc1, nc2⟩ := nc b hb
  have hnx : Kp (∀ y ∈ nextL blocks b, 0 ≤ y ∧ y < blocks.length) := ⟨fun y hy => nextL_bd hy⟩
  have hnl : (nextL blocks b).length ≤ 1048576 := by have := @nextL_len blocks b; omega
  obtain ⟨bX, oX, ⟨⟨aX, cX, rfl, -, x2⟩, -⟩, -, xc⟩ := nc2.ex
  obtain ⟨W0, hW0⟩ : ∃ W0, Kp (W0 = (w.alloc (Go.Obj.cells #[.string name, .int .i64 link, .slice a1 params.length k1, .int .i64 rs, .slice (some ⟨b2, o2, none⟩) blocks.length k2] 30)).alloc (Go.Obj.cells #[.slice (some ⟨bN, oN, none⟩) blocks.length cN, .slice aP nP cP] 45)) := ⟨_, ⟨rfl⟩⟩
  have hB0 : Below w.heap.size w W0 := by rw [hW0.out]; exact bel_trans (bel_alloc _ _) (bel_alloc _ _)
  have hz0 : W0.heap.size = w.heap.size + 2 := by rw [hW0.out]; simp
  have hf0 : W0.heap[w.heap.size]? = some (Go.Obj.cells #[.string name, .int .i64 link, .slice a1 params.length k1, .int .i64 rs, .slice (some ⟨b2, o2, none⟩) blocks.length k2] 30 (0, 0)) := by rw [hW0.out]; exact keep_cells (new_cells w _) (bel_alloc _ _)
  have hg0 : W0.heap[w.heap.size + 1]? = some (Go.Obj.cells #[.slice (some ⟨bN, oN, none⟩) blocks.length cN, .slice aP nP cP] 45 (0, 0)) := by
    have := new_cells (w.alloc (Go.Obj.cells #[.string name, .int .i64 link, .slice a1 params.length k1, .int .i64 rs, .slice (some ⟨b2, o2, none⟩) blocks.length k2] 30)) (Go.Obj.cells #[.slice (some ⟨bN, oN, none⟩) blocks.length cN, .slice aP nP cP] 45)
    rw [World.size_alloc] at this
    rw [hW0.out]; exact this
  have SG : Kp (∀ W', Below W0.heap.size W0 W' → W'.cell? ⟨w.heap.size + 1, 0, none⟩ = some (.slice (some ⟨bN, oN, none⟩) blocks.length cN) ∧ W'.cell? ⟨bN, oN + b, none⟩ = some (.slice aX (nextL blocks b).length cX)) := ⟨fun W' hW => ⟨at_cells (keep_cells hg0 hW) rfl, at_keep nc1 (bel_trans hB0 hW)⟩⟩
  have SX : Kp (∀ i (hi : i < (nextL blocks b).length), aX = some ⟨bX, oX, none⟩ ∧ ∀ W', Below W0.heap.size W0 W' → W'.cell? ⟨bX, oX + i, none⟩ = some (.int .i64 (nextL blocks b)[i])) := ⟨fun i hi => ⟨x2 (by omega), fun W' hW => at_keep (xc i hi) (bel_trans hB0 hW)⟩⟩
  have SF : Kp (∀ W', Below W0.heap.size W0 W' → W'.cell? ⟨w.heap.size, 0, none⟩ = some (.string name) ∧ W'.cell? ⟨w.heap.size, 1, none⟩ = some (.int .i64 link) ∧ W'.cell? ⟨w.heap.size, 2, none⟩ = some (.slice a1 params.length k1) ∧ W'.cell? ⟨w.heap.size, 3, none⟩ = some (.int .i64 rs) ∧ W'.cell? ⟨w.heap.size, 4, none⟩ = some (.slice (some ⟨b2, o2, none⟩) blocks.length k2)) :=
    ⟨fun W' hW => by have := keep_cells hf0 hW; exact ⟨at_cells this rfl, at_cells this rfl, at_cells this rfl, at_cells this rfl, at_cells this rfl⟩⟩
  have ST : Kp (∀ t, t < blocks.length → ∃ hb bi ci, aT = some ⟨hb, 0, none⟩ ∧ ∀ W', Below W0.heap.size W0 W' → W'.cell? ⟨hb, t, none⟩ = some (.slice (some ⟨bi, 0, none⟩) cnt ci) ∧ ∀ j, j < cnt → W'.cell? ⟨bi, j, none⟩ = some (.bool (L t j))) := ⟨fun t ht => by
    obtain ⟨hb, bi, ci, h1, h2, h3⟩ := tc t ht
    exact ⟨hb, bi, ci, h1, fun W' hW => ⟨at_keep h2 (bel_trans hB0 hW), fun j hj => at_keep (h3 j hj) (bel_trans hB0 hW)⟩⟩⟩
  have SB : Kp (∀ t (ht : t < blocks.length), ∃ vi, (∀ W', Below W0.heap.size W0 W' → W'.cell? ⟨b2, o2 + t, none⟩ = some vi) ∧ ∃ aI kI bI oI, vi = .slice aI (blocks[t]).length kI ∧ (0 < (blocks[t]).length → aI = some ⟨bI, oI, none⟩) ∧ (blocks[t]).length ≤ 140737488355328 ∧ ∀ k (hk : k < (blocks[t]).length), ∃ va vb vw, Sh va vb vw ∧ ∀ W', Below W0.heap.size W0 W' → InAt lo W' bI (oI + k * 9) (blocks[t])[k] va vb vw) := ⟨fun t ht => by
    obtain ⟨vi, q, r⟩ := fc t ht
    obtain ⟨bI, oI, ⟨⟨aI, kI, e, -, s2⟩, s3⟩, -, ic⟩ := r.ex
    exact ⟨vi, fun W' hW => at_keep q (bel_trans hB0 hW), aI, kI, bI, oI, e, s2, s3, fun k hk => by
      obtain ⟨va, vb, vw, hi⟩ := ic k hk
      exact ⟨va, vb, vw, hi.l.sh, fun W' hW => hi.keep (bel_trans hB0 hW)⟩⟩⟩
  obtain ⟨O, hmk, hSO⟩ := mkSeen cnt hcn
  have hBR : BRow (W0.alloc O) W0.heap.size cnt (fun _ => false) := by
    obtain ⟨cur, h1, h2⟩ := (hSO W0).ex
    exact ⟨cur, h1, fun i hi => by rw [h2 i hi]; simp⟩
  have hB1 := bel_alloc W0 O
  have hmk0 := hmk W0
  have CM : Kp (∀ (f : Nat → Bool) (o : OpD) (W : World), BRow W W0.heap.size cnt f → Calls Try.prog 79 #[.slice (some ⟨W0.heap.size, 0, none⟩) cnt cnt, .agg #[.int .i64 o.k, .int .i64 o.t, .int .i64 o.i, .int .u64 o.w]] W _) := ⟨fun f o W hW => markS W0.heap.size cnt cnt f o W hW hcn⟩
  rw [← hz0]
  clear hSO hmk fc nc nc1 nc2 xc tc x2 hN hT hbl hp l1 l4 m1 m3 hf0 hg0
  replace hz0 := Kp.mk hz0
  obtain ⟨F, hF⟩ : ∃ F, Kp (tfB blocks res L b = F) := ⟨_, ⟨rfl⟩⟩
  rw [hF.out]
  go_enter Try.func61, Try.ntmps61
  go_upto_region 1 with fail
  rw [← hW0.out]
  go_upto_region 2 with fail
  generalize W0.alloc O = W1 at *
  clear hmk0
  obtain ⟨y0, y1⟩ := SG.out W1 hB1
  go_wp2_with fail
  go_loopg [12] (nextL blocks b).length (fun k s wr => ∃ i : Nat, i ≤ (nextL blocks b).length ∧ s = .int .i64 i ∧ BRow wr W0.heap.size cnt (p1B blocks L b i) ∧ Below W0.heap.size W0 wr ∧ k = (nextL blocks b).length - i)
  case atStart => exact ⟨0, Nat.zero_le _, rfl, hBR.congr (fun u hu => by simp [p1B]), hB1, rfl⟩
  case round =>
    clear hBR hB1 y0 y1
    obtain ⟨i, hi, rfl, hR, hBl, rfl⟩ := hrel
    obtain ⟨y0, y1⟩ := SG.out wr hBl
    have i0 : (0 : Int) ≤ (i : Int) := by omega
    by_cases hlt : i < (nextL blocks b).length
    · have i1 : (i : Int) < ((nextL blocks b).length : Int) := by omega
      obtain ⟨rfl, hx⟩ := SX.out i hlt
      have x0 := hx wr hBl
      have hnx1 := hnx.out _ (List.getElem_mem hlt)
      have hstep : ∀ u, p1B blocks L b (i + 1) u = (p1B blocks L b i u || (L ((nextL blocks b)[i]).toNat u || (blocks.getD ((nextL blocks b)[i]).toNat []).any (phX b u))) := fun u => by
        unfold p1B
        rw [List.take_succ_eq_append_getElem hlt, List.any_append]
        simp
      generalize (nextL blocks b)[i] = t0 at *
      obtain ⟨t, rfl⟩ : ∃ t : Nat, t0 = t := ⟨t0.toNat, by omega⟩
      have ht : t < blocks.length := by omega
      rw [Int.toNat_natCast] at hstep
      have hgd : blocks.getD t [] = blocks[t] := by rw [List.getD_eq_getElem?_getD, List.getElem?_eq_getElem ht]; rfl
      rw [hgd] at hstep
      replace hstep := Kp.mk hstep
      replace hx := Kp.mk hx
      generalize p1B blocks L b i = R at *
      have t0 : (0 : Int) ≤ (t : Int) := by omega
      have t1 : (t : Int) < (blocks.length : Int) := by omega
      go_wp2_with fail
      go_loopg [14] cnt (fun k s wz => ∃ j : Nat, j ≤ cnt ∧ s = .int .i64 j ∧ BRow wz W0.heap.size cnt (fun u => R u || (decide (u < j) && L t u)) ∧ Below W0.heap.size W0 wz ∧ k = cnt - j)
      case atStart => exact ⟨0, Nat.zero_le _, rfl, hR.congr (fun u hu => by simp), hBl, rfl⟩
      case round =>
        clear hR hBl y0 y1 x0
        obtain ⟨j, hj, rfl, hR, hBl, rfl⟩ := hrel
        have j0 : (0 : Int) ≤ (j : Int) := by omega
        by_cases hjn : j < cnt
        · have j1 : (j : Int) < (cnt : Int) := by omega
          obtain ⟨hb, bi, ci, rfl, htt⟩ := ST.out t ht
          obtain ⟨h1, h2⟩ := htt wr hBl
          have h3 := h2 j hjn
          have hc := hR.at hjn
          have hrw := hR.rw j
          simp only [Nat.lt_irrefl, decide_false, Bool.false_and, Bool.or_false] at hc
          have hset : Kp (∀ x, x = (R j || L t j) → BRow (wr.setCell ⟨W0.heap.size, j, none⟩ (.bool x)) W0.heap.size cnt (fun u => R u || (decide (u < j + 1) && L t u))) := ⟨fun x hx => hR.set hjn x (fun u hu => by
            by_cases e : u = j
            · subst e; rw [if_pos rfl, hx]; simp
            · rw [if_neg e]
              have : decide (u < j + 1) = decide (u < j) := by simp; omega
              rw [this])⟩
          have hBs : Kp (∀ x, Below W0.heap.size W0 (wr.setCell ⟨W0.heap.size, j, none⟩ (.bool x))) := ⟨fun x => hBl.setCell (Nat.le_refl _) _⟩
          clear h2 htt
          generalize R j = c at *
          generalize L t j = c2 at *
          cases c with
          | true =>
            go_wp2_with fail
            go_roundg (cnt - (j + 1))
            case measure => omega
            case rel => exact ⟨j + 1, by omega, by go_num, hset.out _ rfl, hBs.out _, rfl⟩
          | false =>
            go_wp2_with fail
            go_roundg (cnt - (j + 1))
            case measure => omega
            case rel => exact ⟨j + 1, by omega, by go_num, hset.out _ (by simp), hBs.out _, rfl⟩
        · obtain rfl : j = cnt := by omega
          have hR2 : BRow wr W0.heap.size j (fun u => (R u || L t u) || ((blocks[t]).take 0).any (phX b u)) := hR.congr (fun u hu => by simp [hu])
          obtain ⟨vi, hvi, aI, kI, bI, oI, rfl, hsl, hbn, hins⟩ := SB.out t ht
          replace hins := Kp.mk hins
          replace hvi := Kp.mk hvi
          clear hR
          go_wp2_with fail
          go_loopg [15] (blocks[t]).length (fun k s wz => ∃ q : Nat, q ≤ (blocks[t]).length ∧ s = .int .i64 q ∧ BRow wz W0.heap.size j (fun u => (R u || L t u) || ((blocks[t]).take q).any (phX b u)) ∧ Below W0.heap.size W0 wz ∧ k = (blocks[t]).length - q)
          case atStart => exact ⟨0, Nat.zero_le _, rfl, hR2, hBl, rfl⟩
          case round =>
            clear hR2 hBl
            obtain ⟨q, hq, rfl, hR, hBl, rfl⟩ := hrel
            have v0 := hvi.out wr hBl
            obtain ⟨-, -, -, -, f4⟩ := SF.out wr hBl
            have q0 : (0 : Int) ≤ (q : Int) := by omega
            by_cases hqn : q < (blocks[t]).length
            · have q1 : (q : Int) < ((blocks[t]).length : Int) := by omega
              obtain rfl := hsl (by omega)
              obtain ⟨va, vb, vw, ⟨⟨pa, ma, ca, rfl⟩, ⟨pb, mb, cb, rfl⟩, ⟨pw, mw, cw, rfl⟩⟩, hia⟩ := hins.out q hqn
              obtain ⟨c0, c1, c2, c3, c4, c5, c6, c7, c8, -⟩ := hia wr hBl
              have hnext : Kp (∀ u, ((blocks[t]).take (q + 1)).any (phX b u) = (((blocks[t]).take q).any (phX b u) || phX b u (blocks[t])[q])) := ⟨fun u => by rw [List.take_succ_eq_append_getElem hqn, List.any_append]; simp⟩
              have hil := Kp.mk (fun W' hW => (hia W' hW).l)
              generalize (blocks[t])[q] = x at *
              generalize hP : (fun u => R u || L t u || ((blocks[t]).take q).any (phX b u)) = P at *
              have hPu : Kp (∀ u, P u = (R u || L t u || ((blocks[t]).take q).any (phX b u))) := ⟨fun u => by rw [← hP]⟩
              clear hP hia
              have hVb := bel_alloc wr (Go.Obj.cells #[.int .i64 x.op, .int .i64 x.ty, .int .i64 x.fl, .int .i64 x.pr, .int .i64 x.ca, .int .i64 x.sz, .slice pa ma ca, .slice pb mb cb, .slice pw mw cw] 112)
              have hVn := new_cells wr (Go.Obj.cells #[.int .i64 x.op, .int .i64 x.ty, .int .i64 x.fl, .int .i64 x.pr, .int .i64 x.ca, .int .i64 x.sz, .slice pa ma ca, .slice pb mb cb, .slice pw mw cw] 112)
              obtain ⟨V, hV⟩ : ∃ V, Kp (V = wr.alloc (Go.Obj.cells #[.int .i64 x.op, .int .i64 x.ty, .int .i64 x.fl, .int .i64 x.pr, .int .i64 x.ca, .int .i64 x.sz, .slice pa ma ca, .slice pb mb cb, .slice pw mw cw] 112)) := ⟨_, ⟨rfl⟩⟩
              rw [← hV.out] at hVb hVn
              have hBV := bel_trans hBl hVb
              have hRV : BRow V W0.heap.size j (fun u => P u || (List.range 0).any (fun q => phU b x q u)) := (hR.keep hVb).congr (fun u hu => by simp)
              have e1 : ma = x.args.length := by
                obtain ⟨_, _, ⟨⟨_, _, e, -⟩, -⟩, -⟩ := (hil.out V hBV).a.ex
                injection e
              have e2 : mb = x.bl.length := by
                obtain ⟨_, _, ⟨⟨_, _, e, -⟩, -⟩, -⟩ := (hil.out V hBV).b.ex
                injection e
              subst e1 e2
              have hVc : Kp (∀ W', Below W0.heap.size W0 W' → W'.heap[wr.heap.size]? = V.heap[wr.heap.size]? → W'.cell? ⟨wr.heap.size, 0, none⟩ = some (.int .i64 x.op) ∧ W'.cell? ⟨wr.heap.size, 6, none⟩ = some (.slice pa x.args.length ca) ∧ W'.cell? ⟨wr.heap.size, 7, none⟩ = some (.slice pb x.bl.length cb)) := ⟨fun W' _ e => by
                have := e.trans hVn
                exact ⟨at_cells this rfl, at_cells this rfl, at_cells this rfl⟩⟩
              have hwV : wr.heap.size < V.heap.size := (Array.getElem?_eq_some_iff.1 hVn).1
              have hwW : W0.heap.size < wr.heap.size := hR.lt
              have hal : x.args.length ≤ 140737488355328 ∧ x.bl.length ≤ 140737488355328 := by
                obtain ⟨_, _, ⟨-, h1⟩, -⟩ := (hil.out V hBV).a.ex
                obtain ⟨_, _, ⟨-, h2⟩, -⟩ := (hil.out V hBV).b.ex
                exact ⟨h1, h2⟩
              obtain ⟨wx, hwx⟩ : ∃ wx, wx = wr.heap.size := ⟨_, rfl⟩
              rw [← hwx] at hVc hwV hwW
              replace hVn := Kp.mk hVn
              go_upto_region 14 with fail
              rw [← hV.out, ← hwx]
              clear c0 c1 c2 c3 c4 c5 c6 c7 c8 v0 f4 hVb
              replace hwx := Kp.mk hwx
              go_wp2_with fail
              go_loopg [17] x.args.length (fun k s wz => ∃ p : Nat, p ≤ x.args.length ∧ s = .int .i64 p ∧ BRow wz W0.heap.size j (fun u => P u || (List.range p).any (fun q => phU b x q u)) ∧ Below W0.heap.size W0 wz ∧ wz.heap[wx]? = V.heap[wx]? ∧ k = x.args.length - p)
              case atStart => exact ⟨0, Nat.zero_le _, rfl, hRV, hBV, rfl, rfl⟩
              case round =>
                clear hR hBl hRV hBV
                obtain ⟨p, hp, rfl, hR, hBl, hwq, rfl⟩ := hrel
                obtain ⟨d0, d6, d7⟩ := hVc.out wr hBl hwq
                have p0 : (0 : Int) ≤ (p : Int) := by omega
                by_cases hpn : p < x.args.length
                · have p1 : (p : Int) < (x.args.length : Int) := by omega
                  by_cases hpb : p < x.bl.length
                  · have p2 : (p : Int) < (x.bl.length : Int) := by omega
                    by_cases hop : x.op = 20
                    · have ho : (x.op == 20) = true := by simp [hop]
                      obtain ⟨bB, oB, ⟨⟨_, _, e, -, g2⟩, -⟩, -, bc⟩ := (hil.out wr hBl).b.ex
                      injection e with e1 e2 e3
                      subst e1 e3
                      obtain rfl := g2 (by omega)
                      have hbc := bc p hpb
                      have hmore : Kp (∀ u, (List.range (p + 1)).any (fun q => phU b x q u) = ((List.range p).any (fun q => phU b x q u) || phU b x p u)) := ⟨fun u => by rw [List.range_succ, List.any_append]; simp⟩
                      have hph : Kp (∀ u, phU b x p u = ((x.bl[p] == (b : Int)) && opU x.args[p] u)) := ⟨fun u => by
                        unfold phU
                        rw [ho, Bool.true_and, List.getElem?_eq_getElem hpb, List.getElem?_eq_getElem hpn]
                        rfl⟩
                      generalize x.bl[p] = tb at *
                      replace hop := Kp.mk hop
                      by_cases htb : tb = (b : Int)
                      · have htq : (tb == (b : Int)) = true := by simp [htb]
                        obtain ⟨bA, oA, ⟨⟨_, _, e, -, g2⟩, -⟩, -, ac⟩ := (hil.out wr hBl).a.ex
                        injection e with e1 e2 e3
                        subst e1 e3
                        obtain rfl := g2 (by omega)
                        obtain ⟨o0, o1, o2, o3⟩ := ac p hpn
                        generalize x.args[p] = oo at *
                        have C := Kp.mk (CM.out _ oo wr hR)
                        have hR4 : Kp (∀ W', BRow W' W0.heap.size j (fun u => (P u || (List.range p).any (fun q => phU b x q u)) || opU oo u) → BRow W' W0.heap.size j (fun u => P u || (List.range (p + 1)).any (fun q => phU b x q u))) := ⟨fun W' h => h.congr (fun u hu => by rw [hmore.out u, hph.out u, htq, Bool.true_and, Bool.or_assoc])⟩
                        replace htb := Kp.mk htb
                        obtain ⟨oo1, oo2, oo3, oo4⟩ := oo
                        dsimp only at *
                        clear bc ac
                        go_wp2_with fail
                        refine C.out.mono ?_
                        rintro e w2 ⟨⟨v, rfl⟩, hR5, hg5⟩
                        have hB5 := hBl.grown hg5 hBl.size (fun k hk => by cases hk; exact Nat.le_refl _)
                        have hw5 := (hg5.block wx (Array.getElem?_eq_some_iff.1 (hwq.trans (Array.getElem?_eq_getElem hwV))).1 (by simp; omega)).trans hwq
                        have hR6 := hR4.out _ hR5
                        clear C hR hBl hR5 hg5 o0 o1 o2 o3 hbc d0 d6 d7 hwq
                        go_wp2_with fail
                        go_roundg (x.args.length - (p + 1))
                        case measure => omega
                        case rel => exact ⟨p + 1, by omega, by go_num, hR6, hB5, hw5, rfl⟩
                      · have htq : (tb == (b : Int)) = false := by simp [htb]
                        have hR4 : BRow wr W0.heap.size j (fun u => P u || (List.range (p + 1)).any (fun q => phU b x q u)) := hR.congr (fun u hu => by rw [hmore.out u, hph.out u, htq, Bool.false_and, Bool.or_false])
                        replace htb := Kp.mk htb
                        clear bc hR
                        go_wp2_with fail
                        go_roundg (x.args.length - (p + 1))
                        case measure => omega
                        case rel => exact ⟨p + 1, by omega, by go_num, hR4, hBl, hwq, rfl⟩
                    · have ho : (x.op == 20) = false := by simp [hop]
                      have hR3 : BRow wr W0.heap.size j (fun u => R u || L t u || ((blocks[t]).take (q + 1)).any (phX b u)) := hR.congr (fun u hu => by rw [hnext.out u, hPu.out u, phX_stop hp (.inr hop)]; simp only [Bool.or_assoc])
                      clear hR
                      go_wp2_with fail
                      go_roundg ((blocks[t]).length - (q + 1))
                      case measure => omega
                      case rel => exact ⟨q + 1, by omega, by go_num, hR3, hBl, rfl⟩
                  · have p2 : ¬ (p : Int) < (x.bl.length : Int) := by omega
                    have hR3 : BRow wr W0.heap.size j (fun u => R u || L t u || ((blocks[t]).take (q + 1)).any (phX b u)) := hR.congr (fun u hu => by rw [hnext.out u, hPu.out u, phX_stop hp (.inl (by omega))]; simp only [Bool.or_assoc])
                    clear hR
                    go_wp2_with fail
                    go_roundg ((blocks[t]).length - (q + 1))
                    case measure => omega
                    case rel => exact ⟨q + 1, by omega, by go_num, hR3, hBl, rfl⟩
                · have p1 : ¬ (p : Int) < (x.args.length : Int) := by omega
                  obtain hpe : p = x.args.length := by omega
                  replace hpe := Kp.mk hpe
                  have hR3 : BRow wr W0.heap.size j (fun u => R u || L t u || ((blocks[t]).take (q + 1)).any (phX b u)) := hR.congr (fun u hu => by rw [hnext.out u, hPu.out u, show phX b u x = (List.range p).any (fun q => phU b x q u) by rw [hpe.out]; rfl]; simp only [Bool.or_assoc])
                  clear hR
                  go_wp2_with fail
                  go_roundg ((blocks[t]).length - (q + 1))
                  case measure => omega
                  case rel => exact ⟨q + 1, by omega, by go_num, hR3, hBl, rfl⟩
            · obtain rfl : q = (blocks[t]).length := by omega
              rw [List.take_length] at hR
              have hR2 : BRow wr W0.heap.size j (p1B blocks L b (i + 1)) := hR.congr (fun u hu => by rw [hstep.out u, Bool.or_assoc])
              clear hR
              go_wp2_with fail
              go_roundg ((nextL blocks b).length - (i + 1))
              case measure => omega
              case rel => exact ⟨i + 1, by omega, by go_num, hR2, hBl, rfl⟩
    · obtain rfl : i = (nextL blocks b).length := by omega
      have hgd : blocks.getD b [] = blocks[b] := by rw [List.getD_eq_getElem?_getD, List.getElem?_eq_getElem hb]; rfl
      obtain ⟨vi, hvi, aI, kI, bI, oI, rfl, hsl, hbn, hins⟩ := SB.out b hb
      have hfin : Kp (F = bwB blocks[b] (res b) (p1B blocks L b (nextL blocks b).length) (blocks[b]).length) := ⟨by rw [← hF.out]; unfold tfB; rw [hgd]⟩
      clear hgd
      generalize p1B blocks L b (nextL blocks b).length = P at *
      generalize blocks[b] = xs at *
      have v0 := hvi wr hBl
      obtain ⟨-, -, -, -, f4⟩ := SF.out wr hBl
      have b0 : (0 : Int) ≤ (b : Int) := by omega
      have b1 : (b : Int) < (blocks.length : Int) := by omega
      have i1 : ¬ ((nextL blocks b).length : Int) < ((nextL blocks b).length : Int) := by omega
      replace hins := Kp.mk hins
      replace hvi := Kp.mk hvi
      go_wp2_with fail
      go_loopg [18] xs.length (fun k s wz => ∃ m : Nat, m ≤ xs.length ∧ s = .int .i64 ((xs.length : Int) - 1 - m) ∧ BRow wz W0.heap.size cnt (bwB xs (res b) P m) ∧ Below W0.heap.size W0 wz ∧ k = xs.length - m)
      case atStart => exact ⟨0, Nat.zero_le _, by simp, hR, hBl, rfl⟩
      case round =>
        clear hR hBl v0 f4 y0 y1
        obtain ⟨m, hm, rfl, hR, hBl, rfl⟩ := hrel
        by_cases hmn : m < xs.length
        · obtain ⟨k0, hk0⟩ : ∃ k0 : Nat, (xs.length : Int) - 1 - m = k0 := ⟨xs.length - 1 - m, by omega⟩
          rw [hk0]
          have hk : k0 < xs.length := by omega
          have hkm : Kp ((k0 : Int) - 1 = (xs.length : Int) - 1 - ((m + 1 : Nat) : Int)) := ⟨by omega⟩
          replace hk0 := Kp.mk hk0
          have k00 : (0 : Int) ≤ (k0 : Int) := by omega
          have k01 : (k0 : Int) < (xs.length : Int) := by omega
          obtain rfl := hsl (by omega)
          have v0 := hvi.out wr hBl
          obtain ⟨f0, f1, f2, f3, f4⟩ := SF.out wr hBl
          obtain ⟨va, vb, vw, ⟨⟨pa, ma, ca, rfl⟩, ⟨pb, mb, cb, rfl⟩, ⟨pw, mw, cw, rfl⟩⟩, hia⟩ := hins.out k0 hk
          obtain ⟨c0, c1, c2, c3, c4, c5, c6, c7, c8, -⟩ := hia wr hBl
          have hbw : Kp (bwB xs (res b) P (m + 1) = bwS (res b) (xs[k0]'hk) k0 (bwB xs (res b) P m)) := ⟨by
            have e : xs.length - 1 - m = k0 := by have := hk0.out; omega
            show bwS _ (xs.getD _ default) _ _ = _
            rw [e, List.getD_eq_getElem?_getD, List.getElem?_eq_getElem hk]
            rfl⟩
          have hil := Kp.mk (fun W' hW => (hia W' hW).l)
          generalize xs[k0]'hk = x at *
          generalize bwB xs (res b) P m = R at *
          clear hia
          have hVb := bel_alloc wr (Go.Obj.cells #[.int .i64 x.op, .int .i64 x.ty, .int .i64 x.fl, .int .i64 x.pr, .int .i64 x.ca, .int .i64 x.sz, .slice pa ma ca, .slice pb mb cb, .slice pw mw cw] 112)
          have hVn := new_cells wr (Go.Obj.cells #[.int .i64 x.op, .int .i64 x.ty, .int .i64 x.fl, .int .i64 x.pr, .int .i64 x.ca, .int .i64 x.sz, .slice pa ma ca, .slice pb mb cb, .slice pw mw cw] 112)
          obtain ⟨V, hV⟩ : ∃ V, Kp (V = wr.alloc (Go.Obj.cells #[.int .i64 x.op, .int .i64 x.ty, .int .i64 x.fl, .int .i64 x.pr, .int .i64 x.ca, .int .i64 x.sz, .slice pa ma ca, .slice pb mb cb, .slice pw mw cw] 112)) := ⟨_, ⟨rfl⟩⟩
          rw [← hV.out] at hVb hVn
          have hBV := bel_trans hBl hVb
          have e1 : ma = x.args.length := by
            obtain ⟨_, _, ⟨⟨_, _, e, -⟩, -⟩, -⟩ := (hil.out V hBV).a.ex
            injection e
          subst e1
          have hal : x.args.length ≤ 140737488355328 := by
            obtain ⟨_, _, ⟨-, h1⟩, -⟩ := (hil.out V hBV).a.ex
            exact h1
          have C1 := Kp.mk (CR.out V k0 (bel_trans hB0 hBV))
          obtain ⟨wx, hwx⟩ : ∃ wx, wx = wr.heap.size := ⟨_, rfl⟩
          have hwV : wr.heap.size < V.heap.size := (Array.getElem?_eq_some_iff.1 hVn).1
          have hwW : W0.heap.size < wr.heap.size := hR.lt
          have hRV := hR.keep hVb
          rw [← hwx] at hVn hwV hwW
          go_upto_region 23 with fail
          rw [← hV.out, ← hwx]
          clear c0 c1 c2 c3 c4 c5 c6 c7 c8 v0 f0 f1 f2 f3 f4 hVb hR
          obtain ⟨f0, f1, f2, f3, f4⟩ := SF.out V hBV
          replace hwx := Kp.mk hwx
          replace hVn := Kp.mk hVn
          go_wp2_with fail
          refine C1.out.mono ?_
          rintro e w2 ⟨rfl, hb2⟩
          have hB2 := bel_trans hBV hb2
          have hR2 := hRV.keep hb2
          have hx2 := keep_cells hVn.out hb2
          have d0 := at_cells hx2 (j := 0) rfl
          have d6 := at_cells hx2 (j := 6) rfl
          replace hx2 := Kp.mk hx2
          clear C1 f0 f1 f2 f3 f4 hRV hBl
          rcases hres.out k0 with hv | ⟨v, hv, hvn⟩
          · obtain ⟨Rk, hRkd⟩ : ∃ Rk : Nat → Bool, Rk = R := ⟨_, rfl⟩
            have hRk : Kp (∀ u : Nat, (!(res b k0 == (u : Int)) && R u) = Rk u) := ⟨fun u => by
              rw [hv, hRkd]
              have : ((-1 : Int) == (u : Int)) = false := by rw [beq_eq_false_iff_ne]; omega
              rw [this]; rfl⟩
            rw [← hRkd] at hR2
            have hvg : ¬ (res b k0 ≥ 0) := by omega
            have hvd : decide (res b k0 ≥ 0) = false := decide_eq_false hvg
            replace hv := Kp.mk hv
            replace hRkd := Kp.mk hRkd
            by_cases hop : x.op = 20
            · have ho : (x.op == 20) = true := by simp [hop]
              have hop2 : Kp ((x.op == 20) = true) := ⟨ho⟩
              replace hop := Kp.mk hop
              have hR3 : BRow _ W0.heap.size cnt (bwB xs (res b) P (m + 1)) := hR2.congr (fun u hu => by
                rw [hbw.out]
                unfold bwS
                rw [hop2.out, Bool.not_true, Bool.false_and, Bool.or_false, hRk.out u])
              go_wp2_with fail
              go_roundg (xs.length - (m + 1))
              case measure => omega
              case rel => exact ⟨m + 1, by omega, by rw [← hkm.out], hR3, hB2, rfl⟩
            · have ho : (x.op == 20) = false := by simp [hop]
              have hop2 : Kp ((x.op == 20) = false) := ⟨ho⟩
              replace hop := Kp.mk hop
              go_wp2_with fail
              go_loopg [21] x.args.length (fun k s wz => ∃ p : Nat, p ≤ x.args.length ∧ s = .int .i64 p ∧ BRow wz W0.heap.size cnt (fun u => Rk u || (x.args.take p).any (fun o => opU o u)) ∧ Below W0.heap.size W0 wz ∧ wz.heap[wx]? = V.heap[wx]? ∧ k = x.args.length - p)
              case atStart => exact ⟨0, Nat.zero_le _, rfl, hR2.congr (fun u hu => by simp), hB2, (hx2.out.trans hVn.out.symm), rfl⟩
              case round =>
                clear hR2 hB2 d0 d6
                obtain ⟨p, hp, rfl, hR, hBl, hwq, rfl⟩ := hrel
                have hx3 := hwq.trans hVn.out
                have d6 := at_cells hx3 (j := 6) rfl
                have p0 : (0 : Int) ≤ (p : Int) := by omega
                replace hx3 := Kp.mk hx3
                by_cases hpn : p < x.args.length
                · have p1 : (p : Int) < (x.args.length : Int) := by omega
                  obtain ⟨bA, oA, ⟨⟨_, _, e, -, g2⟩, -⟩, -, ac⟩ := (hil.out wr hBl).a.ex
                  injection e with e1 e2 e3
                  subst e1 e3
                  obtain rfl := g2 (by omega)
                  obtain ⟨o0, o1, o2', o3⟩ := ac p hpn
                  have hmore : Kp (∀ u, (x.args.take (p + 1)).any (fun o => opU o u) = ((x.args.take p).any (fun o => opU o u) || opU x.args[p] u)) := ⟨fun u => by rw [List.take_succ_eq_append_getElem hpn, List.any_append]; simp⟩
                  generalize x.args[p] = oo at *
                  have C := Kp.mk (CM.out _ oo wr hR)
                  have hR4 : Kp (∀ W', BRow W' W0.heap.size cnt (fun u => (Rk u || (x.args.take p).any (fun o => opU o u)) || opU oo u) → BRow W' W0.heap.size cnt (fun u => Rk u || (x.args.take (p + 1)).any (fun o => opU o u))) := ⟨fun W' h => h.congr (fun u hu => by rw [hmore.out u, Bool.or_assoc])⟩
                  obtain ⟨oo1, oo2, oo3, oo4⟩ := oo
                  dsimp only at *
                  clear ac
                  go_wp2_with fail
                  refine C.out.mono ?_
                  rintro e w3 ⟨⟨v, rfl⟩, hR5, hg5⟩
                  have hB5 := hBl.grown hg5 hBl.size (fun k hk => by cases hk; exact Nat.le_refl _)
                  have hw5 := (hg5.block wx (Array.getElem?_eq_some_iff.1 (hwq.trans (Array.getElem?_eq_getElem hwV))).1 (by simp; omega)).trans hwq
                  have hR6 := hR4.out _ hR5
                  clear C hR hBl hR5 hg5 o0 o1 o2' o3 d6 hwq
                  go_wp2_with fail
                  go_roundg (x.args.length - (p + 1))
                  case measure => omega
                  case rel => exact ⟨p + 1, by omega, by go_num, hR6, hB5, hw5, rfl⟩
                · obtain hpe : p = x.args.length := by omega
                  replace hpe := Kp.mk hpe
                  have p1 : ¬ (p : Int) < (x.args.length : Int) := by have := hpe.out; omega
                  have hR3 : BRow wr W0.heap.size cnt (bwB xs (res b) P (m + 1)) := hR.congr (fun u hu => by
                    rw [hbw.out, hpe.out, List.take_length]
                    unfold bwS
                    rw [hop2.out, Bool.not_false, Bool.true_and, hRk.out u])
                  clear hR
                  go_wp2_with fail
                  go_roundg (xs.length - (m + 1))
                  case measure => omega
                  case rel => exact ⟨m + 1, by omega, by rw [← hkm.out], hR3, hBl, rfl⟩
          · obtain ⟨Rk, hRkd⟩ : ∃ Rk : Nat → Bool, Rk = fun u => if u = v then false else R u := ⟨_, rfl⟩
            have hRk : Kp (∀ u : Nat, (!(res b k0 == (u : Int)) && R u) = Rk u) := ⟨fun u => by
              rw [hv, hRkd]
              dsimp only
              by_cases e : u = v
              · subst e; simp
              · rw [if_neg e]
                have : ((v : Int) == (u : Int)) = false := by rw [beq_eq_false_iff_ne]; omega
                rw [this]; rfl⟩
            have hrw := hR2.rw v
            have hcv := hR2.at hvn
            have hR7 : BRow (w2.setCell ⟨W0.heap.size, v, none⟩ (.bool false)) W0.heap.size cnt Rk := hR2.set hvn false (fun u hu => by rw [hRkd])
            have hB7 : Below W0.heap.size W0 (w2.setCell ⟨W0.heap.size, v, none⟩ (.bool false)) := hB2.setCell (Nat.le_refl _) _
            have hx7 : (w2.setCell ⟨W0.heap.size, v, none⟩ (.bool false)).heap[wx]? = V.heap[wx]? := (heap_set _ _ _ _ _ (by omega)).trans (hx2.out.trans hVn.out.symm)
            have e7 := hx7.trans hVn.out
            have d07 := at_cells e7 (j := 0) rfl
            have d67 := at_cells e7 (j := 6) rfl
            replace hx7 := Kp.mk hx7
            replace e7 := Kp.mk e7
            have v00 : (0 : Int) ≤ (v : Int) := by omega
            have v01 : (v : Int) < (cnt : Int) := by omega
            rw [hv]
            replace hv := Kp.mk hv
            replace hRkd := Kp.mk hRkd
            clear hR2 hB2
            by_cases hop : x.op = 20
            · have ho : (x.op == 20) = true := by simp [hop]
              have hop2 : Kp ((x.op == 20) = true) := ⟨ho⟩
              replace hop := Kp.mk hop
              have hR3 : BRow _ W0.heap.size cnt (bwB xs (res b) P (m + 1)) := hR7.congr (fun u hu => by
                rw [hbw.out]
                unfold bwS
                rw [hop2.out, Bool.not_true, Bool.false_and, Bool.or_false, hRk.out u])
              go_wp2_with fail
              go_roundg (xs.length - (m + 1))
              case measure => omega
              case rel => exact ⟨m + 1, by omega, by rw [← hkm.out], hR3, hB7, rfl⟩
            · have ho : (x.op == 20) = false := by simp [hop]
              have hop2 : Kp ((x.op == 20) = false) := ⟨ho⟩
              replace hop := Kp.mk hop
              clear d0 d6
              have d0 := d07
              have d6 := d67
              go_wp2_with fail
              go_loopg [21] x.args.length (fun k s wz => ∃ p : Nat, p ≤ x.args.length ∧ s = .int .i64 p ∧ BRow wz W0.heap.size cnt (fun u => Rk u || (x.args.take p).any (fun o => opU o u)) ∧ Below W0.heap.size W0 wz ∧ wz.heap[wx]? = V.heap[wx]? ∧ k = x.args.length - p)
              case atStart => exact ⟨0, Nat.zero_le _, rfl, hR7.congr (fun u hu => by simp), hB7, hx7.out, rfl⟩
              case round =>
                clear hR7 hrw hcv d07 d67 hB7 d0 d6
                obtain ⟨p, hp, rfl, hR, hBl, hwq, rfl⟩ := hrel
                have hx3 := hwq.trans hVn.out
                have d6 := at_cells hx3 (j := 6) rfl
                have p0 : (0 : Int) ≤ (p : Int) := by omega
                replace hx3 := Kp.mk hx3
                by_cases hpn : p < x.args.length
                · have p1 : (p : Int) < (x.args.length : Int) := by omega
                  obtain ⟨bA, oA, ⟨⟨_, _, e, -, g2⟩, -⟩, -, ac⟩ := (hil.out wr hBl).a.ex
                  injection e with e1 e2 e3
                  subst e1 e3
                  obtain rfl := g2 (by omega)
                  obtain ⟨o0, o1, o2', o3⟩ := ac p hpn
                  have hmore : Kp (∀ u, (x.args.take (p + 1)).any (fun o => opU o u) = ((x.args.take p).any (fun o => opU o u) || opU x.args[p] u)) := ⟨fun u => by rw [List.take_succ_eq_append_getElem hpn, List.any_append]; simp⟩
                  generalize x.args[p] = oo at *
                  have C := Kp.mk (CM.out _ oo wr hR)
                  have hR4 : Kp (∀ W', BRow W' W0.heap.size cnt (fun u => (Rk u || (x.args.take p).any (fun o => opU o u)) || opU oo u) → BRow W' W0.heap.size cnt (fun u => Rk u || (x.args.take (p + 1)).any (fun o => opU o u))) := ⟨fun W' h => h.congr (fun u hu => by rw [hmore.out u, Bool.or_assoc])⟩
                  obtain ⟨oo1, oo2, oo3, oo4⟩ := oo
                  dsimp only at *
                  clear ac
                  go_wp2_with fail
                  refine C.out.mono ?_
                  rintro e w3 ⟨⟨v, rfl⟩, hR5, hg5⟩
                  have hB5 := hBl.grown hg5 hBl.size (fun k hk => by cases hk; exact Nat.le_refl _)
                  have hw5 := (hg5.block wx (Array.getElem?_eq_some_iff.1 (hwq.trans (Array.getElem?_eq_getElem hwV))).1 (by simp; omega)).trans hwq
                  have hR6 := hR4.out _ hR5
                  clear C hR hBl hR5 hg5 o0 o1 o2' o3 d6 hwq
                  go_wp2_with fail
                  go_roundg (x.args.length - (p + 1))
                  case measure => omega
                  case rel => exact ⟨p + 1, by omega, by go_num, hR6, hB5, hw5, rfl⟩
                · obtain hpe : p = x.args.length := by omega
                  replace hpe := Kp.mk hpe
                  have p1 : ¬ (p : Int) < (x.args.length : Int) := by have := hpe.out; omega
                  have hR3 : BRow wr W0.heap.size cnt (bwB xs (res b) P (m + 1)) := hR.congr (fun u hu => by
                    rw [hbw.out, hpe.out, List.take_length]
                    unfold bwS
                    rw [hop2.out, Bool.not_false, Bool.true_and, hRk.out u])
                  clear hR
                  go_wp2_with fail
                  go_roundg (xs.length - (m + 1))
                  case measure => omega
                  case rel => exact ⟨m + 1, by omega, by rw [← hkm.out], hR3, hBl, rfl⟩
        · obtain hme : m = xs.length := by omega
          replace hme := Kp.mk hme
          have hRf : BRow wr W0.heap.size cnt (bwB xs (res b) P xs.length) := by have := hme.out; subst this; exact hR
          have hneg : ¬ ((xs.length : Int) - 1 - m ≥ 0) := by have := hme.out; omega
          have hneg2 : decide ((xs.length : Int) - 1 - m ≥ 0) = false := decide_eq_false hneg
          clear hR
          go_wp2_with fail
          go_ret
          exact ⟨rfl, by rw [hfin.out]; exact hRf, bel_trans hB0 hBl⟩
end Go.Proofs.Ytbfpfjkjeekbdaa
