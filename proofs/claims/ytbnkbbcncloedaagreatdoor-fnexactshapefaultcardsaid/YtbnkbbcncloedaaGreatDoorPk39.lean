/- The packed texts Its, Opn, It7, Vt3. -/
import Derived.Test.YtbnkbbcncloedaaGreatDoorRows
import Derived.WalkKit
import Derived.ProofKit
import Derived.OpenShut
import Derived.WalkLawsBesides
import Derived.Below
import Derived.BigQuiet
import Derived.Lib.QuietBelow
import Derived.Lib.AtoiErrMem
import Derived.Deep.OwnRows
import Derived.Deep.DeepCutAuto
import Derived.RangeFuncNested
import Derived.RangeFuncBound
import Derived.RangeFuncCalls
import Derived.RangeFuncLeaves
import Derived.OwnWalkIn
import Derived.TacticsInMore
import Derived.LoopNIn
import Derived.LoopIn
import Derived.RangeFuncBox
import Derived.Deep.Slices
import Derived.SizedLaws
import Derived.Shelf.Abstract
import Derived.Deep.RegionHeld3
import Derived.Maps.AppendAt
import Derived.OwnWalk
import Derived.Lib.SliceRun
import Derived.Test.YtbnkbbcncloedaaGreatDoorPk1
import Derived.Test.YtbnkbbcncloedaaGreatDoorPk2
import Derived.Test.YtbnkbbcncloedaaGreatDoorPk3
import Derived.Test.YtbnkbbcncloedaaGreatDoorPk4
import Derived.Test.YtbnkbbcncloedaaGreatDoorPk5
import Derived.Test.YtbnkbbcncloedaaGreatDoorPk6
import Derived.Test.YtbnkbbcncloedaaGreatDoorPk7
import Derived.Test.YtbnkbbcncloedaaGreatDoorPk25
namespace Go.Proofs.YtbnkbbcncloedaaGreatDoor
section
open Go.ChangeShapes Go.WideShapes Go.ChangeAt Go.RowKit

attribute [local go_sem] Oper.semAt_some

set_option linter.unusedVariables false

set_option linter.unusedSimpArgs false

set_option maxRecDepth 100000 in
set_option maxHeartbeats 2000000 in
theorem instrs_stops (F : Fence) (n : Nat) (hF : F.fn 187) (hro : F.round = none) (hn : 1 ≤ n) (n0 Bx : Nat) (w0 : World) (vb : Value) (Y : List (List ItD)) (hY : ItBls n0 w0 vb Y)
    (hc : At w0 Bx 4 vb) (hS0 : n0 ≤ w0.heap.size) :
    SeqStopsK F n Tryz.prog 187 #[.pointer (some ⟨Bx, 0, none⟩)] (fun x : {y : ItD // y ∈ Y.flatten} => itE x.1) (Below n0) (fun ys => ys.map (·.1) = Y.flatten) (fun _ => True) Y.flatten.length w0 := by
  intro l J Jx W hW hJ hJx hR h0
  have hal : ∀ s A o, J s A → J s (World.alloc A o) := fun s A o h => hJ s A _ none h (World.grownBy_alloc A o none) (fun r e => by cases e)
  obtain ⟨L, hL⟩ : ∃ L, L = Y.flatten.attach := ⟨_, rfl⟩
  have hLl : L.length = Y.flatten.length := by rw [hL]; simp
  have hLg : ∀ m (h : m < L.length), L[m].1 = Y.flatten[m]'(by omega) := fun m h => by subst hL; simp
  have hLe : L.map (·.1) = Y.flatten := by subst hL; simp
  obtain ⟨S, hS⟩ : ∃ S : Nat → Prop, S = fun k => k < n0 := ⟨_, rfl⟩
  have hSw : ∀ k, S k → k < w0.heap.size := fun k hk => by rw [hS] at hk; omega
  have hsn : ∀ k, S k → k < n0 := fun k hk => by rw [hS] at hk; exact hk
  replace hS : ∀ k, k < n0 → S k := fun k hk => by rw [hS]; exact hk
  have K0 : Kq S w0 W := Kq.below hW hSw
  obtain ⟨⟨b, o, ⟨⟨a, cap, rfl, h1, h2⟩, h3⟩, hk⟩, ix⟩ := hY
  replace hc := (hW.cell (p := ⟨Bx, 4, none⟩) (Lib.lt_of_cell hc)).trans hc
  refine callsIn_of_wp Tryz.func187 rfl hF ?_ hro
  simp only [Tryz.ntmps187, List.size_toArray, List.length_cons, List.length_nil, Nat.reduceAdd, Nat.reduceSub, Array.replicate_succ, Array.replicate_zero, List.push_toArray, List.append_toArray, List.nil_append, List.cons_append]
  replace h2 := Kp.mk h2
  replace hk := Kp.mk hk
  replace ix := Kp.mk ix
  replace hR := Kp.mk hR
  replace hS := Kp.mk hS
  replace hLe := Kp.mk hLe
  replace hLg := Kp.mk hLg
  replace hsn := Kp.mk hsn
  gi_wp2
  gi_loopw [10] (fun i wr => ∃ k : Nat, k ≤ Y.length ∧ i = .int .i64 k ∧ J (L.take (offY Y k)) wr ∧ Kq S W wr) (fun i _ => Y.length - (intOf i).toNat)
  case atStart => exact ⟨0, Nat.zero_le _, rfl, h0, Kq.refl _ _⟩
  case round =>
    obtain ⟨k, hkl, rfl, hJk, KW⟩ := hrel
    by_cases hlt : k < Y.length
    · obtain rfl := h2.out (by omega)
      obtain ⟨hb, vi, c0, hins⟩ := hk.out k hlt
      replace c0 := KW.at (hS.out _ hb) (K0.at (hS.out _ hb) c0)
      obtain ⟨⟨bi, oi, ⟨⟨ai, capi, rfl, i1, i2⟩, i3⟩, hi⟩⟩ := hins
      obtain ⟨ys, hys⟩ : ∃ ys, Kp (Y[k] = ys) := ⟨_, ⟨rfl⟩⟩
      rw [hys.out] at hi i3 i1 i2 c0
      have hR2 : Kp (∀ j (hj : j < ys.length) W1, J (L.take (offY Y k + j)) W1 → YieldAt F (n - 1) Tryz.prog l #[.agg #[.int .i64 k, .int .i64 j], inV ys[j].d ys[j].va ys[j].vb ys[j].vw] W1 fun e W' =>
          e = Ending.returned (Value.bool true) ∧ J (L.take (offY Y k + (j + 1))) W' ∧ Below n0 W1 W' ∨ e = Ending.returned (Value.bool false) ∧ (∃ pre, Jx pre W')) := ⟨fun j hj W1 hJ1 => by
        obtain ⟨q, e⟩ := flat_at Y k j hlt (by rw [hys.out]; exact hj)
        have r := hR.out _ (L[offY Y k + j]'(by omega)) W1 hJ1 (by rw [List.length_take]; omega)
        have x := ix.out k hlt j (by rw [hys.out]; exact hj)
        have et : L.take (offY Y k + j) ++ [L[offY Y k + j]'(by omega)] = L.take (offY Y k + (j + 1)) := (List.take_succ_eq_append_getElem (by omega)).symm
        rw [et] at r
        rw [hLg.out _ (by omega), e] at r
        simp only [hys.out] at x
        simp only [itE, hys.out, x.1, x.2] at r
        refine r.mono ?_
        rintro e w' (⟨h1, h2, h3⟩ | ⟨h1, h2⟩)
        · exact .inl ⟨h1, h2, h3⟩
        · exact .inr ⟨h1, ⟨_, h2⟩⟩⟩
      have hoff : Kp (offY Y (k + 1) = offY Y k + ys.length) := ⟨by rw [offY_succ Y k hlt, hys.out]⟩
      replace hi := Kp.mk hi
      replace i2 := Kp.mk i2
      replace c0 : At wr b (o + k) (.slice ai ys.length capi) := c0
      have HJ := Kp.mk hJk
      have hbl := Lib.lt_of_cell c0
      clear hR ix hk hys
      generalize offY Y k = O at *
      gi_wp2
      gi_loopw [18] (fun i wq => ∃ j : Nat, j ≤ ys.length ∧ i = .int .i64 j ∧ J (L.take (O + j)) wq ∧ Kq S W wq) (fun i _ => ys.length - (intOf i).toNat)
      case atStart =>
        exact ⟨0, Nat.zero_le _, rfl, hal _ _ _ HJ.out, KW.trans (Kq.below (bel_alloc _ _) (fun k hk => by have := hSw k hk; have := hW.size; have := KW.size; omega))⟩
      case round =>
        obtain ⟨j, hjl, rfl, hJj, KQ⟩ := hrel
        by_cases hlt2 : j < ys.length
        · obtain rfl := i2.out (by omega)
          obtain ⟨hb2, sh, c9⟩ := hi.out j hlt2
          replace c9 := KQ.i9 (hS.out _ hb2) (K0.i9 (hS.out _ hb2) c9)
          have hR3 := hR2.out j hlt2
          generalize ys[j] = y at *
          obtain ⟨yb, yi, d, va, vb, vw⟩ := y
          obtain ⟨⟨p1, m1, g1, rfl⟩, ⟨p2, m2, g2, rfl⟩, ⟨p3, m3, g3, rfl⟩⟩ := sh
          obtain ⟨q0, q1, q2, q3, q4, q5, q6, q7, q8⟩ := c9
          have hwl : W.heap.size ≤ wr.heap.size := KQ.size
          have hsl : ∀ k, S k → k < W.heap.size := fun k hk => by have := hSw k hk; have := hW.size; omega
          obtain ⟨fn, tmps, assign, body, hy, hRR⟩ := hR3 (wr.alloc (Go.Obj.cells #[.int .i64 d.op, .int .i64 d.ty, .int .i64 d.fl, .int .i64 d.pr, .int .i64 d.ca, .int .i64 d.sz, .slice p1 m1 g1, .slice p2 m2 g2, .slice p3 m3 g3] 82))
            (hal _ _ _ hJj)
          have KA : Kq S W (wr.alloc (Go.Obj.cells #[.int .i64 d.op, .int .i64 d.ty, .int .i64 d.fl, .int .i64 d.pr, .int .i64 d.ca, .int .i64 d.sz, .slice p1 m1 g1, .slice p2 m2 g2, .slice p3 m3 g3] 82)) :=
            KQ.trans (Kq.below (bel_alloc _ _) (fun k hk => by have := hsl k hk; omega))
          dsimp only at hy
          gi_wp2
          refine hRR.mono ?_
          rintro e W3 (⟨rfl, hJ3, hk3⟩ | ⟨rfl, ⟨m, hJx3⟩⟩)
          · gi_wp2
            exact ⟨⟨j + 1, by omega, by go_num, hJ3, KA.trans (Kq.below hk3 hsn.out)⟩, by simp [intOf]; omega⟩
          · gi_wp2
            refine bodyPost_ret (results_none rfl _ _ _) rfl ?_
            exact ⟨⟨_, rfl⟩, .inr ⟨m, trivial, hJx3⟩⟩
        · obtain rfl : j = ys.length := by omega
          gi_wp2
          refine ⟨⟨k + 1, by omega, by go_num, ?_, KQ⟩, by simp [intOf]; omega⟩
          rw [hoff.out]
          exact hJj
    · obtain rfl : k = Y.length := by omega
      gi_wp2
      go_end0
      refine ⟨⟨_, rfl⟩, .inl ⟨L, hLe.out, ?_⟩⟩
      rw [offY_end, ← hLl, List.take_length] at hJk
      exact hJk
end
section
open Go.ChangeShapes Go.WideShapes Go.ChangeAt Go.RowKit

set_option linter.unusedVariables false

set_option linter.unusedSimpArgs false

theorem mem_weightsAll {H : Type} {P : Program} {e : TypeId} {ds : List (DataW H)} {d : DataW H} {n : Nat} (hd : d ∈ ds) (hn : n ∈ d.weights P e) : n ∈ DataW.weightsAll P e ds := by
  induction ds with
  | nil => simp at hd
  | cons y r ih =>
    simp only [DataW.weightsAll, List.mem_append]
    rcases List.mem_cons.1 hd with rfl | h
    · exact .inl hn
    · exact .inr (ih h)

theorem list_of {α : Type} (n : Nat) (R : Nat → α → Prop) (h : ∀ i, i < n → ∃ y, R i y) : ∃ ys : List α, ys.length = n ∧ ∀ i (hi : i < ys.length), R i ys[i] := by
  refine ⟨List.ofFn (fun i : Fin n => Classical.choose (h i i.2)), by simp, fun i hi => ?_⟩
  rw [List.getElem_ofFn]
  exact Classical.choose_spec (h i (by simpa using hi))

section

variable {H : Type} {enc : TypeId × Value → H} {w : World} {spare : Nat → Bool} {held : Bool}

theorem cells_in {a : Addr} {m n : Nat} {cs : List Value} (h : w.cells? 0 (a.add m) n = some cs) (hn : 0 < n) : (m = 0 → a.spot = none) ∧ cs.length = n ∧ ∀ j (hj : j < cs.length), At w a.block (a.off + m + j) cs[j] := by
  have h2 := World.cells?_some h
  obtain ⟨-, hl, hc⟩ := h2
  refine ⟨fun hm => ?_, hl, fun j hj => ?_⟩
  · have := hc 0 hn
    rw [Deep.add_add, hm, List.getElem?_eq_getElem (by omega)] at this
    exact World.cell?_spot this
  · have := hc j (by omega)
    rw [Deep.add_add, List.getElem?_eq_getElem hj] at this
    obtain ⟨b, o, s⟩ := a
    show w.cell? ⟨b, o + m + j, none⟩ = _
    rw [Nat.add_assoc]
    by_cases q : m + j = 0
    · have hs : s = none := by
        rw [q] at this
        exact World.cell?_spot this
      subst hs
      rwa [Go.WideShapes.add_plain] at this
    · unfold Addr.add at this
      rwa [if_neg q] at this

theorem opn_slice {t e : TypeId} {size fuel : Nat} {v : Value} {x : DataW H × List MemPlace} (ht : Tryz.prog.underlying t = some (.slice e)) (hc : Tryz.prog.cellsOf e = size) (hs : 0 < size) (hb : decide (0 < Tryz.prog.bytesOf e) = true)
    (h : DataW.trod enc Tryz.prog w 0 spare held fuel t [v] = some x) (hw : ∀ n ∈ x.1.weights Tryz.prog t, n ≤ reachBytes) :
    ∃ b o len, Sl v len b o ∧ ∀ i, i < len → ∃ cs y n, cs.length = size ∧ (∀ j (hj : j < cs.length), At w b (o + i * size + j) cs[j]) ∧ DataW.trod enc Tryz.prog w 0 spare held n e cs = some y ∧ ∀ n ∈ y.1.weights Tryz.prog e, n ≤ reachBytes := by
  rcases Deep.open_slice ht h with ⟨hcs, -⟩ | ⟨a, len, cap, m, n, D, Pl, hcs, -, hl, hm, hmm, hx, hel⟩
  · obtain rfl : v = .slice none 0 0 := by simpa using hcs
    exact ⟨0, 0, 0, ⟨⟨none, 0, rfl, Nat.le_refl _, fun h => absurd h (by simp)⟩, by simp⟩, fun i hi => absurd hi (by omega)⟩
  · obtain rfl : v = .slice (some a) len cap := by simpa using hcs
    have hlm : len ≤ m := by rw [hmm]; split <;> omega
    subst hx
    simp only [DataW.weights, ht, List.mem_cons, List.mem_append] at hw
    have hlen : len ≤ 140737488355328 := by
      have h1 := hw _ (.inl rfl)
      simp only [List.length_map, List.length_range] at h1
      have h2 := reachBytes_lt
      have h3 : len * 1 ≤ (len + (m - len)) * Tryz.prog.bytesOf e := Nat.mul_le_mul (by omega) (of_decide_eq_true hb)
      omega
    refine ⟨a.block, a.off, len, ⟨⟨some a, cap, rfl, hl, fun h0 => ?_⟩, hlen⟩, fun i hi => ?_⟩
    · obtain ⟨cs', h1, h2⟩ := hel 0 (by omega)
      rw [hc] at h1
      have q := (cells_in h1 hs).1 (by omega)
      obtain ⟨b, o, s⟩ := a
      simp only at q
      subst q
      rfl
    · obtain ⟨cs', h1, h2⟩ := hel i (by omega)
      rw [hc] at h1
      obtain ⟨-, q2, q3⟩ := cells_in h1 hs
      exact ⟨cs', _, n, q2, q3, h2, fun k hk => hw k (.inr (.inl (mem_weightsAll (List.mem_map.2 ⟨i, List.mem_range.2 hi, rfl⟩) hk)))⟩

end
end
section
open Go.ChangeShapes Go.WideShapes Go.ChangeAt Go.RowKit

set_option linter.unusedVariables false

set_option linter.unusedSimpArgs false

theorem keep_cells {w w' : World} {b : Nat} {o : Obj} (h : w.heap[b]? = some o) (hb : Below w.heap.size w w') : w'.heap[b]? = some o := (hb.block b (Array.getElem?_eq_some_iff.1 h).1).trans h

theorem new_cells (w : World) (o : Obj) : (w.alloc o).heap[w.heap.size]? = some o := (MapKept.heap_alloc w o).1

theorem FnAt.shapes {lo : Nat} {w : World} {d : FnD} {vp vb : Value} (h : FnAt lo w d vp vb) : (∃ a c, vp = .slice a d.params.length c) ∧ ∃ a c, vb = .slice a d.blocks.length c := by
  obtain ⟨a1, k1, e1⟩ := h.p.shape
  obtain ⟨a2, k2, e2⟩ := h.b.shape
  exact ⟨⟨a1, k1, e1⟩, ⟨a2, k2, e2⟩⟩
end
section
open Go.ChangeShapes Go.WideShapes Go.ChangeAt Go.RowKit

attribute [local go_sem] Oper.semAt_some

set_option linter.unusedVariables false

set_option linter.unusedSimpArgs false

def tysL : List ItD → List Int
  | [] => []
  | y :: r => if y.d.ty = 0 then tysL r else y.d.ty :: tysL r

theorem tysL_trip (L : List ItD) : tysOf (L.map trip) = tysL L := by
  induction L with
  | nil => rfl
  | cons y r ih =>
    simp only [List.map_cons, trip, tysOf, tysL, ih]

theorem tysL_app (a b : List ItD) : tysL (a ++ b) = tysL a ++ tysL b := by
  induction a with
  | nil => rfl
  | cons x r ih =>
    simp only [List.cons_append, tysL, ih]
    split <;> rfl

theorem tysL_len (L : List ItD) : (tysL L).length ≤ L.length := by
  induction L with
  | nil => exact Nat.le_refl _
  | cons x r ih =>
    simp only [tysL]
    split <;> simp only [List.length_cons] <;> omega

set_option maxRecDepth 100000 in
set_option maxHeartbeats 2000000 in
theorem valTyI (d : FnD) (vp vb : Value) (w : World) {lo : Nat} (h : FnAt lo w d vp vb) (hn : fnN d ≤ 1048576) :
    Calls Tryz.prog 83 #[fnV d vp vb] w fun e w' => ∃ v, e = .returned v ∧ OwnI w' w.heap.size v (d.params ++ tysOf (blPl 0 d.blocks)) ∧ Below w.heap.size w w' := by
  unfold fnN at hn
  obtain ⟨name, link, params, res, blocks⟩ := d
  obtain ⟨-, hp, hb⟩ := h
  dsimp only [fnV] at *
  have nn := blsN_nn blocks
  obtain ⟨a1, k1, rfl⟩ := hp.shape
  obtain ⟨Y, hY, hYd, hYi⟩ := itBls_of hb
  obtain ⟨a2, k2, rfl⟩ := hb.shape
  have hpl : blPl 0 blocks = Y.flatten.map trip := by
    rw [← hYd]
    exact blPl_trip Y 0 (fun k hk j hj => by simpa using hY.ix k hk j hj)
  have hbd : params.length + Y.flatten.length ≤ 1099511627776 := by
    have := blPl_len 0 blocks
    rw [hpl, List.length_map] at this
    omega
  have hp1 : params.length ≤ 1048576 := by omega
  rw [hpl, tysL_trip]
  clear hYd hYi hb hpl nn hn
  replace hY := Kp.mk hY
  replace hp := Kp.mk hp
  have C0 : Kp (∀ w, CallsIn Fence.wide 11 Tryz.prog _ _ w _) := ⟨fun w => callsIn_wide.2 (instrsOf_c name link res (.slice a1 params.length k1) (.slice a2 blocks.length k2) ⟨_, _, _, rfl⟩ ⟨_, _, _, rfl⟩ w)⟩
  have C1 : Kp (∀ w, Ints lo .i64 w (.slice a1 params.length k1) params → CallsIn Fence.wide 11 Tryz.prog _ _ w _) := ⟨fun w h => callsIn_wide.2 (cloneI (.slice a1 params.length k1) params w h hp1)⟩
  refine (callsIn_wide (n := 12)).1 ?_
  refine callsIn_of_wp_marks Tryz.func83 rfl trivial ?_ rfl
  simp only [Tryz.ntmps83, List.size_toArray, List.length_cons, List.length_nil, Nat.reduceAdd, Nat.reduceSub, Array.replicate_succ, Array.replicate_zero, List.push_toArray, List.append_toArray, List.nil_append, List.cons_append]
  obtain ⟨i0, hi0, hz0, hz1, hz2⟩ := info_parts info64
  gi_wp2
  refine ⟨trivial, ?_⟩
  refine (C1.out _ (hp.out.keep (bel_alloc _ _))).mono ?_
  rintro e w1 ⟨v, rfl, hown, hB1⟩
  obtain ⟨F, hF⟩ : ∃ F, F = Go.Obj.cells #[.string name, .int .i64 link, .slice a1 params.length k1, .int .i64 res, .slice a2 blocks.length k2] 74 (0, 0) := ⟨_, rfl⟩
  have hBw : Below w.heap.size w w1 := bel_trans (bel_alloc w _) hB1
  have hsz1 : w.heap.size + 1 ≤ w1.heap.size := by have := hB1.size; simpa using this
  rw [World.size_alloc] at hown
  obtain ⟨av, cv, rfl⟩ : ∃ a c, v = .slice a params.length c := by
    rcases hown.2 with ⟨rfl, h0⟩ | ⟨g, cap, cur, rfl, _⟩
    · exact ⟨none, 0, by rw [h0]⟩
    · exact ⟨_, _, rfl⟩
  have hx : (w1.alloc (Go.Obj.cells #[.slice av params.length cv] 66)).heap[w.heap.size]? = some F := by rw [hF]; exact keep_cells (keep_cells (new_cells w _) hB1) (bel_alloc _ _)
  have x0 : (w1.alloc (Go.Obj.cells #[.slice av params.length cv] 66)).cell? ⟨w.heap.size, 0, none⟩ = some (.string name) := at_cells (hx.trans (by rw [hF])) rfl
  have x1 : (w1.alloc (Go.Obj.cells #[.slice av params.length cv] 66)).cell? ⟨w.heap.size, 1, none⟩ = some (.int .i64 link) := at_cells (hx.trans (by rw [hF])) rfl
  have x2 : (w1.alloc (Go.Obj.cells #[.slice av params.length cv] 66)).cell? ⟨w.heap.size, 2, none⟩ = some (.slice a1 params.length k1) := at_cells (hx.trans (by rw [hF])) rfl
  have x3 : (w1.alloc (Go.Obj.cells #[.slice av params.length cv] 66)).cell? ⟨w.heap.size, 3, none⟩ = some (.int .i64 res) := at_cells (hx.trans (by rw [hF])) rfl
  have x4 : (w1.alloc (Go.Obj.cells #[.slice av params.length cv] 66)).cell? ⟨w.heap.size, 4, none⟩ = some (.slice a2 blocks.length k2) := at_cells (hx.trans (by rw [hF])) rfl
  replace hF := Kp.mk hF
  have hrow0 := Joins_le hown
  clear hown hB1
  gi_wp2
  refine ⟨trivial, ?_⟩
  refine (C0.out _).mono ?_
  rintro e w' ⟨rfl, rfl⟩
  have bT := (Boxed.new w1 66 (.slice av params.length cv))
  obtain ⟨W4, hW4⟩ : ∃ W4, W4 = (w1.alloc (Go.Obj.cells #[.slice av params.length cv] 66)).alloc (Go.Obj.cells #[.string name, .int .i64 link, .slice a1 params.length k1, .int .i64 res, .slice a2 blocks.length k2] 74) := ⟨_, rfl⟩
  have hB4 : Below w1.heap.size w1 W4 := by rw [hW4]; exact bel_trans (bel_alloc _ _) (bel_alloc _ _)
  have hBw4 : Below w.heap.size w W4 := bel_trans hBw hB4
  have bT4 : Boxed W4 w1.heap.size 66 (.slice av params.length cv) := by rw [hW4]; exact bT.alloc _
  have hr4 : W4.ownsRow w.heap.size 2 1 (.slice av params.length cv) params.length (params.map (Value.int .i64)) := by rw [hW4]; exact (hrow0.alloc _).alloc _
  have hz4 : W4.heap.size = w1.heap.size + 1 + 1 := by rw [hW4]; simp
  have hf4 : At W4 (w1.heap.size + 1) 4 (.slice a2 blocks.length k2) := by
    rw [hW4]
    have := new_cells (w1.alloc (Go.Obj.cells #[.slice av params.length cv] 66)) (Go.Obj.cells #[.string name, .int .i64 link, .slice a1 params.length k1, .int .i64 res, .slice a2 blocks.length k2] 74)
    rw [World.size_alloc] at this
    exact at_cells this rfl
  have hY4 : ItBls w.heap.size W4 (.slice a2 blocks.length k2) Y := hY.out.kq (Kq.below (S := fun k => k < w.heap.size) hBw4 (fun _ h => h)) (fun _ h => h)
  clear hx x0 x1 x2 x3 x4 hrow0 bT
  gi_wp2
  rw [← hW4]
  clear hW4 C0 C1
  refine wpIn_rangeFunc_ownH rfl (by decide) (gf := 187) (lb := #[.pointer (some ⟨w1.heap.size + 1, 0, none⟩)]) rfl trivial (enters_of Tryz.func187 (by kernel_rfl) rfl)
    (instrs_stops Fence.wide (12 - 1) trivial rfl (by decide) w.heap.size (w1.heap.size + 1) W4 _ Y hY4 hf4 (by omega)) belowK_t (belowK_b (by omega)) (Below.refl _ _) (fun _ => rfl)
    (fun pre W => (∃ v, Boxed W w1.heap.size 66 v ∧ W.ownsRow w.heap.size 2 1 v (params ++ tysL (pre.map (·.1))).length ((params ++ tysL (pre.map (·.1))).map (Value.int .i64)) ∧ True) ∧ Below w.heap.size w W)
    (fun _ _ _ => False)
    (OwnFrom.and (Own.from (holdsRow_own w.heap.size w1.heap.size 66 2 1 (fun (pre : List {y : ItD // y ∈ Y.flatten}) => (params ++ tysL (pre.map (·.1))).length) (fun pre => (params ++ tysL (pre.map (·.1))).map (Value.int .i64)) (fun pre v => True)) _) (ownFrom_below (by omega) (by omega)))
    (fun _ _ _ _ _ hs _ _ => hs)
    ⟨⟨_, bT4, by simpa [tysL] using hr4, trivial⟩, hBw4⟩
    (fun x a' X => ∃ B1, X.heap[B1]? = some (Go.Obj.cells #[.int .i64 x.1.d.op, .int .i64 x.1.d.ty, .int .i64 x.1.d.fl, .int .i64 x.1.d.pr, .int .i64 x.1.d.ca, .int .i64 x.1.d.sz, x.1.va, x.1.vb, x.1.vw] 82 (0, 0)) ∧ ∃ u11 u12,
      a' = { tmps := #[.agg #[.string name, .int .i64 link, .slice a1 params.length k1, .int .i64 res, .slice a2 blocks.length k2], .pointer (some ⟨w.heap.size, 0, none⟩), .slice none 0 0, .pointer (some ⟨w1.heap.size, 0, none⟩), undef, .pointer (some ⟨B1, 0, none⟩), .pointer (some ⟨w.heap.size, 2, none⟩), .slice a1 params.length k1, .slice av params.length cv,
        .agg #[.string name, .int .i64 link, .slice a1 params.length k1, .int .i64 res, .slice a2 blocks.length k2], .func (.func 187) #[] #[.pointer (some ⟨w1.heap.size + 1, 0, none⟩)], u11, u12, undef, undef, undef, undef, undef, undef, undef, undef, undef], defers := [] }) ?hAx ?assign ?body ?done ?stop
  case assign =>
    intro lr pre x X K hi hK
    obtain ⟨⟨yb, yi, d, va, vb, vw⟩, hy⟩ := x
    obtain ⟨⟨p1, m1, g1, q1⟩, ⟨p2, m2, g2, q2⟩, ⟨p3, m3, g3, q3⟩⟩ := hY4.sh hy
    dsimp only at q1 q2 q3 hK
    subst q1 q2 q3
    simp only [itE, List.zip_toArray, List.zip_cons_cons, List.zip_nil_right, List.foldl_toArray', List.foldl_cons, List.foldl_nil, List.setIfInBounds_toArray, List.set_cons_succ, List.set_cons_zero, Array.zip, List.toList_toArray]
    gi_wp2
    have hg := World.grownBy_alloc X (Go.Obj.cells #[.int .i64 d.op, .int .i64 d.ty, .int .i64 d.fl, .int .i64 d.pr, .int .i64 d.ca, .int .i64 d.sz, .slice p1 m1 g1, .slice p2 m2 g2, .slice p3 m3 g3] 82) none
    have hX : w.heap.size ≤ X.heap.size := by have := hi.2.size; have := hBw4.size; omega
    exact hK _ _ (KeepsFrom.of_grownBy hg (fun j e => by cases e)) ((bel_alloc _ _).mono hX) ⟨by
      obtain ⟨⟨v, q1, q2, q3⟩, -⟩ := hi
      exact ⟨v, q1.alloc _, q2.alloc _, q3⟩, hi.2.trans ((bel_alloc _ _).mono hX)⟩ ⟨X.heap.size, new_cells _ _, _, _, rfl⟩
  case hAx =>
    rintro x a' u A E row ⟨B1, p1, p3⟩ hg hr
    refine ⟨B1, (hg.block B1 (Array.getElem?_eq_some_iff.1 p1).1 (fun e => ?_)).trans p1, p3⟩
    obtain ⟨-, o, ho, hc⟩ := hr B1 e.symm
    rw [p1] at ho
    cases ho
    cases hc
  case body =>
    rintro lr pre x a' X hl - ⟨⟨v, hv, hrow, -⟩, hB⟩ ⟨B1, p1, u11, u12, rfl⟩ hlt
    have hc := hv.cell
    have hf := hv.frozen
    have hlen : (params ++ tysL (pre.map (·.1))).length ≤ 1099511627776 := by
      have := tysL_len (pre.map (·.1))
      rw [List.length_map] at this
      rw [List.length_append]
      omega
    have hp1 : X.cell? ⟨B1, 1, none⟩ = some (.int .i64 x.1.d.ty) := at_cells p1 rfl
    obtain ⟨A, hA⟩ : ∃ A, A = params ++ tysL (pre.map (·.1)) := ⟨_, rfl⟩
    have hA2 : params ++ tysL ((pre ++ [x]).map (·.1)) = if x.1.d.ty = 0 then A else A ++ [x.1.d.ty] := by
      rw [List.map_append, tysL_app, hA]
      by_cases q : x.1.d.ty = 0 <;> simp [tysL, q]
    rw [← hA] at hrow hlen
    clear hA
    obtain ⟨t, ht⟩ : ∃ t, x.1.d.ty = t := ⟨_, rfl⟩
    rw [ht] at hp1 hA2
    clear ht p1
    have hX : w.heap.size ≤ X.heap.size := by have := hB.size; have := hBw4.size; omega
    by_cases ht0 : t = 0
    · subst ht0
      rw [if_pos rfl] at hA2
      replace hA2 := Kp.mk hA2
      gi_wp2
      exact ⟨KeepsFrom.refl _ _, Below.refl _ _, ⟨v, hv, by rw [hA2.out]; exact hrow, trivial⟩, hB⟩
    · have tb : (t != 0) = true := bne_iff_ne.2 ht0
      rw [if_neg ht0] at hA2
      replace hA2 := Kp.mk hA2
      gi_wp2_with (gi_at_builtin; refine wpListIn_append_own _ rfl _ _ 66 rfl w.heap.size 2 i0 (.int .i64 0) 1 8 Tryz.underlying66 hi0 hz0 hz1 hz2 rfl (by decide) _ _ _ rfl (hrow.alloc _) ⟨X.heap.size, 0, none⟩ 1 1 [.int .i64 t] rfl rfl (cell_one_new _ _ _) (by simp [Value.oneCell']) (by unfold maxLen; omega) (by omega) (by simp; omega) ?_; intro v' w2 hown' hgrow _; obtain ⟨g', cap', rfl⟩ := ownsRow_succ hown'; obtain ⟨hv1, hv2, hr2, hk2, hb2⟩ := hv.appended (by decide) hrow hX (by omega) hown' hgrow; have hc1 := hv1.cell; have hf1 := hv1.frozen)
      exact ⟨hk2.from _, hb2, ⟨_, hv2, by rw [hA2.out]; simpa using hr2, trivial⟩, hB.trans hb2⟩
  case done =>
    rintro D xs X hD hxs ⟨⟨v, hv, hrow, -⟩, hB⟩ hK
    rw [hxs] at hrow
    have hc := hv.cell
    replace hrow := Kp.mk hrow
    gi_wp2
    refine ⟨by simp, .inl ⟨_, _, rfl, run_takeDeferred hK, ?_⟩⟩
    exact ⟨_, results_tmp rfl _ _ _, v, rfl, ⟨ownsRow_putObj hrow.out _ hK rfl⟩, hB.trans (belowK_b (w := w) (Nat.le_refl _) X D _ _ (by omega) hK rfl rfl)⟩
  case stop =>
    rintro D c pre X _ _ h _
    exact h.elim
end
end Go.Proofs.YtbnkbbcncloedaaGreatDoor
