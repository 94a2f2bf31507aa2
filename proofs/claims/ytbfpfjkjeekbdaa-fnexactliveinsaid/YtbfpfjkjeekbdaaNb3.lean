/- Sets of numbers; what a block's last instruction names: the program's helpers. -/
import Derived.Test.YtbfpfjkjeekbdaaNb1
import Derived.Maps.OwnSet
namespace Go.Proofs.Ytbfpfjkjeekbdaa
open Go.ChangeShapes Go.WideShapes Go.ChangeAt Go.RowKit Go.Maps
set_option linter.unusedVariables false
set_option linter.unusedSimpArgs false
set_option maxRecDepth 100000 in
theorem isIx (t n : Int) (w : World) : Calls Try.prog 43 #[.int .i64 t, .int .i64 n] w fun e w' => e = .returned (.bool (decide (0 ≤ t) && decide (t < n))) ∧ w' = w := by
  by_cases h0 : 0 ≤ t
  · by_cases h1 : t < n
    · have e0 : decide (0 ≤ t) = true := by simp [h0]
      have e1 : decide (t < n) = true := by simp [h1]
      rw [e0, e1]
      go_enter Try.func43, Try.ntmps43
      go_wp2_with fail
      go_ret
      exact ⟨rfl, rfl⟩
    · have e0 : decide (0 ≤ t) = true := by simp [h0]
      have e1 : decide (t < n) = false := by simp [h1]
      rw [e0, e1]
      go_enter Try.func43, Try.ntmps43
      go_wp2_with fail
      go_ret
      exact ⟨rfl, rfl⟩
  · have e0 : decide (0 ≤ t) = false := by simp [h0]
    rw [e0, Bool.false_and]
    go_enter Try.func43, Try.ntmps43
    go_wp2_with fail
    go_ret
    exact ⟨rfl, rfl⟩
theorem lawK : Keyed Try.prog 2 := int_keyed Try.underlying2
theorem zeroU (w : World) : (zeroValue 96).run Try.prog w = .ok (.agg #[]) w := by kernel_rfl
/-- A set of whole numbers: a map of at most n entries. -/
structure SetI (w : World) (b n : Nat) (acc : List Int) : Prop where
  ex : ∃ D : DataW Unit, w.ownsMap Try.prog 2 unitElem b n D ∧ ∀ x, Maps.has D (.int .i64 x) = acc.contains x
theorem SetI.kept {w w' : World} {row : Option Nat} {b n : Nat} {acc : List Int} (h : SetI w b n acc) (hg : w.grownBy w' row) (hne : some b ≠ row) : SetI w' b n acc := by
  obtain ⟨D, h1, h2⟩ := h.ex
  exact ⟨D, h1.kept hg hne, h2⟩
theorem SetI.alloc {w : World} {b n : Nat} {acc : List Int} (h : SetI w b n acc) (o : Obj) : SetI (w.alloc o) b n acc := h.kept (World.grownBy_alloc w o none) (by simp)
theorem SetI.keep {w w' : World} {b n : Nat} {acc : List Int} (h : SetI w b n acc) (hb : Below w.heap.size w w') : SetI w' b n acc := by
  obtain ⟨D, h1, h2⟩ := h.ex
  obtain ⟨es, clock, h3, r⟩ := h1
  exact ⟨D, ⟨es, clock, (hb.block b (Array.getElem?_eq_some_iff.1 h3).1).trans h3, r⟩, h2⟩
theorem SetI.made (w : World) : SetI (w.alloc (.map #[] 0)) w.heap.size 0 [] := ⟨_, World.ownsMap_made _ _ _ _, fun x => rfl⟩
/-- What is added. -/
def addL (acc : List Int) (x : Int) : List Int := if acc.contains x = true then acc else acc ++ [x]
theorem addL_at (acc : List Int) (x y : Int) : (addL acc x).contains y = (acc.contains y || y == x) := by
  unfold addL
  split
  · rename_i h
    by_cases e : y = x
    · subst e; rw [h]; simp
    · rw [beq_eq_false_iff_ne.2 e]; simp
  · rw [Bool.eq_iff_iff]; simp
set_option maxRecDepth 100000 in
set_option maxHeartbeats 2000000 in
theorem addI (b n : Nat) (acc : List Int) (x : Int) (w : World) (h : SetI w b n acc) (hn : n < 1099511627776) (hx : (Lit.int .i64 x).wf = true) :
    Calls Try.prog 32 #[.map (some b), .int .i64 x] w fun e w' => e = .returned (.bool (!acc.contains x)) ∧ w.grownBy w' (some b) ∧ SetI w' b (n + 1) (addL acc x) := by
  obtain ⟨D, hown, hhas⟩ := h.ex
  have hkey : keyOf Try.prog 2 (.int .i64 x) = some (.int .i64 x) := keyOf_int_mk Try.underlying2 hx
  have hD := hown.isMap
  have hh := hhas x
  by_cases hc : acc.contains x = true
  · rw [hc] at hh
    have ha : addL acc x = acc := if_pos hc
    rw [ha, hc]
    replace hhas := Kp.mk hhas
    go_enter Try.func32, Try.ntmps32
    go_wp2_with (first
      | (at_lookup; refine wpList_lookup_own_unit _ rfl _ _ 61 rfl 2 96 lawK Try.underlying61 (zeroU _) b n _ rfl hown _ _ rfl hkey ?_; rw [hh])
      | go_in)
    go_ret
    exact ⟨rfl, World.grownBy_alloc _ _ _, ⟨_, (hown.alloc _).mono (Nat.le_succ _), hhas.out⟩⟩
  · have hc2 : acc.contains x = false := by simpa using hc
    rw [hc2] at hh
    have ha : addL acc x = acc ++ [x] := if_neg hc
    rw [ha, hc2]
    replace hhas := Kp.mk hhas
    go_enter Try.func32, Try.ntmps32
    go_wp2_with (first
      | (at_lookup; refine wpList_lookup_own_unit _ rfl _ _ 61 rfl 2 96 lawK Try.underlying61 (zeroU _) b n _ rfl hown _ _ rfl hkey ?_; rw [hh])
      | (at_mapUpdate; refine wpList_mapUpdate_own _ rfl _ _ _ 61 rfl 2 96 lawK Try.underlying61 (unitElem (H := Unit)) b n _ rfl (hown.alloc _) (by unfold maxLen; omega) _ _ _ rfl rfl hkey _ [] unitElem_mk ?_; intro w1 hown1 hgrow1)
      | go_in)
    go_ret
    exact ⟨rfl, (World.grownBy_alloc _ _ _).trans hgrow1, ⟨_, hown1, fun y => by
      rw [List.contains_append, ← hhas.out y]
      by_cases e : y = x
      · subst e
        rw [has_put_same hD (show WideAt.IsKeyLit (.int .i64 y) from trivial)]
        simp
      · rw [has_put_other (fun h => e (by cases h; rfl))]
        simp [e]⟩⟩
set_option maxRecDepth 100000 in
set_option maxHeartbeats 4000000 in
/-- What a block's last instruction names: a slice that lies in the function. -/
theorem namedI (d : FnD) (vp vb : Value) (t : Int) (w0 w : World) {lo : Nat} (h : FnAt lo w0 d vp vb) (hB : Below w0.heap.size w0 w) (hn : fnN d ≤ 1048576) :
    Calls Try.prog 70 #[fnV d vp vb, .int .i64 t] w fun e w' => ∃ v, e = .returned v ∧ Ints lo .i64 w0 v (lastBl d.blocks t) ∧ Below w.heap.size w w' := by
  unfold fnN at hn
  obtain ⟨name, link, params, res, blocks⟩ := d
  obtain ⟨-, hp, hb⟩ := h
  dsimp only [fnV] at *
  have nn := blsN_nn blocks
  have n2 : (blocks.length : Int) ≤ 1048576 := by omega
  obtain ⟨a1, k1, rfl⟩ := hp.shape
  obtain ⟨b, o, ⟨⟨a2, k2, rfl, h1, h2⟩, h3⟩, -, hc⟩ := hb.ex
  have n3 : blsN blocks ≤ 1048576 := by omega
  clear hn nn hp hb
  replace hc := Kp.mk hc
  replace h2 := Kp.mk h2
  have CI : Kp (∀ w, Calls Try.prog 43 #[.int .i64 t, .int .i64 blocks.length] w _) := ⟨fun w => isIx t blocks.length w⟩
  have e0 : ∀ (w : World), Ints lo .i64 w (.slice none 0 0) [] := fun w => ⟨lo, 0, ⟨⟨none, 0, rfl, Nat.le_refl _, fun h => absurd h (by simp)⟩, by simp⟩, Nat.le_refl _, fun i hi => by simp at hi⟩
  replace e0 := Kp.mk e0
  by_cases hin : 0 ≤ t ∧ t < blocks.length
  case neg =>
    have eA : lastBl blocks t = [] := lastBl_out hin
    rw [eA]
    have eb : (decide (0 ≤ t) && decide (t < (blocks.length : Int))) = false := by simp; omega
    rw [eb] at CI
    go_enter Try.func70, Try.ntmps70
    go_wp2_with fail
    refine (CI.out _).mono ?_
    rintro e w1 ⟨rfl, rfl⟩
    go_wp2_with fail
    go_ret
    exact ⟨_, rfl, e0.out _, bel_alloc _ _⟩
  case pos =>
    obtain ⟨T, rfl⟩ : ∃ T : Nat, t = T := ⟨t.toNat, by omega⟩
    have hT : T < blocks.length := by omega
    have eb : (decide (0 ≤ (T : Int)) && decide ((T : Int) < (blocks.length : Int))) = true := by simp; omega
    rw [eb] at CI
    obtain rfl := h2.out (by omega)
    obtain ⟨vi, c0, hv⟩ := hc.out T hT
    replace c0 := at_keep c0 (bel_trans hB <| bel_alloc w (Go.Obj.cells #[.string name, .int .i64 link, .slice a1 params.length k1, .int .i64 res, .slice (some ⟨b, o, none⟩) blocks.length k2] 30))
    obtain ⟨ys, hys⟩ : ∃ ys, Kp (blocks[T] = ys) := ⟨_, ⟨rfl⟩⟩
    rw [hys.out] at hv
    have hL : lastBl blocks T = lastB ys := by rw [lastBl_in hT, hys.out]
    rw [hL]
    obtain ⟨bi, oi, ⟨⟨ai, ki, rfl, i1, i2⟩, i3⟩, -, ic⟩ := hv.ex
    clear hv hL hys
    by_cases y0 : ys.length = 0
    · obtain rfl := List.length_eq_zero_iff.1 y0
      rw [lastB_nil]
      clear ic i2
      go_enter Try.func70, Try.ntmps70
      go_wp2_with fail
      refine (CI.out _).mono ?_
      rintro e w1 ⟨rfl, rfl⟩
      go_wp2_with fail
      go_ret
      exact ⟨_, rfl, e0.out _, bel_alloc _ _⟩
    · have y1 : 0 < ys.length := by omega
      have hl2 := lastB_at ys y1
      obtain ⟨va, vbb, vw, q⟩ := ic (ys.length - 1) (by omega)
      obtain rfl := i2 y1
      rw [hl2]
      obtain ⟨x, hx⟩ : ∃ x, Kp (ys[ys.length - 1] = x) := ⟨_, ⟨rfl⟩⟩
      rw [hx.out] at q ⊢
      have q7 := q.c7
      have hI := Kp.mk q.l.b
      replace q7 := at_keep q7 (bel_trans hB <| bel_alloc w (Go.Obj.cells #[.string name, .int .i64 link, .slice a1 params.length k1, .int .i64 res, .slice (some ⟨b, o, none⟩) blocks.length k2] 30))
      obtain ⟨ab, kb, rfl⟩ := hI.out.shape
      clear hl2 ic hx q
      obtain ⟨k, hk⟩ : ∃ k : Nat, ys.length = k + 1 := ⟨ys.length - 1, by omega⟩
      rw [hk] at c0 i1 i3 y0 y1 q7
      simp only [Nat.add_sub_cancel] at q7
      have e3 : ((k : Int) + 1 == 0) = false := by simp; omega
      go_enter Try.func70, Try.ntmps70
      go_wp2_with fail
      refine (CI.out _).mono ?_
      rintro e w1 ⟨rfl, rfl⟩
      go_wp2_with fail
      go_ret
      exact ⟨_, rfl, hI.out, bel_alloc _ _⟩
end Go.Proofs.Ytbfpfjkjeekbdaa
namespace Go.Proofs.Ytbfpfjkjeekbdaa
open Go.ChangeShapes Go.WideShapes Go.ChangeAt Go.RowKit
set_option linter.unusedVariables false
set_option linter.unusedSimpArgs false
theorem SetI.mono {w : World} {b n n' : Nat} {acc : List Int} (h : SetI w b n acc) (hn : n ≤ n') : SetI w b n' acc := by
  obtain ⟨D, h1, h2⟩ := h.ex
  exact ⟨D, h1.mono hn, h2⟩
theorem own_ne_at {w : World} {base size n B : Nat} {e : TypeId} {v : Value} {xs : List Value} (h : w.ownsRow base e size v n xs) (hB : B < base) : v.ownBlock ≠ some B := fun q => by have := (h.lt _ q).1; omega
set_option maxRecDepth 100000 in
set_option maxHeartbeats 8000000 in
theorem nextI (d : FnD) (vp vb : Value) (t : Int) (w : World) {lo : Nat} (h : FnAt lo w d vp vb) (hn : fnN d ≤ 1048576) :
    Calls Try.prog 52 #[fnV d vp vb, .int .i64 t] w fun e w' => ∃ v, e = .returned v ∧ OwnI w' w.heap.size v (nextL d.blocks t) ∧ Below w.heap.size w w' := by
  have CN : Kp (∀ W, Below w.heap.size w W → Calls Try.prog 70 #[fnV d vp vb, .int .i64 t] W fun e w' => ∃ v, e = .returned v ∧ Ints lo .i64 w v (lastBl d.blocks t) ∧ Below W.heap.size W w') := ⟨fun W hW => namedI d vp vb t w W h hW hn⟩
  unfold fnN at hn
  obtain ⟨name, link, params, res, blocks⟩ := d
  obtain ⟨-, hp, hb⟩ := h
  dsimp only [fnV] at *
  have nn := blsN_nn blocks
  have n2 : (blocks.length : Int) ≤ 1048576 := by omega
  obtain ⟨a1, k1, rfl⟩ := hp.shape
  obtain ⟨a2, k2, rfl⟩ := hb.shape
  obtain ⟨i0, hi0, hz0, hz1, hz2⟩ := info_parts info64
  have n3 : blsN blocks ≤ 1048576 := by omega
  have hLn : ((lastBl blocks t).length : Int) ≤ blsN blocks := lastBl_len
  obtain ⟨L, hL⟩ : ∃ L, L = lastBl blocks t := ⟨_, rfl⟩
  rw [← hL] at hLn CN
  replace hLn : L.length ≤ 1048576 := by omega
  obtain ⟨A, hA⟩ : ∃ A, A = nextL blocks t := ⟨_, rfl⟩
  rw [← hA]
  have hA3 : Kp (nxF blocks.length [] L = A) := ⟨by rw [hA, hL]; rfl⟩
  clear hn nn hp hb hA hL
  have CI : Kp (∀ (x : Int) w, Calls Try.prog 43 #[.int .i64 x, .int .i64 blocks.length] w _) := ⟨fun x w => isIx x blocks.length w⟩
  have CA : Kp (∀ (b n : Nat) (acc : List Int) (x : Int) (w : World), SetI w b n acc → n < 1099511627776 → (Lit.int .i64 x).wf = true → Calls Try.prog 32 #[.map (some b), .int .i64 x] w _) := ⟨fun b n acc x w h hn hx => addI b n acc x w h hn hx⟩
  have hmm := @run_makeMap Try.prog
  obtain ⟨F, hF⟩ : ∃ F, Kp (F = Go.Obj.cells #[.string name, .int .i64 link, .slice a1 params.length k1, .int .i64 res, .slice a2 blocks.length k2] 30 (0, 0)) := ⟨_, ⟨rfl⟩⟩
  go_enter Try.func52, Try.ntmps52
  go_upto_region 3 with fail
  obtain ⟨W0, hW⟩ : ∃ W0, Kp (W0 = (w.alloc (Go.Obj.cells #[.string name, .int .i64 link, .slice a1 params.length k1, .int .i64 res, .slice a2 blocks.length k2] 30)).alloc (.map #[] 0)) := ⟨_, ⟨rfl⟩⟩
  have hF0 : W0.heap[w.heap.size]? = some F := by rw [hF.out, hW.out]; exact keep_cells (new_cells w _) (bel_alloc _ _)
  have hB0 : Below w.heap.size w W0 := by rw [hW.out]; exact bel_trans (bel_alloc w _) (bel_alloc _ _)
  have hs0 : w.heap.size + 2 ≤ W0.heap.size := by rw [hW.out]; simp
  have hS0 : SetI W0 (w.heap.size + 1) 0 [] := by
    have := SetI.made (w.alloc (Go.Obj.cells #[.string name, .int .i64 link, .slice a1 params.length k1, .int .i64 res, .slice a2 blocks.length k2] 30))
    rw [hW.out]
    rwa [World.size_alloc] at this
  have x0 : W0.cell? ⟨w.heap.size, 0, none⟩ = _ := at_cells (hF0.trans (by rw [hF.out])) rfl
  have x1 : W0.cell? ⟨w.heap.size, 1, none⟩ = _ := at_cells (hF0.trans (by rw [hF.out])) rfl
  have x2 : W0.cell? ⟨w.heap.size, 2, none⟩ = _ := at_cells (hF0.trans (by rw [hF.out])) rfl
  have x3 : W0.cell? ⟨w.heap.size, 3, none⟩ = _ := at_cells (hF0.trans (by rw [hF.out])) rfl
  have x4 : W0.cell? ⟨w.heap.size, 4, none⟩ = _ := at_cells (hF0.trans (by rw [hF.out])) rfl
  rw [← hW.out]
  go_wp2_with fail
  refine (CN.out _ hB0).mono ?_
  rintro e W1 ⟨vL, rfl, hIL, hb1⟩
  have hF1 := keep_cells hF0 hb1
  have hB1 := bel_trans hB0 hb1
  have hS1 := hS0.keep hb1
  have hs1 : w.heap.size + 2 ≤ W1.heap.size := by have := hb1.size; omega
  have hIL1 := hIL
  obtain ⟨bL, oL, ⟨⟨aL, kL, rfl, l1, l2⟩, l3⟩, -, lc⟩ := hIL.ex
  have LC : Kp (∀ W, Below w.heap.size w W → ∀ i (h : i < L.length), At W bL (oL + i) (.int .i64 L[i])) := ⟨fun W hW i hi => at_keep (lc i hi) hW⟩
  clear x0 x1 x2 x3 x4 lc hIL1 hIL hF0 hB0 hS0
  go_wp2_with fail
  go_loopw [5, 14] (fun s r wr => ∃ (i : Nat) (acc : List Int), i ≤ L.length ∧ r = .int .i64 i ∧ wr.ownsRow (w.heap.size + 2) 2 1 s acc.length (acc.map (Value.int .i64)) ∧ SetI wr (w.heap.size + 1) i acc ∧ Kp (nxF blocks.length acc (L.drop i) = A) ∧ acc.length + (L.drop i).length ≤ 1048576 ∧ wr.heap[w.heap.size]? = some F ∧ w.heap.size + 2 ≤ wr.heap.size ∧ Below w.heap.size w wr) (fun _ r _ => L.length - (intOf r).toNat)
  case atStart => exact ⟨0, [], Nat.zero_le _, rfl, World.ownsRow_nil _ _ _ _, hS1, by rw [List.drop_zero]; exact hA3, by simpa using hLn, hF1, hs1, hB1⟩
  case round =>
    clear hS1 hF1 hs1 hB1 hA3 hs0 hb1
    obtain ⟨i, acc, hi, rfl, hown, hS, hd, hn1, hF1, hs1, hBl⟩ := hrel
    have x4 : wr.cell? ⟨w.heap.size, 4, none⟩ = some (.slice a2 blocks.length k2) := at_cells (hF1.trans (by rw [hF.out])) rfl
    by_cases hlt : i < L.length
    · obtain rfl := l2 (by omega)
      have cx := LC.out _ hBl i hlt
      rw [List.drop_eq_getElem_cons hlt] at hd hn1
      generalize L[i] = x at *
      unfold nxF at hd
      rw [List.length_cons] at hn1
      by_cases h09 : 0 ≤ x ∧ x < blocks.length
      · have hI : Kp (∀ w, Calls Try.prog 43 #[.int .i64 x, .int .i64 blocks.length] w fun e w' => e = .returned (.bool true) ∧ w' = w) := ⟨fun w => by
          have := CI.out x w
          rwa [show (decide (0 ≤ x) && decide (x < (blocks.length : Int))) = true by simp; omega] at this⟩
        have hwf : (Lit.int .i64 x).wf = true := WalkArith.wf_i64 (by omega)
        have hC := Kp.mk (CA.out _ _ _ _ _ hS (by omega) hwf)
        by_cases hm : acc.contains x = true
        · rw [if_neg (by rw [hm]; simp)] at hd
          rw [hm, show addL acc x = acc from if_pos hm] at hC
          go_wp2_with fail
          refine (hI.out _).mono ?_
          rintro e w2 ⟨rfl, rfl⟩
          go_wp2_with fail
          refine hC.out.mono ?_
          rintro e w2 ⟨rfl, hg2, hS2⟩
          have hown2 := hown.kept hg2 (Or.inr (own_ne_at hown (Nat.lt_succ_self _)))
          have hF2 : w2.heap[w.heap.size]? = some F := (hg2.block _ (by omega) (by simp)).trans hF1
          have hBl2 := hBl.grown hg2 hBl.size (fun k hk => by cases hk; omega)
          have hs2 : w.heap.size + 2 ≤ w2.heap.size := by have := hg2.size; omega
          clear hown hF1 hBl x4 cx hC
          go_wp2_with fail
          exact ⟨⟨i + 1, acc, by omega, by go_num, hown2, hS2, hd, by omega, hF2, hs2, hBl2⟩, by simp [intOf]; omega⟩
        · have hm2 : acc.contains x = false := by simpa using hm
          rw [if_pos (by rw [hm2]; simp [h09])] at hd
          rw [hm2, show addL acc x = acc ++ [x] from if_neg hm] at hC
          go_wp2_with fail
          refine (hI.out _).mono ?_
          rintro e w2 ⟨rfl, rfl⟩
          go_wp2_with fail
          refine hC.out.mono ?_
          rintro e w2 ⟨rfl, hg2, hS2⟩
          have hown2 := hown.kept hg2 (Or.inr (own_ne_at hown (Nat.lt_succ_self _)))
          have hF2 : w2.heap[w.heap.size]? = some F := (hg2.block _ (by omega) (by simp)).trans hF1
          have hBl2 := hBl.grown hg2 hBl.size (fun k hk => by cases hk; omega)
          have hs2 : w.heap.size + 2 ≤ w2.heap.size := by have := hg2.size; omega
          replace hn1 := Kp.mk hn1
          have hx1 : acc.length ≤ 1048576 := by have := hn1.out; omega
          clear hown hF1 hBl x4 cx hC hS hg2
          go_wp2_with (at_builtin; refine wpList_append_vals _ rfl _ _ 22 rfl (w.heap.size + 2) 2 i0 (.int .i64 0) 1 8 Try.underlying22 hi0 hz0 hz1 hz2 rfl (by decide) _ _ _ rfl (hown2.alloc _) (some ⟨w2.heap.size, 0, none⟩) w2.heap.size 0 1 1 [.int .i64 x] rfl (fun _ => rfl) rfl (one_new w2 _ _) one_cell (by unfold maxLen; omega) (by omega) (by simp; omega) ?_; intro v3 w3 hown3 hgrow3)
          have hB3 := own_bel (hBl2.alloc hBl2.size _) (Joins_le (Joins_le (hown2.alloc _))) hgrow3 (by simp; omega)
          have hF3 : w3.heap[w.heap.size]? = some F := by
            rw [hgrow3.block w.heap.size (by simp; omega) (fun e => own_ne_at hown2 (by omega) e.symm), (MapKept.heap_alloc _ _).2 _ (by omega)]
            exact hF2
          have hS3 : SetI w3 (w.heap.size + 1) (i + 1) (acc ++ [x]) := (hS2.alloc _).kept hgrow3 (fun e => own_ne_at hown2 (by omega) e.symm)
          have hs3 : w.heap.size + 2 ≤ w3.heap.size := by have := hgrow3.size; simp at this; omega
          have hown4 : w3.ownsRow (w.heap.size + 2) 2 1 v3 (acc ++ [x]).length ((acc ++ [x]).map (Value.int .i64)) := by simpa using hown3
          clear hown2 hown3 hgrow3 hBl2 hF2 hS2
          go_wp2_with fail
          exact ⟨⟨i + 1, acc ++ [x], by omega, by go_num, hown4, hS3, hd, by have := hn1.out; simp only [List.length_append, List.length_cons, List.length_nil]; omega, hF3, hs3, hB3⟩, by simp [intOf]; omega⟩
      · have hI : Kp (∀ w, Calls Try.prog 43 #[.int .i64 x, .int .i64 blocks.length] w fun e w' => e = .returned (.bool false) ∧ w' = w) := ⟨fun w => by
          have := CI.out x w
          rwa [show (decide (0 ≤ x) && decide (x < (blocks.length : Int))) = false by simp; omega] at this⟩
        rw [if_neg (by simp; omega)] at hd
        go_wp2_with fail
        refine (hI.out _).mono ?_
        rintro e w2 ⟨rfl, rfl⟩
        go_wp2_with fail
        exact ⟨⟨i + 1, acc, by omega, by go_num, hown, hS.mono (Nat.le_succ _), hd, by omega, hF1, hs1, hBl⟩, by simp [intOf]; omega⟩
    · rw [List.drop_eq_nil_of_le (by omega)] at hd
      have e : acc = A := hd.out
      replace e := Kp.mk e
      replace hown := Kp.mk hown
      go_wp2_with fail
      go_ret
      exact ⟨_, rfl, ⟨by rw [← e.out]; exact Joins_le (Joins_le hown.out)⟩, hBl⟩
end Go.Proofs.Ytbfpfjkjeekbdaa
