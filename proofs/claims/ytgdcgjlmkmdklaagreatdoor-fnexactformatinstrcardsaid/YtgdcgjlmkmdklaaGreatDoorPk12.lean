/- Texts of one claim. -/
import Derived.Test.YtgdcgjlmkmdklaaGreatDoorPk0
import Derived.Test.YtgdcgjlmkmdklaaGreatDoorPk10
import Derived.Test.YtgdcgjlmkmdklaaGreatDoorPk11
namespace Go.Proofs.YtgdcgjlmkmdklaaGreatDoor
open Go.ChangeShapes Go.WideShapes Go.ChangeAt Go.RowKit
set_option linter.unusedVariables false
set_option linter.unusedSimpArgs false
theorem all_iff_getD {α : Type} (xs : List α) (d : α) (p : α → Bool) : xs.all p = true ↔ ∀ i, i < xs.length → p (xs.getD i d) = true := by
 rw [List.all_eq_true]
 constructor
 ·intro h i hi
  rw [show xs.getD i d = xs[i] by simp [List.getD_eq_getElem?_getD, hi]]
  exact h _ (List.getElem_mem _)
 ·intro h x hx
  obtain ⟨i, hi, rfl⟩ := List.getElem_of_mem hx
  have := h i hi
  rwa [show xs.getD i d = xs[i] by simp [List.getD_eq_getElem?_getD, hi]] at this
theorem all_take_iff_getD {α : Type} (xs : List α) (d : α) (p : α → Bool) (k : Nat) (hk : k ≤ xs.length) : (xs.take k).all p = true ↔ ∀ i, i < k → p (xs.getD i d) = true := by
 rw [all_iff_getD _ d, List.length_take, Nat.min_eq_left hk]
 constructor
 ·intro h i hi
  have := h i hi
  rwa [show (xs.take k).getD i d = xs.getD i d by simp [List.getD_eq_getElem?_getD, List.getElem?_take, hi]] at this
 ·intro h i hi
  rw [show (xs.take k).getD i d = xs.getD i d by simp [List.getD_eq_getElem?_getD, List.getElem?_take, hi]]
  exact h i hi
theorem lnk_lem {l : Int} {n : Nat} {SM R : Bool} (h : R = (decide (decide (l = 0) = decide (n = 0)) && SM)) : ((l = 0 ∧ n = 0) ∨ (¬ l = 0 ∧ ¬ n = 0) → (!R) = !SM) ∧ ((l = 0 ∧ ¬ n = 0) ∨ (¬ l = 0 ∧ n = 0) → (!R) = true) := by
 subst h
 refine ⟨?_, ?_⟩
 all_goals
  rintro (⟨a, b⟩ | ⟨a, b⟩) <;> simp [a, b]
abbrev fnD0 : FnD := ⟨ByteArray.empty, 0, [], 0, []⟩
theorem fnD_get {fs : List FnD} {k : Nat} (h : k < fs.length) : fs.getD k fnD0 = fs[k] := by simp [List.getD_eq_getElem?_getD, h]
theorem fnN_le {fs : List FnD} {f : FnD} (h : f ∈ fs) : fnN f ≤ fnsN fs := by
 obtain ⟨a, b, rfl⟩ := List.append_of_mem h
 have h1 := fnsN_nn a
 have h2 := fnsN_nn b
 unfold fnsN at *
 simp only [List.map_append, List.map_cons, List.sum_append, List.sum_cons]
 omega
set_option maxRecDepth 100000 in
set_option maxHeartbeats 8000000 in
theorem l2Fun (gs : List GlD) (fs : List FnD) (vg vf : Value) (k : Nat) (w : World) {lo : Nat} (h : MoAt lo w gs fs vg vf) (hk : k < fs.length) (hn : moN gs fs ≤ 1048576) :
  Calls Tryz.prog 19 #[.agg #[vg, vf], .int .i64 k] w fun e w' => e = .returned (.bool (!heaB gs fs k)) ∧ Below w.heap.size w w' := by
 obtain ⟨b, o, ⟨⟨af, kf, rfl, s1, s2⟩, s3⟩, -, hc⟩ := h.f.ex
 obtain ⟨bg, og, ⟨⟨ag, kg, rfl, r1, r2⟩, r3⟩, -, hgc⟩ := h.g.ex
 have g1 : (fs.length : Int) ≤ 140737488355328 := by omega
 have g2 : (gs.length : Int) ≤ 140737488355328 := by omega
 obtain rfl := s2 (by omega)
 obtain ⟨vp, vb, hf⟩ := hc k hk
 have hfn : fnN fs[k] ≤ 1048576 := by
  exact tl86
 obtain ⟨W0, hW⟩ : ∃ W0, W0 = w.alloc (Go.Obj.cells #[.slice ag gs.length kg, .slice (some ⟨b, o, none⟩) fs.length kf] 33) := ⟨_, rfl⟩
 have BB : Below w.heap.size w W0 := by rw [hW]; exact bel_alloc w _
 have hx : W0.heap[w.heap.size]? = some (Go.Obj.cells #[.slice ag gs.length kg, .slice (some ⟨b, o, none⟩) fs.length kf] 33) := by rw [hW]; exact new_at w _
 obtain ⟨NM, hNM⟩ : ∃ NM, NM = fun i => (fs.getD i fnD0).name := ⟨_, rfl⟩
 obtain ⟨GM, hGM⟩ : ∃ GM, GM = fun i => (gs.getD i glD0).name := ⟨_, rfl⟩
 have HC : Kp (∀ W, Below W0.heap.size W0 W → ∀ i, i < fs.length → At W b (o + i * 5) (.string (NM i))) := ⟨fun W hB i hi => by
  obtain ⟨vp, vb, q⟩ := hc i hi
  rw [hNM]
  show At W b (o + i * 5) (.string (fs.getD i fnD0).name)
  rw [fnD_get hi]
  exact at_keep q.c0 (bel_trans BB hB)⟩
 have HG : Kp (∀ W, Below W0.heap.size W0 W → ∀ i, i < gs.length → At W bg (og + i * 5) (.string (GM i))) := ⟨fun W hB i hi => by
  obtain ⟨vb, q⟩ := hgc i hi
  rw [hGM]
  show At W bg (og + i * 5) (.string (gs.getD i glD0).name)
  rw [glD_get hi]
  exact at_keep q.c0 (bel_trans BB hB)⟩
 have hAG := Kp.mk (all_iff_getD gs glD0 (fun h => decide (h.name ≠ (NM k))))
 have hAF := Kp.mk (all_take_iff_getD fs fnD0 (fun h => decide (h.name ≠ (NM k))) k (by omega))
 obtain ⟨d0, d1, d2, d3, d4, hF⟩ := hf.keep BB
 have hcal : calD fs (k : Int) = fs[k] := calD_get hk
 have hNMk : (fs[k]).name = NM k := by rw [hNM]; show _ = (fs.getD k fnD0).name; rw [fnD_get hk]
 rw [← hNMk] at hAG hAF
 generalize hX : fs[k] = X at *
 obtain ⟨name, link, params, res, blocks⟩ := X
 dsimp only at *
 obtain ⟨hnm, hp, hb⟩ := hF
 obtain ⟨bp, op, ⟨⟨ap, kp, rfl, p1, p2⟩, p3⟩, -, pc⟩ := hp.ex
 obtain ⟨_, _, ⟨⟨ab, kb, rfl, -, -⟩, b3⟩, -, -⟩ := hb.ex
 dsimp only at *
 have l1 : (params.length : Int) ≤ 140737488355328 := by omega
 have l2 : (blocks.length : Int) ≤ 140737488355328 := by omega
 have hHE : Kp (heaB gs fs k = (nmB name && ((gs.all fun h => decide (h.name ≠ name)) && (((fs.take k).all fun h => decide (h.name ≠ name)) && (decide (0 ≤ link) && (decide (link ≤ 3) && ((decide (params.length ≤ 6) && ((params.all vtB) && (decide (res = 0) || vtB res))) && (decide (decide (link = 0) = decide (blocks.length = 0)) && smB ⟨name, link, params, res, blocks⟩)))))))) := ⟨by
  unfold heaB
  rw [hcal]
  simp [sigB]⟩
 have hAP := Kp.mk (all_iff_getD params (0 : Int) vtB)
 have PC : Kp (∀ W, Below W0.heap.size W0 W → ∀ i, i < params.length → At W bp (op + i) (.int .i64 (params.getD i 0))) := ⟨fun W hB i hi => by
  rw [show params.getD i 0 = params[i] by simp [List.getD_eq_getElem?_getD, hi]]
  exact at_keep (pc i hi) hB⟩
 have CS : Kp (∀ W, Below W0.heap.size W0 W → Calls Tryz.prog 47 #[.agg #[.string name, .int .i64 link, .slice ap params.length kp, .int .i64 res, .slice ab blocks.length kb]] W fun e w' => e = .returned (.bool (smB ⟨name, link, params, res, blocks⟩)) ∧ Below W.heap.size W w') := ⟨fun W hB => l2Sm ⟨name, link, params, res, blocks⟩ _ _ W (FnAt.keep ⟨hnm, hp, hb⟩ hB) hfn⟩
 have CN : Kp (∀ w, Calls Tryz.prog 45 #[.string name] w fun e w' => e = .returned (.bool (nmB name)) ∧ w' = w) := ⟨fun w => vnS name w (by unfold maxLen; omega)⟩
 have CT : Kp (∀ x w, Calls Tryz.prog 46 #[.int .i64 x] w fun e w' => e = .returned (.bool (vtB x)) ∧ w' = w) := ⟨fun x w => vtS x w⟩
 obtain ⟨R, hR⟩ : ∃ R, R = heaB gs fs k := ⟨_, rfl⟩
 rw [← hR]
 rw [← hR] at hHE
 generalize (gs.all fun h => decide (h.name ≠ name)) = AG at *
 generalize ((fs.take k).all fun h => decide (h.name ≠ name)) = AF at *
 generalize (params.all vtB) = AP at *
 generalize smB ⟨name, link, params, res, blocks⟩ = SM at *
 generalize nmB name = VN at *
 have hG1 : Kp (∀ i, i < gs.length → GM i = name → AG = false) := ⟨fun i hi e => by
  rw [Bool.eq_false_iff]
  intro q
  have := hAG.out.1 q i hi
  rw [hGM] at e
  simp at this
  exact this (by simpa using e)⟩
 have hG2 : Kp ((∀ i, i < gs.length → GM i ≠ name) → AG = true) := ⟨fun q => hAG.out.2 (fun i hi => by
  have := q i hi
  rw [hGM] at this
  simpa using this)⟩
 have hF1 : Kp (∀ i, i < k → NM i = name → AF = false) := ⟨fun i hi e => by
  rw [Bool.eq_false_iff]
  intro q
  have := hAF.out.1 q i hi
  rw [hNM] at e
  simp at this
  exact this (by simpa using e)⟩
 have hF2 : Kp ((∀ i, i < k → NM i ≠ name) → AF = true) := ⟨fun q => hAF.out.2 (fun i hi => by
  have := q i hi
  rw [hNM] at this
  simpa using this)⟩
 have hk' : (k : Int) < fs.length := by omega
 have kfs : (fs.length : Int) ≤ kf := by omega
 have kgs : (gs.length : Int) ≤ kg := by omega
 have kps : (params.length : Int) ≤ kp := by omega
 have kN : Kp (k < fs.length) := ⟨hk⟩
 replace hW := Kp.mk hW
 replace r2 := Kp.mk r2
 replace p2 := Kp.mk p2
 clear hk hNM hGM hNMk hAG hAF hc hgc hf hX hcal hfn hn hp hb h s2 pc hR
 have x0 : At W0 w.heap.size 0 _ := cells_at hx rfl
 have x1 : At W0 w.heap.size 1 _ := cells_at hx rfl
 replace hx := Kp.mk hx
 go_enter Tryz.func19, Tryz.ntmps19
 go_upto_region 1 with fail
 rw [← hW.out]
 go_upto_region 2 with fail
 obtain ⟨W1, hW1⟩ : ∃ W1, W1 = W0.alloc (Go.Obj.cells #[.string name, .int .i64 link, .slice ap params.length kp, .int .i64 res, .slice ab blocks.length kb] 53) := ⟨_, rfl⟩
 have B1 : Below W0.heap.size W0 W1 := by rw [hW1]; exact bel_alloc _ _
 have X1 : Kp (W1.heap[W0.heap.size]? = some (Go.Obj.cells #[.string name, .int .i64 link, .slice ap params.length kp, .int .i64 res, .slice ab blocks.length kb] 53)) := ⟨by rw [hW1]; exact new_at W0 _⟩
 rw [← hW1]
 clear hW1 d0 d1 d2 d3 d4
 have X0 : Kp (∀ W, Below W1.heap.size W1 W → At W w.heap.size 0 (.slice ag gs.length kg) ∧ At W w.heap.size 1 (.slice (some ⟨b, o, none⟩) fs.length kf)) := ⟨fun W hB => ⟨at_keep x0 (bel_trans B1 hB), at_keep x1 (bel_trans B1 hB)⟩⟩
 have XF : Kp (∀ W, Below W1.heap.size W1 W → At W W0.heap.size 0 (.string name) ∧ At W W0.heap.size 1 (.int .i64 link) ∧ At W W0.heap.size 2 (.slice ap params.length kp) ∧ At W W0.heap.size 3 (.int .i64 res) ∧ At W W0.heap.size 4 (.slice ab blocks.length kb)) := ⟨fun W hB => ⟨cells_at (kept_at X1.out hB) rfl, cells_at (kept_at X1.out hB) rfl, cells_at (kept_at X1.out hB) rfl, cells_at (kept_at X1.out hB) rfl, cells_at (kept_at X1.out hB) rfl⟩⟩
 clear x0 x1 hx
 go_wp2_with fail
 go_loopw [6] (fun r wr => ∃ i : Nat, i ≤ gs.length ∧ r = .int .i64 i ∧ Kp (∀ j, j < i → GM j ≠ name) ∧ Below W1.heap.size W1 wr) (fun r _ => gs.length - (intOf r).toNat)
 case atStart => exact ⟨0, Nat.zero_le _, rfl, ⟨fun j hj => absurd hj (by omega)⟩, Below.refl _ _⟩
 case round =>
  obtain ⟨i, hi, rfl, hd, hB⟩ := hrel
  obtain ⟨x0, x1⟩ := X0.out _ hB
  have B2 := bel_trans BB (bel_trans B1 hB)
  by_cases hlt : i < gs.length
  ·obtain rfl := r2.out (by omega)
   have hlt' : (i : Int) < (gs.length : Int) := by omega
   have c0 := HG.out _ (bel_trans B1 hB) i hlt
   obtain ⟨y0, -⟩ := XF.out _ hB
   by_cases q : GM i = name
   ·have hf : Kp (R = false) := ⟨by rw [hHE.out, hG1.out i hlt q]; simp⟩
    rw [q] at c0
    exact tl102
   ·have hd' : Kp (∀ j, j < i + 1 → GM j ≠ name) := ⟨fun j hj => by
     exact tl144⟩
    have q' := strB_no q
    clear q hd
    exact tl105
  ·have hlt' : ¬ (i : Int) < (gs.length : Int) := by omega
   have hAG := hG2.out (fun j hj => hd.out j (by omega))
   replace hHE : Kp (R = (VN && (AF && (decide (0 ≤ link) && (decide (link ≤ 3) && ((decide (params.length ≤ 6) && (AP && (decide (res = 0) || vtB res))) && (decide (decide (link = 0) = decide (blocks.length = 0)) && SM))))))) := ⟨by rw [hHE.out, hAG]; simp⟩
   clear hAG hd
   obtain ⟨wo, hwo⟩ : ∃ wo : World, wo = wr := ⟨_, rfl⟩
   have hBo : Below wo.heap.size wo wr := by rw [hwo]; exact Below.refl _ _
   rw [← hwo] at hB B2
   clear hwo
   go_wp2_with fail
   go_loopw [7] (fun r wq => ∃ i : Nat, i ≤ k ∧ r = .int .i64 i ∧ Kp (∀ j, j < i → NM j ≠ name) ∧ Below wo.heap.size wo wq) (fun r _ => k - (intOf r).toNat)
   case atStart => exact ⟨0, Nat.zero_le _, rfl, ⟨fun j hj => absurd hj (by omega)⟩, hBo⟩
   case round =>
    clear hBo x0 x1
    obtain ⟨i, hi, rfl, hd, hBq⟩ := hrel
    have hB1 := bel_trans hB hBq
    obtain ⟨x0, x1⟩ := X0.out _ hB1
    have B3 := bel_trans B2 hBq
    by_cases hlt : i < k
    ·have hlt' : (i : Int) < (k : Int) := by omega
     have hlf : (i : Int) < (fs.length : Int) := by omega
     have hkn := kN.out
     have c0 := HC.out _ (bel_trans B1 hB1) i (by omega)
     obtain ⟨y0, -⟩ := XF.out _ hB1
     by_cases q : NM i = name
     ·have hf : Kp (R = false) := ⟨by rw [hHE.out, hF1.out i hlt q]; simp⟩
      rw [q] at c0
      clear q hkn
      go_wp2_with fail
      go_quiet (fail)
      go_wp2_with fail
      go_ret
      exact ⟨ret_bool (by rw [hf.out]; rfl), below_drewN B3 _⟩
     ·have hd' : Kp (∀ j, j < i + 1 → NM j ≠ name) := ⟨fun j hj => by
       exact tl144⟩
      have q' := strB_no q
      clear q hd hkn
      go_wp2_with fail
      go_quiet (fail)
      go_wp2_with fail
      exact ⟨⟨i + 1, by omega, by go_num, hd', below_drewN hBq _⟩, by simp [intOf]; omega⟩
    ·have hlt' : ¬ (i : Int) < (k : Int) := by omega
     have hAF := hF2.out (fun j hj => hd.out j (by omega))
     replace hHE : Kp (R = (VN && (decide (0 ≤ link) && (decide (link ≤ 3) && ((decide (params.length ≤ 6) && (AP && (decide (res = 0) || vtB res))) && (decide (decide (link = 0) = decide (blocks.length = 0)) && SM)))))) := ⟨by rw [hHE.out, hAF]; simp⟩
     clear hAF hd hF1 hF2 hG1 hG2
     obtain ⟨y0, y1, y2, y3, y4⟩ := XF.out _ hB1
     cases VN with
     | false =>
      have hf : Kp (R = false) := ⟨by rw [hHE.out]; simp⟩
      exact tl36
     | true =>
      by_cases e1 : link < 0
      ·exact tl155
      by_cases e2 : 3 < link
      ·exact tl155
      by_cases e3 : (6 : Int) < params.length
      ·exact tl155
      replace hHE : Kp (R = ((AP && (decide (res = 0) || vtB res)) && (decide (decide (link = 0) = decide (blocks.length = 0)) && SM))) := ⟨by
       rw [hHE.out, show decide (0 ≤ link) = true from decide_eq_true (by omega), show decide (link ≤ 3) = true from decide_eq_true (by omega), show decide (params.length ≤ 6) = true from decide_eq_true (by omega)]
       simp⟩
      obtain ⟨wp, hwp⟩ : ∃ wp : World, wp = wr := ⟨_, rfl⟩
      have hBp : Below wp.heap.size wp wr := by rw [hwp]; exact Below.refl _ _
      rw [← hwp] at hB1 B3
      clear hwp hBq
      by_cases e4 : res = 0
      ·subst e4
       replace hHE : Kp (R = (AP && (decide (decide (link = 0) = decide (blocks.length = 0)) && SM))) := ⟨by rw [hHE.out]; simp⟩
       go_wp2_with fail
       refine (CN.out _).mono ?_
       rintro e w2 ⟨rfl, rfl⟩
       exact tl4
      ·have n4 := nb e4
       have m4 : (res != 0) = true := by simp [bne, n4]
       cases hv : vtB res with
       | false =>
        have hf : Kp (R = false) := ⟨by rw [hHE.out, hv]; simp [e4]⟩
        have CTr := Kp.mk (fun w => CT.out res w)
        rw [hv] at CTr
        clear hHE e4 hv
        go_wp2_with fail
        refine (CN.out _).mono ?_
        rintro e w2 ⟨rfl, rfl⟩
        go_wp2_with fail
        refine (CTr.out _).mono ?_
        rintro e w3 ⟨rfl, rfl⟩
        go_wp2_with fail
        go_ret
        exact ⟨ret_bool (by rw [hf.out]; rfl), bel_trans B3 hBp⟩
       | true =>
        replace hHE : Kp (R = (AP && (decide (decide (link = 0) = decide (blocks.length = 0)) && SM))) := ⟨by rw [hHE.out, hv]; simp⟩
        have CTr := Kp.mk (fun w => CT.out res w)
        rw [hv] at CTr
        clear e4 hv
        go_wp2_with fail
        refine (CN.out _).mono ?_
        rintro e w2 ⟨rfl, rfl⟩
        go_wp2_with fail
        refine (CTr.out _).mono ?_
        rintro e w3 ⟨rfl, rfl⟩
        exact tl4
end Go.Proofs.YtgdcgjlmkmdklaaGreatDoor
