/- The packed texts Sf11. -/
import Derived.Test.YtbnkbbcncloedaaGreatDoorRows
import Derived.WalkKit
import Derived.ProofKit
import Derived.OpenShut
import Derived.WalkLawsBesides
import Derived.Below
import Derived.BigQuiet
import Derived.Lib.QuietBelow
import Derived.Lib.AtoiErrMem
import Derived.Deep.OwnRows
import Derived.Deep.DeepCutAuto
import Derived.RangeFuncNested
import Derived.RangeFuncBound
import Derived.RangeFuncCalls
import Derived.RangeFuncLeaves
import Derived.OwnWalkIn
import Derived.TacticsInMore
import Derived.LoopNIn
import Derived.LoopIn
import Derived.Shelf.Abstract
import Derived.Maps.AppendAt
import Derived.OwnWalk
import Derived.Lib.LaidTab
import Derived.Laws.BitsAllLaws
import Derived.Laws.Closers25b
import Derived.Test.YtbnkbbcncloedaaGreatDoorPk1
import Derived.Test.YtbnkbbcncloedaaGreatDoorPk2
import Derived.Test.YtbnkbbcncloedaaGreatDoorPk3
import Derived.Test.YtbnkbbcncloedaaGreatDoorPk4
import Derived.Test.YtbnkbbcncloedaaGreatDoorPk5
import Derived.Test.YtbnkbbcncloedaaGreatDoorPk6
import Derived.Test.YtbnkbbcncloedaaGreatDoorPk7
import Derived.Test.YtbnkbbcncloedaaGreatDoorPk9
import Derived.Test.YtbnkbbcncloedaaGreatDoorPk10
import Derived.Test.YtbnkbbcncloedaaGreatDoorPk11
namespace Go.Proofs.YtbnkbbcncloedaaGreatDoor
section
open Go.ChangeShapes Go.WideShapes Go.ChangeAt Go.RowKit

set_option linter.unusedVariables false

set_option linter.unusedSimpArgs false

theorem lnk_lem {l : Int} {n : Nat} {SM R : Bool} (h : R = (decide (decide (l = 0) = decide (n = 0)) && SM)) : ((l = 0 ∧ n = 0) ∨ (¬ l = 0 ∧ ¬ n = 0) → (!R) = !SM) ∧ ((l = 0 ∧ ¬ n = 0) ∨ (¬ l = 0 ∧ n = 0) → (!R) = true) := by
  subst h
  refine ⟨?_, ?_⟩
  all_goals
    rintro (⟨a, b⟩ | ⟨a, b⟩) <;> simp [a, b]

abbrev fnD0 : FnD := ⟨ByteArray.empty, 0, [], 0, []⟩

theorem fnD_get {fs : List FnD} {k : Nat} (h : k < fs.length) : fs.getD k fnD0 = fs[k] := by simp [List.getD_eq_getElem?_getD, h]

theorem fnN_le {fs : List FnD} {f : FnD} (h : f ∈ fs) : fnN f ≤ fnsN fs := by
  obtain ⟨a, b, rfl⟩ := List.append_of_mem h
  have h1 := fnsN_nn a
  have h2 := fnsN_nn b
  unfold fnsN at *
  simp only [List.map_append, List.map_cons, List.sum_append, List.sum_cons]
  omega

set_option maxRecDepth 100000 in
set_option maxHeartbeats 8000000 in
theorem l2Fun (gs : List GlD) (fs : List FnD) (vg vf : Value) (k : Nat) (w : World) {lo : Nat} (h : MoAt lo w gs fs vg vf) (hk : k < fs.length) (hn : moN gs fs ≤ 1048576) :
    Calls Tryz.prog 29 #[.agg #[vg, vf], .int .i64 k] w fun e w' => e = .returned (.bool (!heaB gs fs k)) ∧ Below w.heap.size w w' := by
  obtain ⟨b, o, ⟨⟨af, kf, rfl, s1, s2⟩, s3⟩, -, hc⟩ := h.f.ex
  obtain ⟨bg, og, ⟨⟨ag, kg, rfl, r1, r2⟩, r3⟩, -, hgc⟩ := h.g.ex
  have g1 : (fs.length : Int) ≤ 140737488355328 := by omega
  have g2 : (gs.length : Int) ≤ 140737488355328 := by omega
  obtain rfl := s2 (by omega)
  obtain ⟨vp, vb, hf⟩ := hc k hk
  have hfn : fnN fs[k] ≤ 1048576 := by
    have q := fnN_le (List.getElem_mem hk)
    have := glsN_nn gs
    unfold moN at hn
    omega
  obtain ⟨W0, hW⟩ : ∃ W0, W0 = w.alloc (Go.Obj.cells #[.slice ag gs.length kg, .slice (some ⟨b, o, none⟩) fs.length kf] 33) := ⟨_, rfl⟩
  have BB : Below w.heap.size w W0 := by rw [hW]; exact bel_alloc w _
  have hx : W0.heap[w.heap.size]? = some (Go.Obj.cells #[.slice ag gs.length kg, .slice (some ⟨b, o, none⟩) fs.length kf] 33) := by rw [hW]; exact new_at w _
  obtain ⟨NM, hNM⟩ : ∃ NM, NM = fun i => (fs.getD i fnD0).name := ⟨_, rfl⟩
  obtain ⟨GM, hGM⟩ : ∃ GM, GM = fun i => (gs.getD i glD0).name := ⟨_, rfl⟩
  have HC : Kp (∀ W, Below W0.heap.size W0 W → ∀ i, i < fs.length → At W b (o + i * 5) (.string (NM i))) := ⟨fun W hB i hi => by
    obtain ⟨vp, vb, q⟩ := hc i hi
    rw [hNM]
    show At W b (o + i * 5) (.string (fs.getD i fnD0).name)
    rw [fnD_get hi]
    exact at_keep q.c0 (bel_trans BB hB)⟩
  have HG : Kp (∀ W, Below W0.heap.size W0 W → ∀ i, i < gs.length → At W bg (og + i * 5) (.string (GM i))) := ⟨fun W hB i hi => by
    obtain ⟨vb, q⟩ := hgc i hi
    rw [hGM]
    show At W bg (og + i * 5) (.string (gs.getD i glD0).name)
    rw [glD_get hi]
    exact at_keep q.c0 (bel_trans BB hB)⟩
  have hAG := Kp.mk (all_iff_getD gs glD0 (fun h => decide (h.name ≠ (NM k))))
  have hAF := Kp.mk (all_take_iff_getD fs fnD0 (fun h => decide (h.name ≠ (NM k))) k (by omega))
  obtain ⟨d0, d1, d2, d3, d4, hF⟩ := hf.keep BB
  have hcal : calD fs (k : Int) = fs[k] := calD_get hk
  have hNMk : (fs[k]).name = NM k := by rw [hNM]; show _ = (fs.getD k fnD0).name; rw [fnD_get hk]
  rw [← hNMk] at hAG hAF
  generalize hX : fs[k] = X at *
  obtain ⟨name, link, params, res, blocks⟩ := X
  dsimp only at *
  obtain ⟨hnm, hp, hb⟩ := hF
  obtain ⟨bp, op, ⟨⟨ap, kp, rfl, p1, p2⟩, p3⟩, -, pc⟩ := hp.ex
  obtain ⟨_, _, ⟨⟨ab, kb, rfl, -, -⟩, b3⟩, -, -⟩ := hb.ex
  dsimp only at *
  have l1 : (params.length : Int) ≤ 140737488355328 := by omega
  have l2 : (blocks.length : Int) ≤ 140737488355328 := by omega
  have hHE : Kp (heaB gs fs k = (nmB name && ((gs.all fun h => decide (h.name ≠ name)) && (((fs.take k).all fun h => decide (h.name ≠ name)) && (decide (0 ≤ link) && (decide (link ≤ 3) && ((decide (params.length ≤ 6) && ((params.all vtB) && (decide (res = 0) || vtB res))) && (decide (decide (link = 0) = decide (blocks.length = 0)) && smB ⟨name, link, params, res, blocks⟩)))))))) := ⟨by
    unfold heaB
    rw [hcal]
    simp [sigB]⟩
  have hAP := Kp.mk (all_iff_getD params (0 : Int) vtB)
  have PC : Kp (∀ W, Below W0.heap.size W0 W → ∀ i, i < params.length → At W bp (op + i) (.int .i64 (params.getD i 0))) := ⟨fun W hB i hi => by
    rw [show params.getD i 0 = params[i] by simp [List.getD_eq_getElem?_getD, hi]]
    exact at_keep (pc i hi) hB⟩
  have CS : Kp (∀ W, Below W0.heap.size W0 W → Calls Tryz.prog 71 #[.agg #[.string name, .int .i64 link, .slice ap params.length kp, .int .i64 res, .slice ab blocks.length kb]] W fun e w' => e = .returned (.bool (smB ⟨name, link, params, res, blocks⟩)) ∧ Below W.heap.size W w') := ⟨fun W hB => l2Sm ⟨name, link, params, res, blocks⟩ _ _ W (FnAt.keep ⟨hnm, hp, hb⟩ hB) hfn⟩
  have CN : Kp (∀ w, Calls Tryz.prog 69 #[.string name] w fun e w' => e = .returned (.bool (nmB name)) ∧ w' = w) := ⟨fun w => vnS name w (by unfold maxLen; omega)⟩
  have CT : Kp (∀ x w, Calls Tryz.prog 70 #[.int .i64 x] w fun e w' => e = .returned (.bool (vtB x)) ∧ w' = w) := ⟨fun x w => vtS x w⟩
  obtain ⟨R, hR⟩ : ∃ R, R = heaB gs fs k := ⟨_, rfl⟩
  rw [← hR]
  rw [← hR] at hHE
  generalize (gs.all fun h => decide (h.name ≠ name)) = AG at *
  generalize ((fs.take k).all fun h => decide (h.name ≠ name)) = AF at *
  generalize (params.all vtB) = AP at *
  generalize smB ⟨name, link, params, res, blocks⟩ = SM at *
  generalize nmB name = VN at *
  have hG1 : Kp (∀ i, i < gs.length → GM i = name → AG = false) := ⟨fun i hi e => by
    rw [Bool.eq_false_iff]
    intro q
    have := hAG.out.1 q i hi
    rw [hGM] at e
    simp at this
    exact this (by simpa using e)⟩
  have hG2 : Kp ((∀ i, i < gs.length → GM i ≠ name) → AG = true) := ⟨fun q => hAG.out.2 (fun i hi => by
    have := q i hi
    rw [hGM] at this
    simpa using this)⟩
  have hF1 : Kp (∀ i, i < k → NM i = name → AF = false) := ⟨fun i hi e => by
    rw [Bool.eq_false_iff]
    intro q
    have := hAF.out.1 q i hi
    rw [hNM] at e
    simp at this
    exact this (by simpa using e)⟩
  have hF2 : Kp ((∀ i, i < k → NM i ≠ name) → AF = true) := ⟨fun q => hAF.out.2 (fun i hi => by
    have := q i hi
    rw [hNM] at this
    simpa using this)⟩
  have hk' : (k : Int) < fs.length := by omega
  have kfs : (fs.length : Int) ≤ kf := by omega
  have kgs : (gs.length : Int) ≤ kg := by omega
  have kps : (params.length : Int) ≤ kp := by omega
  have kN : Kp (k < fs.length) := ⟨hk⟩
  replace hW := Kp.mk hW
  replace r2 := Kp.mk r2
  replace p2 := Kp.mk p2
  clear hk hNM hGM hNMk hAG hAF hc hgc hf hX hcal hfn hn hp hb h s2 pc hR
  have x0 : At W0 w.heap.size 0 _ := cells_at hx rfl
  have x1 : At W0 w.heap.size 1 _ := cells_at hx rfl
  replace hx := Kp.mk hx
  go_enter Tryz.func29, Tryz.ntmps29
  go_upto_region 1 with fail
  rw [← hW.out]
  go_upto_region 2 with fail
  obtain ⟨W1, hW1⟩ : ∃ W1, W1 = W0.alloc (Go.Obj.cells #[.string name, .int .i64 link, .slice ap params.length kp, .int .i64 res, .slice ab blocks.length kb] 74) := ⟨_, rfl⟩
  have B1 : Below W0.heap.size W0 W1 := by rw [hW1]; exact bel_alloc _ _
  have X1 : Kp (W1.heap[W0.heap.size]? = some (Go.Obj.cells #[.string name, .int .i64 link, .slice ap params.length kp, .int .i64 res, .slice ab blocks.length kb] 74)) := ⟨by rw [hW1]; exact new_at W0 _⟩
  rw [← hW1]
  clear hW1 d0 d1 d2 d3 d4
  have X0 : Kp (∀ W, Below W1.heap.size W1 W → At W w.heap.size 0 (.slice ag gs.length kg) ∧ At W w.heap.size 1 (.slice (some ⟨b, o, none⟩) fs.length kf)) := ⟨fun W hB => ⟨at_keep x0 (bel_trans B1 hB), at_keep x1 (bel_trans B1 hB)⟩⟩
  have XF : Kp (∀ W, Below W1.heap.size W1 W → At W W0.heap.size 0 (.string name) ∧ At W W0.heap.size 1 (.int .i64 link) ∧ At W W0.heap.size 2 (.slice ap params.length kp) ∧ At W W0.heap.size 3 (.int .i64 res) ∧ At W W0.heap.size 4 (.slice ab blocks.length kb)) := ⟨fun W hB => ⟨cells_at (kept_at X1.out hB) rfl, cells_at (kept_at X1.out hB) rfl, cells_at (kept_at X1.out hB) rfl, cells_at (kept_at X1.out hB) rfl, cells_at (kept_at X1.out hB) rfl⟩⟩
  clear x0 x1 hx
  go_wp2_with fail
  go_loopw [6] (fun r wr => ∃ i : Nat, i ≤ gs.length ∧ r = .int .i64 i ∧ Kp (∀ j, j < i → GM j ≠ name) ∧ Below W1.heap.size W1 wr) (fun r _ => gs.length - (intOf r).toNat)
  case atStart => exact ⟨0, Nat.zero_le _, rfl, ⟨fun j hj => absurd hj (by omega)⟩, Below.refl _ _⟩
  case round =>
    obtain ⟨i, hi, rfl, hd, hB⟩ := hrel
    obtain ⟨x0, x1⟩ := X0.out _ hB
    have B2 := bel_trans BB (bel_trans B1 hB)
    by_cases hlt : i < gs.length
    · obtain rfl := r2.out (by omega)
      have hlt' : (i : Int) < (gs.length : Int) := by omega
      have c0 := HG.out _ (bel_trans B1 hB) i hlt
      obtain ⟨y0, -⟩ := XF.out _ hB
      by_cases q : GM i = name
      · have hf : Kp (R = false) := ⟨by rw [hHE.out, hG1.out i hlt q]; simp⟩
        rw [q] at c0
        clear q
        go_wp2_with fail
        go_quiet (fail)
        go_wp2_with fail
        go_ret
        exact ⟨ret_bool (by rw [hf.out]; rfl), below_drewN B2 _⟩
      · have hd' : Kp (∀ j, j < i + 1 → GM j ≠ name) := ⟨fun j hj => by
          by_cases e : j = i
          · rw [e]; exact q
          · exact hd.out j (by omega)⟩
        have q' := strB_no q
        clear q hd
        go_wp2_with fail
        go_quiet (fail)
        go_wp2_with fail
        exact ⟨⟨i + 1, by omega, by go_num, hd', below_drewN hB _⟩, by simp [intOf]; omega⟩
    · have hlt' : ¬ (i : Int) < (gs.length : Int) := by omega
      have hAG := hG2.out (fun j hj => hd.out j (by omega))
      replace hHE : Kp (R = (VN && (AF && (decide (0 ≤ link) && (decide (link ≤ 3) && ((decide (params.length ≤ 6) && (AP && (decide (res = 0) || vtB res))) && (decide (decide (link = 0) = decide (blocks.length = 0)) && SM))))))) := ⟨by rw [hHE.out, hAG]; simp⟩
      clear hAG hd
      obtain ⟨wo, hwo⟩ : ∃ wo : World, wo = wr := ⟨_, rfl⟩
      have hBo : Below wo.heap.size wo wr := by rw [hwo]; exact Below.refl _ _
      rw [← hwo] at hB B2
      clear hwo
      go_wp2_with fail
      go_loopw [7] (fun r wq => ∃ i : Nat, i ≤ k ∧ r = .int .i64 i ∧ Kp (∀ j, j < i → NM j ≠ name) ∧ Below wo.heap.size wo wq) (fun r _ => k - (intOf r).toNat)
      case atStart => exact ⟨0, Nat.zero_le _, rfl, ⟨fun j hj => absurd hj (by omega)⟩, hBo⟩
      case round =>
        clear hBo x0 x1
        obtain ⟨i, hi, rfl, hd, hBq⟩ := hrel
        have hB1 := bel_trans hB hBq
        obtain ⟨x0, x1⟩ := X0.out _ hB1
        have B3 := bel_trans B2 hBq
        by_cases hlt : i < k
        · have hlt' : (i : Int) < (k : Int) := by omega
          have hlf : (i : Int) < (fs.length : Int) := by omega
          have hkn := kN.out
          have c0 := HC.out _ (bel_trans B1 hB1) i (by omega)
          obtain ⟨y0, -⟩ := XF.out _ hB1
          by_cases q : NM i = name
          · have hf : Kp (R = false) := ⟨by rw [hHE.out, hF1.out i hlt q]; simp⟩
            rw [q] at c0
            clear q hkn
            go_wp2_with fail
            go_quiet (fail)
            go_wp2_with fail
            go_ret
            exact ⟨ret_bool (by rw [hf.out]; rfl), below_drewN B3 _⟩
          · have hd' : Kp (∀ j, j < i + 1 → NM j ≠ name) := ⟨fun j hj => by
              by_cases e : j = i
              · rw [e]; exact q
              · exact hd.out j (by omega)⟩
            have q' := strB_no q
            clear q hd hkn
            go_wp2_with fail
            go_quiet (fail)
            go_wp2_with fail
            exact ⟨⟨i + 1, by omega, by go_num, hd', below_drewN hBq _⟩, by simp [intOf]; omega⟩
        · have hlt' : ¬ (i : Int) < (k : Int) := by omega
          have hAF := hF2.out (fun j hj => hd.out j (by omega))
          replace hHE : Kp (R = (VN && (decide (0 ≤ link) && (decide (link ≤ 3) && ((decide (params.length ≤ 6) && (AP && (decide (res = 0) || vtB res))) && (decide (decide (link = 0) = decide (blocks.length = 0)) && SM)))))) := ⟨by rw [hHE.out, hAF]; simp⟩
          clear hAF hd hF1 hF2 hG1 hG2
          obtain ⟨y0, y1, y2, y3, y4⟩ := XF.out _ hB1
          cases VN with
          | false =>
            have hf : Kp (R = false) := ⟨by rw [hHE.out]; simp⟩
            clear hHE
            go_wp2_with fail
            refine (CN.out _).mono ?_
            rintro e w2 ⟨rfl, rfl⟩
            go_wp2_with fail
            go_ret
            exact ⟨ret_bool (by rw [hf.out]; rfl), B3⟩
          | true =>
            by_cases e1 : link < 0
            · have hf : Kp (R = false) := ⟨by rw [hHE.out]; simp; omega⟩
              clear hHE
              go_wp2_with fail
              refine (CN.out _).mono ?_
              rintro e w2 ⟨rfl, rfl⟩
              go_wp2_with fail
              go_ret
              exact ⟨ret_bool (by rw [hf.out]; rfl), B3⟩
            by_cases e2 : 3 < link
            · have hf : Kp (R = false) := ⟨by rw [hHE.out]; simp; omega⟩
              clear hHE
              go_wp2_with fail
              refine (CN.out _).mono ?_
              rintro e w2 ⟨rfl, rfl⟩
              go_wp2_with fail
              go_ret
              exact ⟨ret_bool (by rw [hf.out]; rfl), B3⟩
            by_cases e3 : (6 : Int) < params.length
            · have hf : Kp (R = false) := ⟨by rw [hHE.out]; simp; omega⟩
              clear hHE
              go_wp2_with fail
              refine (CN.out _).mono ?_
              rintro e w2 ⟨rfl, rfl⟩
              go_wp2_with fail
              go_ret
              exact ⟨ret_bool (by rw [hf.out]; rfl), B3⟩
            replace hHE : Kp (R = ((AP && (decide (res = 0) || vtB res)) && (decide (decide (link = 0) = decide (blocks.length = 0)) && SM))) := ⟨by
              rw [hHE.out, show decide (0 ≤ link) = true from decide_eq_true (by omega), show decide (link ≤ 3) = true from decide_eq_true (by omega), show decide (params.length ≤ 6) = true from decide_eq_true (by omega)]
              simp⟩
            obtain ⟨wp, hwp⟩ : ∃ wp : World, wp = wr := ⟨_, rfl⟩
            have hBp : Below wp.heap.size wp wr := by rw [hwp]; exact Below.refl _ _
            rw [← hwp] at hB1 B3
            clear hwp hBq
            -- the rest, behind the chain
            by_cases e4 : res = 0
            · subst e4
              replace hHE : Kp (R = (AP && (decide (decide (link = 0) = decide (blocks.length = 0)) && SM))) := ⟨by rw [hHE.out]; simp⟩
              go_wp2_with fail
              refine (CN.out _).mono ?_
              rintro e w2 ⟨rfl, rfl⟩
              go_wp2_with fail
              clear y0 y1 y2 y3 y4 x0 x1
              go_loopw [8] (fun r wz => ∃ i : Nat, i ≤ params.length ∧ r = .int .i64 i ∧ Kp (∀ j, j < i → vtB (params.getD j 0) = true) ∧ Below wp.heap.size wp wz) (fun r _ => params.length - (intOf r).toNat)
              case atStart => exact ⟨0, Nat.zero_le _, rfl, ⟨fun j hj => absurd hj (by omega)⟩, hBp⟩
              case round =>
                clear hBp
                obtain ⟨i, hi, rfl, hd, hBz⟩ := hrel
                have hB2 := bel_trans hB1 hBz
                have B4 := bel_trans B3 hBz
                obtain ⟨y0, y1, y2, y3, y4⟩ := XF.out _ hB2
                by_cases hlt : i < params.length
                · obtain rfl := p2.out (by omega)
                  have hlt' : (i : Int) < (params.length : Int) := by omega
                  have c0 := PC.out _ (bel_trans B1 hB2) i hlt
                  have CTi := Kp.mk (fun w => CT.out (params.getD i 0) w)
                  cases hv : vtB (params.getD i 0) with
                  | false =>
                    have hf : Kp (R = false) := ⟨by
                      have : AP = false := by
                        rw [Bool.eq_false_iff]
                        intro q
                        rw [hAP.out.1 q i hlt] at hv
                        cases hv
                      rw [hHE.out, this]; simp⟩
                    rw [hv] at CTi
                    clear hv hHE hd
                    generalize params.getD i 0 = u at *
                    go_wp2_with fail
                    refine (CTi.out _).mono ?_
                    rintro e w2 ⟨rfl, rfl⟩
                    go_wp2_with fail
                    go_ret
                    exact ⟨ret_bool (by rw [hf.out]; rfl), B4⟩
                  | true =>
                    have hd' : Kp (∀ j, j < i + 1 → vtB (params.getD j 0) = true) := ⟨fun j hj => by
                      by_cases e : j = i
                      · rw [e]; exact hv
                      · exact hd.out j (by omega)⟩
                    rw [hv] at CTi
                    clear hv hd
                    generalize params.getD i 0 = u at *
                    go_wp2_with fail
                    refine (CTi.out _).mono ?_
                    rintro e w2 ⟨rfl, rfl⟩
                    go_wp2_with fail
                    exact ⟨⟨i + 1, by omega, by go_num, hd', hBz⟩, by simp [intOf]; omega⟩
                · have hlt' : ¬ (i : Int) < (params.length : Int) := by omega
                  have hAP' := hAP.out.2 (fun j hj => hd.out j (by omega))
                  replace hHE : Kp (R = (decide (decide (link = 0) = decide (blocks.length = 0)) && SM)) := ⟨by rw [hHE.out, hAP']; simp⟩
                  have CSi := Kp.mk (CS.out _ (bel_trans B1 hB2))
                  clear hAP' hd
                  by_cases q1 : link = 0
                  · subst q1
                    by_cases q2 : (blocks.length : Int) = 0
                    · have G : Kp ((!R) = !SM) := ⟨(lnk_lem hHE.out).1 (by omega)⟩
                      have n2 : ((blocks.length : Int) == 0) = true := by simp [q2]
                      replace q2 := Kp.mk q2
                      cases SM
                      all_goals
                        go_wp2_with fail
                        refine CSi.out.mono ?_
                        rintro e w2 ⟨rfl, hb2⟩
                        go_wp2_with fail
                        go_ret
                        exact ⟨ret_bool (by rw [G.out]; rfl), bel_trans B4 hb2⟩
                    · have G : Kp ((!R) = true) := ⟨(lnk_lem hHE.out).2 (by omega)⟩
                      have n2 := nb q2
                      clear q2
                      go_wp2_with fail
                      go_ret
                      exact ⟨ret_bool (by rw [G.out]), B4⟩
                  · have n1 := nb q1
                    by_cases q2 : (blocks.length : Int) = 0
                    · have G : Kp ((!R) = true) := ⟨(lnk_lem hHE.out).2 (by omega)⟩
                      have n2 : ((blocks.length : Int) == 0) = true := by simp [q2]
                      replace q2 := Kp.mk q2
                      clear q1
                      go_wp2_with fail
                      go_ret
                      exact ⟨ret_bool (by rw [G.out]), B4⟩
                    · have G : Kp ((!R) = !SM) := ⟨(lnk_lem hHE.out).1 (by omega)⟩
                      have n2 := nb q2
                      clear q1 q2
                      cases SM
                      all_goals
                        go_wp2_with fail
                        refine CSi.out.mono ?_
                        rintro e w2 ⟨rfl, hb2⟩
                        go_wp2_with fail
                        go_ret
                        exact ⟨ret_bool (by rw [G.out]; rfl), bel_trans B4 hb2⟩
            · have n4 := nb e4
              have m4 : (res != 0) = true := by simp [bne, n4]
              cases hv : vtB res with
              | false =>
                have hf : Kp (R = false) := ⟨by rw [hHE.out, hv]; simp [e4]⟩
                have CTr := Kp.mk (fun w => CT.out res w)
                rw [hv] at CTr
                clear hHE e4 hv
                go_wp2_with fail
                refine (CN.out _).mono ?_
                rintro e w2 ⟨rfl, rfl⟩
                go_wp2_with fail
                refine (CTr.out _).mono ?_
                rintro e w3 ⟨rfl, rfl⟩
                go_wp2_with fail
                go_ret
                exact ⟨ret_bool (by rw [hf.out]; rfl), bel_trans B3 hBp⟩
              | true =>
                replace hHE : Kp (R = (AP && (decide (decide (link = 0) = decide (blocks.length = 0)) && SM))) := ⟨by rw [hHE.out, hv]; simp⟩
                have CTr := Kp.mk (fun w => CT.out res w)
                rw [hv] at CTr
                clear e4 hv
                go_wp2_with fail
                refine (CN.out _).mono ?_
                rintro e w2 ⟨rfl, rfl⟩
                go_wp2_with fail
                refine (CTr.out _).mono ?_
                rintro e w3 ⟨rfl, rfl⟩
                go_wp2_with fail
                clear y0 y1 y2 y3 y4 x0 x1
                go_loopw [8] (fun r wz => ∃ i : Nat, i ≤ params.length ∧ r = .int .i64 i ∧ Kp (∀ j, j < i → vtB (params.getD j 0) = true) ∧ Below wp.heap.size wp wz) (fun r _ => params.length - (intOf r).toNat)
                case atStart => exact ⟨0, Nat.zero_le _, rfl, ⟨fun j hj => absurd hj (by omega)⟩, hBp⟩
                case round =>
                  clear hBp
                  obtain ⟨i, hi, rfl, hd, hBz⟩ := hrel
                  have hB2 := bel_trans hB1 hBz
                  have B4 := bel_trans B3 hBz
                  obtain ⟨y0, y1, y2, y3, y4⟩ := XF.out _ hB2
                  by_cases hlt : i < params.length
                  · obtain rfl := p2.out (by omega)
                    have hlt' : (i : Int) < (params.length : Int) := by omega
                    have c0 := PC.out _ (bel_trans B1 hB2) i hlt
                    have CTi := Kp.mk (fun w => CT.out (params.getD i 0) w)
                    cases hv : vtB (params.getD i 0) with
                    | false =>
                      have hf : Kp (R = false) := ⟨by
                        have : AP = false := by
                          rw [Bool.eq_false_iff]
                          intro q
                          rw [hAP.out.1 q i hlt] at hv
                          cases hv
                        rw [hHE.out, this]; simp⟩
                      rw [hv] at CTi
                      clear hv hHE hd
                      generalize params.getD i 0 = u at *
                      go_wp2_with fail
                      refine (CTi.out _).mono ?_
                      rintro e w2 ⟨rfl, rfl⟩
                      go_wp2_with fail
                      go_ret
                      exact ⟨ret_bool (by rw [hf.out]; rfl), B4⟩
                    | true =>
                      have hd' : Kp (∀ j, j < i + 1 → vtB (params.getD j 0) = true) := ⟨fun j hj => by
                        by_cases e : j = i
                        · rw [e]; exact hv
                        · exact hd.out j (by omega)⟩
                      rw [hv] at CTi
                      clear hv hd
                      generalize params.getD i 0 = u at *
                      go_wp2_with fail
                      refine (CTi.out _).mono ?_
                      rintro e w2 ⟨rfl, rfl⟩
                      go_wp2_with fail
                      exact ⟨⟨i + 1, by omega, by go_num, hd', hBz⟩, by simp [intOf]; omega⟩
                  · have hlt' : ¬ (i : Int) < (params.length : Int) := by omega
                    have hAP' := hAP.out.2 (fun j hj => hd.out j (by omega))
                    replace hHE : Kp (R = (decide (decide (link = 0) = decide (blocks.length = 0)) && SM)) := ⟨by rw [hHE.out, hAP']; simp⟩
                    have CSi := Kp.mk (CS.out _ (bel_trans B1 hB2))
                    clear hAP' hd
                    by_cases q1 : link = 0
                    · subst q1
                      by_cases q2 : (blocks.length : Int) = 0
                      · have G : Kp ((!R) = !SM) := ⟨(lnk_lem hHE.out).1 (by omega)⟩
                        have n2 : ((blocks.length : Int) == 0) = true := by simp [q2]
                        replace q2 := Kp.mk q2
                        cases SM
                        all_goals
                          go_wp2_with fail
                          refine CSi.out.mono ?_
                          rintro e w2 ⟨rfl, hb2⟩
                          go_wp2_with fail
                          go_ret
                          exact ⟨ret_bool (by rw [G.out]; rfl), bel_trans B4 hb2⟩
                      · have G : Kp ((!R) = true) := ⟨(lnk_lem hHE.out).2 (by omega)⟩
                        have n2 := nb q2
                        clear q2
                        go_wp2_with fail
                        go_ret
                        exact ⟨ret_bool (by rw [G.out]), B4⟩
                    · have n1 := nb q1
                      by_cases q2 : (blocks.length : Int) = 0
                      · have G : Kp ((!R) = true) := ⟨(lnk_lem hHE.out).2 (by omega)⟩
                        have n2 : ((blocks.length : Int) == 0) = true := by simp [q2]
                        replace q2 := Kp.mk q2
                        clear q1
                        go_wp2_with fail
                        go_ret
                        exact ⟨ret_bool (by rw [G.out]), B4⟩
                      · have G : Kp ((!R) = !SM) := ⟨(lnk_lem hHE.out).1 (by omega)⟩
                        have n2 := nb q2
                        clear q1 q2
                        cases SM
                        all_goals
                          go_wp2_with fail
                          refine CSi.out.mono ?_
                          rintro e w2 ⟨rfl, hb2⟩
                          go_wp2_with fail
                          go_ret
                          exact ⟨ret_bool (by rw [G.out]; rfl), bel_trans B4 hb2⟩
end
end Go.Proofs.YtbnkbbcncloedaaGreatDoor
