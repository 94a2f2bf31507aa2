/- Texts of one claim. -/
import Derived.Test.YtgdcgjlmkmdklaaGreatDoorPk0
import Derived.Test.YtgdcgjlmkmdklaaGreatDoorPk34
namespace Go.Proofs.YtgdcgjlmkmdklaaGreatDoor
open Go.ChangeShapes Go.WideShapes Go.ChangeAt Go.RowKit
set_option linter.unusedVariables false
set_option linter.unusedSimpArgs false
theorem atF_yes {ng : Nat} {ts : List Int} {fs : List FnD} {f : FnD} {bk : Int} {ys : List InD} {i : Nat} (h : endB (ys.getD i default).op = decide (i + 1 = ys.length)) : atF ng ts fs f bk ys i = inF ng ts fs f bk (ys.take i) (ys.getD i default) := by
 unfold atF; rw [if_pos h]
theorem atF_no {ng : Nat} {ts : List Int} {fs : List FnD} {f : FnD} {bk : Int} {ys : List InD} {i : Nat} (h : ¬ endB (ys.getD i default).op = decide (i + 1 = ys.length)) : atF ng ts fs f bk ys i = 4 := by
 unfold atF; rw [if_neg h]
theorem blF_hit {ng : Nat} {ts : List Int} {fs : List FnD} {f : FnD} {fn bk : Nat} {ys : List InD} {i : Nat} (hi : i < ys.length) (h : ∀ j, j < i → atF ng ts fs f bk ys j = 0) (hv : ¬ atF ng ts fs f bk ys i = 0) : blF ng ts fs f fn bk ys = some ((atF ng ts fs f bk ys i, (fn : Int), (bk : Int), (i : Int)) : FtD) := by
 unfold blF
 rw [if_neg (by omega)]
 exact firstF_hit hi (fun j hj => by rw [if_pos (h j hj)]) (by rw [if_neg hv])
theorem blF_none {ng : Nat} {ts : List Int} {fs : List FnD} {f : FnD} {fn bk : Nat} {ys : List InD} (h0 : ¬ ys.length = 0) (h : ∀ j, j < ys.length → atF ng ts fs f bk ys j = 0) : blF ng ts fs f fn bk ys = none := by
 unfold blF
 rw [if_neg h0]
 exact firstF_none (fun j hj => by rw [if_pos (h j hj)])
set_option maxRecDepth 100000 in
set_option maxHeartbeats 4000000 in
theorem l2Bod (gs : List GlD) (fs : List FnD) (vg vf : Value) (k : Nat) (w : World) {lo : Nat} (h : MoAt lo w gs fs vg vf) (hk : k < fs.length) (hn : moN gs fs ≤ 1048576) (hbd : MoB gs fs) :
  Calls Tryz.prog 20 #[.agg #[vg, vf], .int .i64 k] w fun e w' => e = .returned (ftV ((boF gs.length fs (calD fs k) k).getD (0, 0, 0, 0))) ∧ Below w.heap.size w w' := by
 have hsz : fnN fs[k] ≤ 1048576 := by
  exact tl86
 have hfB := hbd.f _ (List.getElem_mem hk)
 rw [calD_get hk]
 obtain ⟨ag, kg, rfl⟩ := h.g.shape
 obtain ⟨b, o, ⟨⟨af, kf, rfl, s1, s2⟩, s3⟩, -, hc⟩ := h.f.ex
 have g1 : (fs.length : Int) ≤ 140737488355328 := by omega
 obtain rfl := s2 (by omega)
 obtain ⟨vp, vb, hf⟩ := hc k hk
 obtain ⟨W0, hW⟩ : ∃ W0, W0 = (w.alloc (Go.Obj.cells #[.slice ag gs.length kg, .slice (some ⟨b, o, none⟩) fs.length kf] 33)).alloc (Go.Obj.cells #[.int .i64 0, .int .i64 0, .int .i64 0, .int .i64 0] 28) := ⟨_, rfl⟩
 have B0 : Below w.heap.size w W0 := by rw [hW]; exact bel_trans (bel_alloc _ _) (bel_alloc _ _)
 have hz0 : W0.heap.size = w.heap.size + 1 + 1 := by rw [hW]; simp
 have mC0 : W0.heap[w.heap.size]? = some (Go.Obj.cells #[.slice ag gs.length kg, .slice (some ⟨b, o, none⟩) fs.length kf] 33) := by rw [hW]; exact kept_at (new_at w _) (bel_alloc _ _)
 have rC0 : W0.heap[w.heap.size + 1]? = some (Go.Obj.cells #[.int .i64 0, .int .i64 0, .int .i64 0, .int .i64 0] 28) := by
  exact tl89
 have m1 : At W0 w.heap.size 1 _ := cells_at mC0 rfl
 obtain ⟨d0, d1, d2, d3, d4, hF⟩ := hf.keep B0
 have hk' : (k : Int) < fs.length := by omega
 have hmo := h.keep B0
 generalize hX : fs[k] = X at *
 obtain ⟨name, link, params, res, blocks⟩ := X
 dsimp only at *
 have hF' := hF
 obtain ⟨hnm, hp, hb⟩ := hF
 obtain ⟨_, _, ⟨⟨ap, kp, rfl, -, -⟩, -⟩, -, -⟩ := hp.ex
 obtain ⟨b4, o4, ⟨⟨ab, kb, rfl, z1, z2⟩, z3⟩, -, hbc⟩ := hb.ex
 dsimp only at *
 have g4 : (blocks.length : Int) ≤ 140737488355328 := by omega
 obtain ⟨W1, hW1⟩ : ∃ W1, W1 = W0.alloc (Go.Obj.cells #[.string name, .int .i64 link, .slice ap params.length kp, .int .i64 res, .slice ab blocks.length kb] 53) := ⟨_, rfl⟩
 have B1 : Below W0.heap.size W0 W1 := by rw [hW1]; exact bel_alloc _ _
 have fC1 : W1.heap[w.heap.size + 1 + 1]? = some (Go.Obj.cells #[.string name, .int .i64 link, .slice ap params.length kp, .int .i64 res, .slice ab blocks.length kb] 53) := by
  have q := new_at W0 (Go.Obj.cells #[.string name, .int .i64 link, .slice ap params.length kp, .int .i64 res, .slice ab blocks.length kb] 53)
  rwa [← hW1, hz0] at q
 have CV : Kp (Calls Tryz.prog 48 #[.agg #[.string name, .int .i64 link, .slice ap params.length kp, .int .i64 res, .slice ab blocks.length kb]] W1 fun e w' => ∃ v, e = .returned v ∧ OwnI w' W1.heap.size v (params ++ tysOf (blPl 0 blocks)) ∧ Below W1.heap.size W1 w') := ⟨valTyS ⟨name, link, params, res, blocks⟩ _ _ W1 (hF'.keep B1) hsz⟩
 have hTL := tysD_len ⟨name, link, params, res, blocks⟩ hsz
 obtain ⟨ts, hts⟩ : ∃ ts, ts = tysD ⟨name, link, params, res, blocks⟩ := ⟨_, rfl⟩
 rw [show params ++ tysOf (blPl 0 blocks) = tysD ⟨name, link, params, res, blocks⟩ from rfl, ← hts] at CV
 rw [← hts] at hTL
 have B01 := bel_trans B0 B1
 have MO : Kp (∀ W, Below W1.heap.size W1 W → MoC W w.heap.size (.slice ag gs.length kg) (.slice (some ⟨b, o, none⟩) fs.length kf)) := ⟨fun W hB => moC_of (kept_at mC0 (bel_trans B1 hB))⟩
 have FC : Kp (∀ W, Below W1.heap.size W1 W → FnC W (w.heap.size + 1 + 1) name link res (.slice ap params.length kp) (.slice ab blocks.length kb)) := ⟨fun W hB => fnC_of (kept_at fC1 hB)⟩
 have FO : Kp (∀ W, Below W1.heap.size W1 W → Four w (w.heap.size + 1) W) := ⟨fun W hB => four_of (kept_at rC0 (bel_trans B1 hB)) (bel_trans B01 hB) (by omega)⟩
 have BC : Kp (∀ W, Below W1.heap.size W1 W → ∀ j (h : j < blocks.length), ∃ vi, At W b4 (o4 + j) vi ∧ Ins lo W vi (blocks.getD j [])) := ⟨fun W hB j hj => by
  obtain ⟨vi, q, r⟩ := hbc j hj
  rw [show blocks.getD j [] = blocks[j] by simp [List.getD_eq_getElem?_getD, hj]]
  exact ⟨vi, at_keep q (bel_trans B1 hB), r.keep (bel_trans B1 hB)⟩⟩
 have CE : Kp (∀ x w, Calls Tryz.prog 49 #[.int .i64 x] w fun e w' => e = .returned (.bool (endB x)) ∧ w' = w) := ⟨fun x w => endS x w⟩
 have CI : Kp (∀ W, Below W1.heap.size W1 W → ∀ (vt : Value) (l2 : Nat), Ints l2 .i64 W vt ts → ∀ B (hB : B < blocks.length) i (hi : i < (blocks.getD B []).length), Calls Tryz.prog 50 #[.agg #[.slice ag gs.length kg, .slice (some ⟨b, o, none⟩) fs.length kf], .agg #[.string name, .int .i64 link, .slice ap params.length kp, .int .i64 res, .slice ab blocks.length kb], vt, .int .i64 B, .int .i64 i] W fun e w' => e = .returned (.int .i64 (inF gs.length ts fs ⟨name, link, params, res, blocks⟩ B ((blocks.getD B []).take i) ((blocks.getD B []).getD i default))) ∧ Below W.heap.size W w') := ⟨fun W hB vt l2 ht B hBl i hi => by
  have e : blocks.getD B [] = blocks[B] := by simp [List.getD_eq_getElem?_getD, hBl]
  exact l2Ins gs fs _ _ ⟨name, link, params, res, blocks⟩ _ _ ts vt B i (blocks.getD B []) W (hmo.keep (bel_trans B1 hB)) (hF'.keep (bel_trans B1 hB)) ht hBl e.symm hi (fun x hx => hfB.b _ (List.getElem_mem hBl) x (by rwa [e] at hx))⟩
 obtain ⟨R, hR⟩ : ∃ R, R = boF gs.length fs ⟨name, link, params, res, blocks⟩ k := ⟨_, rfl⟩
 rw [← hR]
 have RB : Kp (R = firstF (fun j => blF gs.length ts fs ⟨name, link, params, res, blocks⟩ k j (blocks.getD j [])) blocks.length) := ⟨by rw [hR, hts]; rfl⟩
 generalize hPF : (⟨name, link, params, res, blocks⟩ : FnD) = F at *
 replace hPF := Kp.mk hPF
 replace hW := Kp.mk hW
 replace hW1 := Kp.mk hW1
 replace z2 := Kp.mk z2
 clear hR hts hX hF' hp hb hbc hf hc s2 hfB hbd hsz hn h mC0 rC0 fC1 hmo
 go_enter Tryz.func20, Tryz.ntmps20
 go_upto_region 1 with fail
 rw [← hW.out]
 go_upto_region 2 with fail
 rw [← hW1.out]
 obtain ⟨f0, f1, f2, f3, f4⟩ := FC.out W1 (Below.refl _ _)
 go_wp2_with fail
 refine CV.out.mono ?_
 rintro e w2 ⟨vt, rfl, hown, hb2⟩
 have hT := Kp.mk (hown.ints hTL)
 clear f0 f1 f2 f3 f4 hown d0 d1 d2 d3 d4 m1
 have hb2' := hb2
 go_wp2_with fail
 go_loopw [7] (fun r wr => ∃ B : Nat, B ≤ blocks.length ∧ r = .int .i64 B ∧ Kp (∀ j, j < B → blF gs.length ts fs F k j (blocks.getD j []) = none) ∧ Below w2.heap.size w2 wr) (fun r _ => blocks.length - (intOf r).toNat)
 case atStart => exact ⟨0, Nat.zero_le _, rfl, ⟨fun j hj => absurd hj (by omega)⟩, Below.refl _ _⟩
 case round =>
  obtain ⟨B, hBl, rfl, hd, hBe⟩ := hrel
  have hB1 := bel_trans hb2' hBe
  obtain ⟨f0, f1, f2, f3, f4⟩ := FC.out _ hB1
  by_cases hlt : B < blocks.length
  ·obtain rfl := z2.out (by omega)
   have hlt' : (B : Int) < (blocks.length : Int) := by omega
   obtain ⟨vi, c0, hv⟩ := BC.out _ hB1 B hlt
   have CIB := Kp.mk (fun W hW vt l2 ht i hi => CI.out W hW vt l2 ht B hlt i hi)
   have hget := Kp.mk (fun (x : FtD) (hq : blF gs.length ts fs F k B (blocks.getD B []) = some x) => show R = some x by rw [RB.out]; exact firstF_hit hlt hd.out hq)
   have hnone := Kp.mk (fun (hq : blF gs.length ts fs F k B (blocks.getD B []) = none) => show ∀ j, j < B + 1 → blF gs.length ts fs F k j (blocks.getD j []) = none from fun j hj => by
    exact tl161)
   generalize blocks.getD B [] = ys at *
   obtain ⟨bi, oi, ⟨⟨ai, ki, rfl, i1, i2⟩, i3⟩, -, ic⟩ := hv.ex
   have g5 : (ys.length : Int) ≤ 140737488355328 := by omega
   obtain ⟨wo, hwo⟩ : ∃ wo : World, wo = wr := ⟨_, rfl⟩
   have hBo : Below wo.heap.size wo wr := by rw [hwo]; exact Below.refl _ _
   rw [← hwo] at hB1 hBe
   have IC : Kp (∀ W, Below wo.heap.size wo W → ∀ i (h : i < ys.length), At W bi (oi + i * 9) (.int .i64 (ys.getD i default).op)) := ⟨fun W hW i h => by
    rw [hwo] at hW
    obtain ⟨_, _, _, q⟩ := ic i h
    rw [show ys.getD i default = ys[i] by simp [List.getD_eq_getElem?_getD, h]]
    exact at_keep q.c0 hW⟩
   clear hwo ic hv hd
   replace i2 := Kp.mk i2
   go_wp2_with fail
   go_loopw [10] (fun r wr => ∃ i : Nat, i ≤ ys.length ∧ r = .int .i64 i ∧ Kp (∀ j, j < i → atF gs.length ts fs F B ys j = 0) ∧ Below wo.heap.size wo wr) (fun r _ => ys.length - (intOf r).toNat)
   case atStart => exact ⟨0, Nat.zero_le _, rfl, ⟨fun j hj => absurd hj (by omega)⟩, hBo⟩
   case round =>
    clear hBo f0 f1 f2 f3 f4 c0
    obtain ⟨i, hi, rfl, hd, hBq⟩ := hrel
    have hB2 := bel_trans hB1 hBq
    by_cases hlt2 : i < ys.length
    ·obtain rfl := i2.out (by omega)
     have hlt2' : (i : Int) < (ys.length : Int) := by omega
     have c0 := IC.out _ hBq i hlt2
     obtain ⟨f0, f1, f2, f3, f4⟩ := FC.out _ hB2
     obtain ⟨m0, m1⟩ := MO.out _ hB2
     have CEi := Kp.mk (fun w => CE.out (ys.getD i default).op w)
     have hTi := hT.out.keep (bel_trans hBe hBq)
     have CIi := Kp.mk (CIB.out _ hB2 vt _ hTi i hlt2)
     have AY := Kp.mk (@atF_yes gs.length ts fs F B ys i)
     have AN := Kp.mk (@atF_no gs.length ts fs F B ys i)
     have HIT := Kp.mk (fun (q : ¬ atF gs.length ts fs F B ys i = 0) => hget.out _ (blF_hit (fn := k) hlt2 hd.out q))
     have hnx : Kp (atF gs.length ts fs F B ys i = 0 → ∀ j, j < i + 1 → atF gs.length ts fs F B ys j = 0) := ⟨fun q j hj => by
      exact tl144⟩
     generalize inF gs.length ts fs F B (ys.take i) (ys.getD i default) = C at *
     generalize (ys.getD i default).op = op at *
     generalize atF gs.length ts fs F B ys i = AT at *
     clear hd hTi
     by_cases hlast : i + 1 = ys.length
     ·have l1 : ¬ (i : Int) < (ys.length : Int) - 1 := by omega
      have l2 : (i : Int) = (ys.length : Int) - 1 := by omega
      have l3 : ((i : Int) == (ys.length : Int) - 1) = true := by simp [l2]
      have l4 : decide (i + 1 = ys.length) = true := decide_eq_true hlast
      replace l2 := Kp.mk l2
      replace hlast := Kp.mk hlast
      rw [l4] at AY AN
      cases he : endB op with
      | false =>
       have hA : AT = 4 := AN.out (by rw [he]; simp)
       have hR : Kp (R = some ((4, (k : Int), (B : Int), (i : Int)) : FtD)) := ⟨by rw [HIT.out (by omega), hA]⟩
       rw [he] at CEi
       clear AY AN HIT hnx hA he l4
       go_wp2_with fail
       refine CIi.out.mono ?_
       rintro e w3 ⟨rfl, hb3⟩
       have c0' := at_keep c0 hb3
       clear f0 f1 f2 f3 f4 m0 m1 c0
       have hB3 := bel_trans hB2 hb3
       go_wp2_with fail
       refine (CEi.out _).mono ?_
       rintro e w4 ⟨rfl, rfl⟩
       obtain ⟨hRw, hBl, hCl, hFz, z0, z1, z2, z3, y0, y1, y2, y3⟩ := FO.out _ (hB3)
       exact tl35
      | true =>
       have hA : AT = C := AY.out he
       subst hA
       rw [he] at CEi
       by_cases hC : AT = 0
       ·subst hC
        have hnx' := Kp.mk (hnx.out rfl)
        clear AY AN HIT hnx he l4
        go_wp2_with fail
        refine CIi.out.mono ?_
        rintro e w3 ⟨rfl, hb3⟩
        have c0' := at_keep c0 hb3
        clear f0 f1 f2 f3 f4 m0 m1 c0
        have hB3 := bel_trans hBq hb3
        go_wp2_with fail
        refine (CEi.out _).mono ?_
        rintro e w4 ⟨rfl, rfl⟩
        exact tl120
       ·have hR : Kp (R = some ((AT, (k : Int), (B : Int), (i : Int)) : FtD)) := ⟨HIT.out hC⟩
        have nC := nbT hC
        have mC := nb hC
        clear AY AN HIT hnx he l4 hC
        go_wp2_with fail
        refine CIi.out.mono ?_
        rintro e w3 ⟨rfl, hb3⟩
        have c0' := at_keep c0 hb3
        clear f0 f1 f2 f3 f4 m0 m1 c0
        have hB3 := bel_trans hB2 hb3
        go_wp2_with fail
        refine (CEi.out _).mono ?_
        rintro e w4 ⟨rfl, rfl⟩
        exact tl30
     ·have l1 : (i : Int) < (ys.length : Int) - 1 := by omega
      have l2 : ¬ (i : Int) = (ys.length : Int) - 1 := by omega
      have l3 := nb l2
      have l4 : decide (i + 1 = ys.length) = false := decide_eq_false hlast
      clear l2 hlast
      rw [l4] at AY AN
      cases he : endB op with
      | true =>
       have hA : AT = 4 := AN.out (by rw [he]; simp)
       have hR : Kp (R = some ((4, (k : Int), (B : Int), (i : Int)) : FtD)) := ⟨by rw [HIT.out (by omega), hA]⟩
       rw [he] at CEi
       clear AY AN HIT hnx hA he l4 f0 f1 f2 f3 f4 m0 m1
       go_wp2_with fail
       refine (CEi.out _).mono ?_
       rintro e w4 ⟨rfl, rfl⟩
       obtain ⟨hRw, hBl, hCl, hFz, z0, z1, z2, z3, y0, y1, y2, y3⟩ := FO.out _ (hB2)
       exact tl35
      | false =>
       have hA : AT = C := AY.out he
       subst hA
       rw [he] at CEi
       by_cases hC : AT = 0
       ·subst hC
        have hnx' := Kp.mk (hnx.out rfl)
        clear AY AN HIT hnx he l4
        go_wp2_with fail
        refine (CEi.out _).mono ?_
        rintro e w4 ⟨rfl, hw4⟩
        subst w4
        go_wp2_with fail
        refine CIi.out.mono ?_
        rintro e w3 ⟨rfl, hb3⟩
        clear f0 f1 f2 f3 f4 m0 m1 c0
        have hB3 := bel_trans hBq hb3
        exact tl120
       ·have hR : Kp (R = some ((AT, (k : Int), (B : Int), (i : Int)) : FtD)) := ⟨HIT.out hC⟩
        have nC := nbT hC
        have mC := nb hC
        clear AY AN HIT hnx he l4 hC
        go_wp2_with fail
        refine (CEi.out _).mono ?_
        rintro e w4 ⟨rfl, hw4⟩
        subst w4
        go_wp2_with fail
        refine CIi.out.mono ?_
        rintro e w3 ⟨rfl, hb3⟩
        clear f0 f1 f2 f3 f4 m0 m1 c0
        have hB3 := bel_trans hB2 hb3
        exact tl30
    ·have hlt2' : ¬ (i : Int) < (ys.length : Int) := by omega
     obtain rfl : i = ys.length := by omega
     by_cases h0 : (ys.length : Int) = 0
     ·have hR : Kp (R = some ((4, (k : Int), (B : Int), (-1 : Int)) : FtD)) := ⟨hget.out (4, (k : Int), (B : Int), (-1 : Int)) (by unfold blF; rw [if_pos (by omega)])⟩
      have n0 : ((ys.length : Int) == 0) = true := by simp [h0]
      replace h0 := Kp.mk h0
      clear hd
      obtain ⟨hRw, hBl, hCl, hFz, z0, z1, z2, z3, y0, y1, y2, y3⟩ := FO.out _ (hB2)
      have u0 := hFz 0
      have u1 := hFz 1
      have u2 := hFz 2
      have u3 := hFz 3
      have hS := Kp.mk (fun a b c d => belFour hBl hCl a b c d)
      obtain ⟨p0, p1, p2, p3⟩ := putFour hRw (Value.int .i64 4) (Value.int .i64 k) (Value.int .i64 B) (Value.int .i64 (-1))
      replace hRw := Kp.mk hRw
      clear hBl hCl hFz
      go_wp2_with fail
      refine bodyPost_ret (v := .agg #[Value.int .i64 4, Value.int .i64 k, Value.int .i64 B, Value.int .i64 (-1)]) ?_ rfl ⟨by rw [hR.out]; rfl, hS.out _ _ _ _⟩
      simp [results, Tryz.results20, go_sem, p0, p1, p2, p3]
     ·have hn0 := Kp.mk (hnone.out (blF_none (by omega) hd.out))
      have n0 := nb h0
      clear h0 hd
      go_wp2_with fail
      exact ⟨⟨B + 1, by omega, by go_num, hn0, bel_trans hBe hBq⟩, by simp [intOf]; omega⟩
  ·have hlt' : ¬ (B : Int) < (blocks.length : Int) := by omega
   have hR : Kp (R = none) := ⟨by rw [RB.out]; exact firstF_none (fun j hj => hd.out j (by omega))⟩
   clear hd
   obtain ⟨hRw, hBl, hCl, hFz, z0, z1, z2, z3, y0, y1, y2, y3⟩ := FO.out _ (hB1)
   have u0 := hFz 0
   have u1 := hFz 1
   have u2 := hFz 2
   have u3 := hFz 3
   have hS := Kp.mk (fun a b c d => belFour hBl hCl a b c d)
   obtain ⟨p0, p1, p2, p3⟩ := putFour hRw (Value.int .i64 0) (Value.int .i64 0) (Value.int .i64 0) (Value.int .i64 0)
   replace hRw := Kp.mk hRw
   clear hBl hCl hFz
   go_wp2_with fail
   refine bodyPost_ret (v := .agg #[Value.int .i64 0, Value.int .i64 0, Value.int .i64 0, Value.int .i64 0]) ?_ rfl ⟨by rw [hR.out]; rfl, hS.out _ _ _ _⟩
   simp [results, Tryz.results20, go_sem, p0, p1, p2, p3]
end Go.Proofs.YtgdcgjlmkmdklaaGreatDoor
