/- Texts of one claim. -/
import Derived.Test.YtgdcgjlmkmdklaaGreatDoorPk0
import Derived.Test.YtgdcgjlmkmdklaaGreatDoorPk9
import Derived.Test.YtgdcgjlmkmdklaaGreatDoorPk3
import Derived.Outline
namespace Go.Proofs.YtgdcgjlmkmdklaaGreatDoor
open Go.ChangeShapes Go.WideShapes Go.ChangeAt Go.RowKit
set_option linter.unusedVariables false
set_option linter.unusedSimpArgs false
def frS (xs : List InD) : Int := (xs.map alS).sum
theorem alS_nn (x : InD) : 0 ≤ alS x := by unfold alS; split <;> omega
theorem frS_nn (xs : List InD) : 0 ≤ frS xs := by
 unfold frS
 induction xs with
 | nil => simp
 | cons d r ih => have := alS_nn d; simp only [List.map_cons, List.sum_cons]; omega
theorem frS_app (a b : List InD) : frS (a ++ b) = frS a + frS b := by simp [frS]
theorem frS_one (x : InD) : frS [x] = alS x := by simp [frS]
theorem frS_mem {xs : List InD} {x : InD} (h : x ∈ xs) : alS x ≤ frS xs := by
 obtain ⟨a, b, rfl⟩ := List.append_of_mem h
 rw [frS_app, show (x :: b) = [x] ++ b from rfl, frS_app, frS_one]
 have := frS_nn a
 have := frS_nn b
 omega
theorem flat_len (bs : List (List InD)) : (bs.flatten.length : Int) ≤ blsN bs := by
 unfold blsN
 induction bs with
 | nil => simp
 | cons d r ih =>
  have := insN_nn d
  have e : blN d = d.length + insN d := rfl
  simp only [List.map_cons, List.sum_cons, List.flatten_cons, List.length_append]
  push_cast
  omega
theorem flat_take {bs : List (List InD)} {B : Nat} (h : B < bs.length) : (bs.take (B + 1)).flatten = (bs.take B).flatten ++ bs[B] := by
 rw [List.take_succ_eq_append_getElem h, List.flatten_append]
 simp
theorem flat_take_le (bs : List (List InD)) (B : Nat) : (bs.take B).flatten.length ≤ bs.flatten.length := by
 have e := congrArg List.length (congrArg List.flatten (List.take_append_drop B bs))
 rw [List.flatten_append, List.length_append] at e
 omega
theorem flat_mem {bs : List (List InD)} {B i : Nat} (h : B < bs.length) (hi : i < bs[B].length) : bs[B][i] ∈ bs.flatten :=
 List.mem_flatten.2 ⟨bs[B], List.getElem_mem _, List.getElem_mem _⟩
set_option maxRecDepth 100000 in
set_option maxHeartbeats 4000000 in
theorem l2Sm (f : FnD) (vp vb : Value) (w : World) {lo : Nat} (h : FnAt lo w f vp vb) (hn : fnN f ≤ 1048576) :
  Calls Tryz.prog 47 #[fnV f vp vb] w fun e w' => e = .returned (.bool (smB f)) ∧ Below w.heap.size w w' := by
 obtain ⟨name, link, params, res, blocks⟩ := f
 obtain ⟨-, hp, hb⟩ := h
 unfold fnN at hn
 dsimp only [fnV] at *
 have nn := blsN_nn blocks
 have hL := flat_len blocks
 have n2 : (blocks.length : Int) ≤ 1048576 := by omega
 have n3 : blocks.flatten.length ≤ 1048576 := by omega
 obtain ⟨_, _, ⟨⟨a1, k1, rfl, -, -⟩, -⟩, -, -⟩ := hp.ex
 obtain ⟨b, o, ⟨⟨a2, k2, rfl, h1, h2⟩, h3⟩, -, hc⟩ := hb.ex
 obtain ⟨W0, hW⟩ : ∃ W0, W0 = w.alloc (Go.Obj.cells #[.string name, .int .i64 link, .slice a1 params.length k1, .int .i64 res, .slice a2 blocks.length k2] 53) := ⟨_, rfl⟩
 have BB : Below w.heap.size w W0 := by rw [hW]; exact bel_alloc w _
 have X4 : Kp (∀ W, Below W0.heap.size W0 W → At W w.heap.size 4 (.slice a2 blocks.length k2)) := ⟨fun W hB => by
  have q := new_at w (Go.Obj.cells #[.string name, .int .i64 link, .slice a1 params.length k1, .int .i64 res, .slice a2 blocks.length k2] 53)
  rw [← hW] at q
  exact cells_at (kept_at q hB) rfl⟩
 have HC : Kp (∀ W, Below W0.heap.size W0 W → ∀ i (h : i < blocks.length), ∃ vi, At W b (o + i) vi ∧ Ins lo W vi blocks[i]) := ⟨fun W hB i hi => by
  exact tl131⟩
 have hFL := Kp.mk (flat_take_le blocks)
 have hSM : Kp (smB ⟨name, link, params, res, blocks⟩ = (decide (blocks.length ≤ 40) && (decide (blocks.flatten.length ≤ 256) && decide (frS blocks.flatten ≤ 512)))) := ⟨rfl⟩
 replace h2 := Kp.mk h2
 replace hW := Kp.mk hW
 clear hc hb hp hn nn hL
 obtain ⟨R, hR⟩ : ∃ R, R = smB ⟨name, link, params, res, blocks⟩ := ⟨_, rfl⟩
 rw [← hR]
 rw [← hR] at hSM
 clear hR
 go_enter Tryz.func47, Tryz.ntmps47
 go_upto_region 1 with fail
 rw [← hW.out]
 go_wp2_with fail
 go_loopw [3, 4, 5] (fun n s r wr => ∃ (B N : Nat) (S : Int), B ≤ blocks.length ∧ r = .int .i64 B ∧ n = .int .i64 N ∧ s = .int .i64 S ∧ Kp (N = (blocks.take B).flatten.length) ∧ Kp (S = frS (blocks.take B).flatten) ∧ 0 ≤ S ∧ S ≤ 512 * (N : Int) ∧ N ≤ 1048576 ∧ Below W0.heap.size W0 wr) (fun _ _ r _ => blocks.length - (intOf r).toNat)
 case atStart => exact ⟨0, 0, 0, Nat.zero_le _, rfl, rfl, rfl, ⟨rfl⟩, ⟨rfl⟩, by omega, by omega, by omega, Below.refl _ _⟩
 case round =>
  obtain ⟨B, N, S, hB, rfl, rfl, rfl, hN, hS, s0, s1, hN1, hBl⟩ := hrel
  have x4 := X4.out _ hBl
  by_cases hlt : B < blocks.length
  ·obtain rfl := h2.out (by omega)
   obtain ⟨vi, c0, hv⟩ := HC.out _ hBl B hlt
   obtain ⟨ys, hys⟩ : ∃ ys, Kp (blocks[B] = ys) := ⟨_, ⟨rfl⟩⟩
   rw [hys.out] at hv
   have hft := Kp.mk (flat_take hlt)
   rw [hys.out] at hft
   have hN2 : N + ys.length ≤ 1048576 := by
    have q := hFL.out (B + 1)
    rw [hft.out, List.length_append, ← hN.out] at q
    omega
   obtain ⟨bi, oi, ⟨⟨ai, ki, rfl, i1, i2⟩, i3⟩, -, ic⟩ := hv.ex
   have hmem : Kp (∀ i (h : i < ys.length), ys[i] ∈ blocks.flatten) := ⟨fun i h => by
    exact tl114⟩
   have C0 : Kp (∀ W, Below wr.heap.size wr W → At W b (o + B) (.slice ai ys.length ki)) := ⟨fun W h => at_keep c0 h⟩
   have IC : Kp (∀ W, Below wr.heap.size wr W → ∀ i (h : i < ys.length), ∃ va vb vw, InAt lo W bi (oi + i * 9) ys[i] va vb vw) := ⟨fun W hW i h => by
    obtain ⟨va, vb, vw, q⟩ := ic i h
    exact ⟨va, vb, vw, q.keep hW⟩⟩
   have X5 : Kp (∀ W, Below wr.heap.size wr W → At W w.heap.size 4 (.slice (some ⟨b, o, none⟩) blocks.length k2)) := ⟨fun W h => at_keep x4 h⟩
   replace i2 := Kp.mk i2
   replace hv := Kp.mk hv
   obtain ⟨wo, hwo⟩ : ∃ wo : World, wo = wr := ⟨_, rfl⟩
   rw [← hwo] at C0 IC X5 hBl
   have hBo : Below wo.heap.size wo wr := by rw [hwo]; exact Below.refl _ _
   clear ic hwo
   go_wp2_with fail
   go_loopw [4, 6] (fun s r wq => ∃ (i : Nat) (T : Int), i ≤ ys.length ∧ r = .int .i64 i ∧ s = .int .i64 T ∧ Kp (T = frS ((blocks.take B).flatten ++ ys.take i)) ∧ 0 ≤ T ∧ T ≤ 512 * ((N : Int) + i) ∧ Below wo.heap.size wo wq) (fun _ r _ => ys.length - (intOf r).toNat)
   case atStart => exact ⟨0, S, Nat.zero_le _, rfl, rfl, ⟨by simpa using hS.out⟩, s0, by omega, hBo⟩
   case round =>
    clear hBo x4 c0 hS s0 s1
    obtain ⟨i, T, hi, rfl, rfl, hT, t0, t1, hBq⟩ := hrel
    have x4 := X5.out _ hBq
    have c0 := C0.out _ hBq
    by_cases hlt2 : i < ys.length
    ·obtain rfl := i2.out (by omega)
     obtain ⟨va, vl, vs, hin⟩ := IC.out _ hBq i hlt2
     have hm := hmem.out i hlt2
     have hT2 : frS ((blocks.take B).flatten ++ ys.take (i + 1)) = T + alS ys[i] := by
      rw [List.take_succ_eq_append_getElem hlt2, ← List.append_assoc, frS_app, frS_one, hT.out]
     have hge := frS_mem hm
     generalize ys[i] = X at *
     obtain ⟨op, ty, fl, pr, ca, sz, args, bl, ws⟩ := X
     obtain ⟨d0, d1, d2, d3, d4, d5, d6, d7, d8, hl⟩ := hin
     obtain ⟨_, _, ⟨⟨aa, ka, rfl, -, -⟩, -⟩, -, -⟩ := hl.a.ex
     obtain ⟨_, _, ⟨⟨ab, kb, rfl, -, -⟩, -⟩, -, -⟩ := hl.b.ex
     obtain ⟨_, _, ⟨⟨ac, kc, rfl, -, -⟩, -⟩, -, -⟩ := hl.c.ex
     dsimp only at *
     replace hT2 := Kp.mk hT2
     replace hge := Kp.mk hge
     clear hl hm hT
     by_cases q1 : op = 21
     ·subst q1
      by_cases q2 : 0 < sz
      ·have hal : Kp (alS ⟨21, ty, fl, pr, ca, sz, args, bl, ws⟩ = sz) := ⟨by simp [alS, q2]⟩
       by_cases q3 : 512 < sz
       ·have hf : Kp (R = false) := ⟨by
         rw [hSM.out]
         have := hge.out
         rw [hal.out] at this
         have q : ¬ frS blocks.flatten ≤ 512 := by omega
         simp [q]⟩
        clear hge hT2 hal
        go_wp2_with fail
        go_ret
        exact ⟨ret_bool hf.out.symm, bel_trans BB (bel_trans hBl (bel_trans hBq (bel_alloc _ _)))⟩
       ·exact tl70
      ·exact tl153
     ·have hT3 : Kp (T = frS ((blocks.take B).flatten ++ ys.take (i + 1))) := ⟨by rw [hT2.out]; simp [alS, q1]⟩
      have n21 := nb q1
      clear hge hT2 q1
      exact tl57
    ·have hT3 : Kp (T = frS (blocks.take (B + 1)).flatten) := ⟨by rw [hft.out, hT.out, show ys.take i = ys from List.take_of_length_le (by omega)]⟩
     have hN3 : Kp (N + ys.length = (blocks.take (B + 1)).flatten.length) := ⟨by rw [hft.out, List.length_append, ← hN.out]⟩
     have t2 : T ≤ 512 * ((N + ys.length : Nat) : Int) := by omega
     replace t2 := Kp.mk t2
     go_wp2_with fail
     exact ⟨⟨B + 1, N + ys.length, T, by omega, by go_num, by go_num, rfl, hN3, hT3, t0, t2.out, hN2, bel_trans hBl hBq⟩, by simp [intOf]; omega⟩
  ·have hN' : Kp ((N : Int) = blocks.flatten.length) := ⟨by rw [hN.out, List.take_of_length_le (by omega)]⟩
   have hS' : Kp (S = frS blocks.flatten) := ⟨by rw [hS.out, List.take_of_length_le (by omega)]⟩
   have G : Kp (R = (decide ((blocks.length : Int) ≤ 40) && (decide ((N : Int) ≤ 256) && decide (S ≤ 512)))) := ⟨by
    rw [hSM.out, hS'.out, hN'.out, Bool.eq_iff_iff]
    simp <;> omega⟩
   go_wp2_with fail
   all_goals
    go_ret
    exact ⟨ret_bool (by rw [G.out]; first | rfl | (simp_all; done) | (simp_all; omega)), bel_trans BB hBl⟩
end Go.Proofs.YtgdcgjlmkmdklaaGreatDoor

namespace Go.Proofs.YtgdcgjlmkmdklaaGreatDoor
set_option linter.unusedVariables false
structure I64 (z : Int) : Prop where
 a : -9223372036854775808 ≤ z
 b : z ≤ 9223372036854775807
structure OpB (q : OpD) : Prop where
 i0 : -9223372036854775808 ≤ q.i
 i1 : q.i ≤ 9223372036854775807
 w0 : 0 ≤ q.w
 w1 : q.w ≤ 18446744073709551615
structure InB (x : InD) : Prop where
 fl : I64 x.fl
 sz : I64 x.sz
 a : ∀ q ∈ x.args, OpB q
 b : ∀ z ∈ x.bl, I64 z
 c : ∀ z ∈ x.ws, 0 ≤ z ∧ z ≤ 18446744073709551615
structure FnB (f : FnD) : Prop where
 b : ∀ xs ∈ f.blocks, ∀ x ∈ xs, InB x
structure GlB (g : GlD) : Prop where
 s : I64 g.size
 y : ∀ z ∈ g.bytes, 0 ≤ z ∧ z ≤ 255
structure MoB (gs : List GlD) (fs : List FnD) : Prop where
 g : ∀ g ∈ gs, GlB g
 f : ∀ f ∈ fs, FnB f
end Go.Proofs.YtgdcgjlmkmdklaaGreatDoor

namespace Go.Proofs.YtgdcgjlmkmdklaaGreatDoor
open Go.ChangeShapes Go.WideShapes Go.ChangeAt Go.RowKit
set_option linter.unusedVariables false
set_option linter.unusedSimpArgs false
theorem strB_no {a b : ByteArray} (h : ¬ a = b) : (a.toList == b.toList) = false := by
 rw [beq_eq_false_iff_ne]
 intro e
 rw [ByteArray.toList_eq, ByteArray.toList_eq] at e
 exact h (bytes_inj e)
abbrev glD0 : GlD := ⟨ByteArray.empty, 0, false, 0, []⟩
theorem glD_get {gs : List GlD} {k : Nat} (h : k < gs.length) : gs.getD k glD0 = gs[k] := by simp [List.getD_eq_getElem?_getD, h]
set_option maxRecDepth 100000 in
set_option maxHeartbeats 4000000 in
theorem l2Glo (gs : List GlD) (fs : List FnD) (vg vf : Value) (k : Nat) (w : World) {lo : Nat} (h : MoAt lo w gs fs vg vf) (hk : k < gs.length) :
  Calls Tryz.prog 18 #[.agg #[vg, vf], .int .i64 k] w fun e w' => e = .returned (.bool (!gloB gs k)) ∧ Below w.heap.size w w' := by
 obtain ⟨af, kf, rfl⟩ := h.f.shape
 obtain ⟨b, o, ⟨⟨ag, kg, rfl, s1, s2⟩, s3⟩, -, hc⟩ := h.g.ex
 have g1 : (gs.length : Int) ≤ 140737488355328 := by omega
 obtain rfl := s2 (by omega)
 obtain ⟨vb, hg⟩ := hc k hk
 obtain ⟨W0, hW⟩ : ∃ W0, W0 = w.alloc (Go.Obj.cells #[.slice (some ⟨b, o, none⟩) gs.length kg, .slice af fs.length kf] 33) := ⟨_, rfl⟩
 have BB : Below w.heap.size w W0 := by rw [hW]; exact bel_alloc w _
 have hx : W0.heap[w.heap.size]? = some (Go.Obj.cells #[.slice (some ⟨b, o, none⟩) gs.length kg, .slice af fs.length kf] 33) := by rw [hW]; exact new_at w _
 have x0 : At W0 w.heap.size 0 _ := cells_at hx rfl
 have HC : Kp (∀ i (hi : i < gs.length), gs[i].name.size ≤ 140737488355328 ∧ At W0 b (o + i * 5) (.string gs[i].name)) := ⟨fun i hi => by
  obtain ⟨v, q⟩ := hc i hi
  exact ⟨q.n, at_keep q.c0 BB⟩⟩
 have hg' := hg.keep BB
 obtain ⟨hnm, d0, d1, d2, d3, d4, hy⟩ := hg'
 obtain ⟨_, _, ⟨⟨ay, ky, rfl, -, -⟩, hyl⟩, -, -⟩ := hy.ex
 have hyl' : (gs[k].bytes.length : Int) ≤ 140737488355328 := by omega
 have hGL : Kp (gloB gs k = (nmB gs[k].name && (((gs.take k).all fun h => decide (h.name ≠ gs[k].name)) && (decide (0 ≤ gs[k].link) && (decide (gs[k].link ≤ 3) && (decide (1 ≤ gs[k].size) && (decide (gs[k].size ≤ 256) && (decide ((gs[k].bytes.length : Int) ≤ gs[k].size) && (decide (gs[k].link ≠ 0) || decide (gs[k].bytes.length = 0)))))))))) := ⟨by
  unfold gloB
  rw [glD_get hk]⟩
 have hA1 : Kp (∀ i (hi : i < k), (gs[i]'(by omega)).name = gs[k].name → ((gs.take k).all fun h => decide (h.name ≠ gs[k].name)) = false) := ⟨fun i hi e => by
  rw [Bool.eq_false_iff]
  intro q
  rw [List.all_eq_true] at q
  have hm : gs[i]'(by omega) ∈ gs.take k := by
   rw [List.mem_take_iff_getElem]
   exact ⟨i, by omega, rfl⟩
  have := q _ hm
  simp [e] at this⟩
 have hA2 : Kp ((∀ i (hi : i < k), (gs[i]'(by omega)).name ≠ gs[k].name) → ((gs.take k).all fun h => decide (h.name ≠ gs[k].name)) = true) := ⟨fun q => by
  rw [List.all_eq_true]
  intro y hy
  rw [List.mem_take_iff_getElem] at hy
  obtain ⟨i, hi, rfl⟩ := hy
  simpa using q i (by omega)⟩
 obtain ⟨R, hR⟩ : ∃ R, R = gloB gs k := ⟨_, rfl⟩
 rw [← hR]
 rw [← hR] at hGL
 generalize ((gs.take k).all fun h => decide (h.name ≠ gs[k].name)) = AL at *
 obtain ⟨NM, hNM⟩ : ∃ NM, NM = fun i => (gs.getD i glD0).name := ⟨_, rfl⟩
 have hNMk : gs[k].name = NM k := by rw [hNM]; show gs[k].name = (gs.getD k glD0).name; rw [glD_get hk]
 have HC' : Kp (∀ i, i < gs.length → (NM i).size ≤ 140737488355328 ∧ At W0 b (o + i * 5) (.string (NM i))) := ⟨fun i hi => by
  have e : gs[i].name = NM i := by rw [hNM]; show gs[i].name = (gs.getD i glD0).name; rw [glD_get hi]
  rw [← e]; exact HC.out i hi⟩
 have hA1' : Kp (∀ i, i < k → NM i = NM k → AL = false) := ⟨fun i hi e => by
  have e1 : (gs[i]'(by omega)).name = NM i := by rw [hNM]; show _ = (gs.getD i glD0).name; rw [glD_get (by omega)]
  exact hA1.out i hi (by rw [e1, hNMk]; exact e)⟩
 have hA2' : Kp ((∀ i, i < k → NM i ≠ NM k) → AL = true) := ⟨fun q => hA2.out (fun i hi => by
  have e1 : (gs[i]'(by omega)).name = NM i := by rw [hNM]; show _ = (gs.getD i glD0).name; rw [glD_get (by omega)]
  rw [e1, hNMk]; exact q i hi)⟩
 rw [hNMk] at d0 hnm hGL
 obtain ⟨VN, hVN⟩ : ∃ VN, VN = nmB (NM k) := ⟨_, rfl⟩
 have CN : Kp (∀ w, Calls Tryz.prog 45 #[.string (NM k)] w fun e w' => e = .returned (.bool VN) ∧ w' = w) := ⟨fun w => by rw [hVN]; exact vnS (NM k) w (by unfold maxLen; omega)⟩
 rw [← hVN] at hGL
 replace hk2 := Kp.mk hk
 have hk' : (k : Int) < gs.length := by omega
 have kgs : (gs.length : Int) ≤ kg := by omega
 generalize gs[k].link = LK at *
 generalize gs[k].size = SZ at *
 generalize gs[k].fx = FX at *
 generalize gs[k].bytes.length = BL at *
 replace hW := Kp.mk hW
 clear hNM hVN hNMk hA1 hA2 HC hc hg hR h hx hy s2
 go_enter Tryz.func18, Tryz.ntmps18
 go_upto_region 1 with fail
 rw [← hW.out]
 go_upto_region 2 with fail
 obtain ⟨W1, hW1⟩ : ∃ W1, W1 = W0.alloc (Go.Obj.cells #[.string (NM k), .int .i64 LK, .bool FX, .int .i64 SZ, .slice ay BL ky] 77) := ⟨_, rfl⟩
 have B1 : Below W0.heap.size W0 W1 := by rw [hW1]; exact bel_alloc _ _
 have X1 : Kp (W1.heap[W0.heap.size]? = some (Go.Obj.cells #[.string (NM k), .int .i64 LK, .bool FX, .int .i64 SZ, .slice ay BL ky] 77)) := ⟨by rw [hW1]; exact new_at W0 _⟩
 rw [← hW1]
 clear hW1
 go_wp2_with fail
 go_loopw [6] (fun r wr => ∃ i : Nat, i ≤ k ∧ r = .int .i64 i ∧ Kp (∀ j, j < i → NM j ≠ NM k) ∧ Below W1.heap.size W1 wr) (fun r _ => k - (intOf r).toNat)
 case atStart => exact ⟨0, Nat.zero_le _, rfl, ⟨fun j hj => absurd hj (by omega)⟩, Below.refl _ _⟩
 case round =>
  obtain ⟨i, hi, rfl, hd, hB⟩ := hrel
  by_cases hlt : i < k
  ·have hlt' : (i : Int) < (k : Int) := by omega
   have c0 := at_keep (HC'.out i (by omega)).2 (bel_trans B1 hB)
   have x0' := at_keep x0 (bel_trans B1 hB)
   replace hd := Kp.mk hd
   by_cases q : NM i = NM k
   ·have hf : Kp (R = false) := ⟨by rw [hGL.out, hA1'.out i hlt q]; simp⟩
    rw [q] at c0
    have B2 := bel_trans BB (bel_trans B1 hB)
    have y0 : At wr W0.heap.size 0 _ := cells_at (kept_at X1.out hB) rfl
    exact tl102
   ·have q' := strB_no q
    have hd' : Kp (∀ j, j < i + 1 → NM j ≠ NM k) := ⟨fun j hj => by
     by_cases e : j = i
     ·rw [e]; exact q
     ·exact hd.out.out j (by omega)⟩
    have y0 : At wr W0.heap.size 0 _ := cells_at (kept_at X1.out hB) rfl
    exact tl105
  ·have hAL := hA2'.out (fun j hj => hd.out j (by omega))
   have G : Kp ((!R) = !(VN && (decide (0 ≤ LK) && (decide (LK ≤ 3) && (decide (1 ≤ SZ) && (decide (SZ ≤ 256) && (decide ((BL : Int) ≤ SZ) && (decide (LK ≠ 0) || decide ((BL : Int) = 0))))))))) := ⟨by
    rw [hGL.out, hAL]
    simp⟩
   have B2 := bel_trans BB (bel_trans B1 hB)
   have y0 : At wr W0.heap.size 0 _ := cells_at (kept_at X1.out hB) rfl
   have y1 : At wr W0.heap.size 1 _ := cells_at (kept_at X1.out hB) rfl
   have y3 : At wr W0.heap.size 3 _ := cells_at (kept_at X1.out hB) rfl
   have y4 : At wr W0.heap.size 4 _ := cells_at (kept_at X1.out hB) rfl
   have hlt' : ¬ (i : Int) < (k : Int) := by omega
   clear hAL hd hGL
   cases VN
   ·go_wp2_with fail
    refine (CN.out _).mono ?_
    rintro e w2 ⟨rfl, rfl⟩
    go_wp2_with fail
    go_ret
    exact ⟨ret_bool G.out.symm, B2⟩
   ·go_wp2_with fail
    refine (CN.out _).mono ?_
    rintro e w2 ⟨rfl, rfl⟩
    go_wp2_with fail
    all_goals
     go_ret
     refine ⟨ret_bool ?_, B2⟩
     rw [G.out, Bool.eq_iff_iff]
     simp
     omega
end Go.Proofs.YtgdcgjlmkmdklaaGreatDoor
