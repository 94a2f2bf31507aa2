/- Texts of one claim. -/
import Derived.Test.YtgdcgjlmkmdklaaGreatDoorPk0
import Derived.Test.YtgdcgjlmkmdklaaGreatDoorPk43
import Derived.Deep.RegionWith
import Derived.Deep.RegionLaw
import Derived.Deep.DeepFit
namespace Go.Proofs.YtgdcgjlmkmdklaaGreatDoor
open Go.ChangeShapes Go.WideShapes Go.ChangeAt Go.RowKit
open Go.Lib
set_option linter.unusedVariables false
set_option linter.unusedSimpArgs false
theorem step_append_run {P : Program} {ops : Array Oper} {o : Oper} {a : Act} {w w' : World} {K : Act → World → Prop} {Q : Exit → Act → World → Prop} {E : Prop} {v u v' : Value}
  (hg : o.guard = none) (s x : Operand) (t : TypeId) (hop : o.op = Op.call { callee := Callee.builtin Builtin.append, args := #[s, x], argTypes := #[t, t] })
  (hs : a.eval s = v) (hx : a.eval x = u) (hrun : (Builtin.append_ #[t, t] o.type #[v, u]).run P w = .ok v' w') (hK : K (a.put o.dst v') w') :
  if Region.wanted o (yielded ops a.tmps) = true then Oper.wp P o a w K Q else E := by
 have hw : Region.wanted o (yielded ops a.tmps) = true := by simp [Region.wanted, hg]
 rw [if_pos hw]
 unfold Oper.wp
 simp [execOp, hop, resolve, invoke, builtin, hs, hx, hrun, Result.andThen]
 exact hK
theorem own_oneT (w : World) (s : ByteArray) (base : Nat) (hb : base ≤ w.heap.size) : OwnT (w.alloc (Go.Obj.cells #[.string s] 9)) base (.slice (some ⟨w.heap.size, 0, none⟩) 1 1) [s] :=
 ⟨by simp, .inr ⟨w.heap.size, 1, #[.string s], rfl, hb, (MapKept.heap_alloc w _).1, Nat.le_refl _, by decide, rfl, by simp⟩⟩
set_option maxRecDepth 100000 in
set_option maxHeartbeats 2000000 in
theorem casesI (x : InD) (va vb vw : Value) (w : World) {lo : Nat} (h : Ops lo w va x.args) (hI : Ints lo .i64 w vb x.bl) (hJ : Ints lo .u64 w vw x.ws) (hL : Lt w) (h0 : 0 < x.args.length) (hbl : ∀ n ∈ x.bl, -9223372036854775808 ≤ n ∧ n ≤ 9223372036854775807) (hws : ∀ n ∈ x.ws, 0 ≤ n ∧ n ≤ 18446744073709551615) (hn : x.args.length ≤ 1048576) (hn2 : x.ws.length ≤ 1048576) (hl : x.ws.length + 1 ≤ x.bl.length) :
  Calls Tryz.prog 122 #[inVal x va vb vw] w fun e w' => ∃ v, e = .returned v ∧ OwnT w' w.heap.size v (swL x.args[0].t x.bl x.ws x.ws.length) ∧ Below w.heap.size w w' := by
 obtain ⟨i0, hi0, hz0, hz1, hz2⟩ := info_parts infoT
 obtain ⟨op, ty, fl, pr, ca, sz, args, bl, ws⟩ := x
 dsimp only at *
 have h00 : 0 < args.length := h0
 obtain ⟨W0, hW⟩ : ∃ W0, W0 = w.alloc (Go.Obj.cells #[.int .i64 op, .int .i64 ty, .int .i64 fl, .int .i64 pr, .int .i64 ca, .int .i64 sz, va, vb, vw] 73) := ⟨_, rfl⟩
 have B0 : Below w.heap.size w W0 := by rw [hW]; exact bel_alloc _ _
 have hs0 : W0.heap.size = w.heap.size + 1 := by rw [hW]; simp
 have hc : W0.heap[w.heap.size]? = some (Go.Obj.cells #[.int .i64 op, .int .i64 ty, .int .i64 fl, .int .i64 pr, .int .i64 ca, .int .i64 sz, va, vb, vw] 73) := by rw [hW]; exact (MapKept.heap_alloc w _).1
 have c6 : At W0 w.heap.size 6 va := at_cells hc rfl
 have c7 : At W0 w.heap.size 7 vb := at_cells hc rfl
 have c8 : At W0 w.heap.size 8 vw := at_cells hc rfl
 obtain ⟨b, o, ⟨⟨a, cap, rfl, s1, s2⟩, s3⟩, -, hq⟩ := (h.keep B0).ex
 obtain ⟨b2, o2, ⟨⟨a2, cap2, rfl, t1, t2⟩, t3⟩, -, hq2⟩ := (hI.keep B0).ex
 obtain ⟨b3, o3, ⟨⟨a3, cap3, rfl, u1, u2⟩, u3⟩, -, hq3⟩ := (hJ.keep B0).ex
 obtain rfl := s2 h00
 obtain rfl := t2 (by omega)
 obtain ⟨qt, hqe⟩ : ∃ qt, args[0].t = qt := ⟨_, rfl⟩
 have d1 := (hq 0 h00).c1
 rw [hqe] at d1 ⊢
 rw [show o + 0 * 4 + 1 = o + 1 by omega] at d1
 have n0 := hq2 0 (by omega)
 have hbz : bl.getD 0 0 = bl[0]'(by omega) := by simp [List.getD_eq_getElem?_getD, show 0 < bl.length by omega]
 have hbb := hbl _ (List.getElem_mem (show 0 < bl.length by omega))
 obtain ⟨nb, hnb⟩ : ∃ nb, bl[0]'(by omega) = nb := ⟨_, rfl⟩
 rw [hnb] at n0 hbz hbb
 rw [show o2 + 0 = o2 by omega] at n0
 have LW : Kp (∀ W, Below W0.heap.size W0 W → Lt W) := ⟨fun W hB => (hL.below B0).below hB⟩
 have CI := Kp.mk (decI nb W0 (hL.below B0) hbb.1 hbb.2)
 have hS0 : swL qt bl ws 0 = [⟨(itoa nb).toArray⟩] := by
  have e : swL qt bl ws 0 = [dTx (bl.getD 0 0)] := rfl
  rw [e, hbz]; rfl
 obtain ⟨ti, hti⟩ : ∃ ti, (⟨(itoa nb).toArray⟩ : ByteArray) = ti := ⟨_, rfl⟩
 rw [hti] at CI hS0
 have hSn : Kp (∀ i, swL qt bl ws (i + 1) = swL qt bl ws i ++ [csT qt (ws.getD i 0) (bl.getD (i + 1) 0)]) := ⟨fun i => swL_next _ _ _ _⟩
 have hSl : Kp (∀ i, (swL qt bl ws i).length = i + 1) := ⟨fun i => swL_len _ _ _ _⟩
 have hGW : Kp (∀ i (hi : i < ws.length), 0 ≤ ws[i] ∧ ws[i] ≤ 18446744073709551615) := ⟨fun i hi => hws _ (List.getElem_mem hi)⟩
 have hGB : Kp (∀ i (hi : i < bl.length), -9223372036854775808 ≤ bl[i] ∧ bl[i] ≤ 9223372036854775807) := ⟨fun i hi => hbl _ (List.getElem_mem hi)⟩
 have hlba : (0 : Int) < (args.length : Int) := by omega
 have hlbb : (0 : Int) < (bl.length : Int) := by omega
 replace hq2 := Kp.mk hq2
 replace hq3 := Kp.mk hq3
 replace u2 := Kp.mk u2
 replace hW := Kp.mk hW
 clear h hI hJ hL hbl hws hq hc hbz hnb hbb hti s1 s2 h0 hqe
 go_enter Tryz.func122, Tryz.ntmps122
 go_upto_region 1 with fail
 rw [← hW.out]
 clear hW
 go_wp2_with fail
 refine CI.out.mono ?_
 rintro e w1 ⟨rfl, hb1⟩
 obtain ⟨w2, hw2⟩ : ∃ w2, w2 = w1.alloc (Go.Obj.cells #[.string ti] 9) := ⟨_, rfl⟩
 have hb2 : Below w1.heap.size w1 w2 := by rw [hw2]; exact bel_alloc _ _
 have c82 := at_keep (at_keep c8 hb1) hb2
 have hO2 : OwnT w2 W0.heap.size (.slice (some ⟨w1.heap.size, 0, none⟩) 1 1) [ti] := by rw [hw2]; exact own_oneT w1 ti _ hb1.size
 have hzw : W0.heap.size ≤ w2.heap.size := Nat.le_trans hb1.size hb2.size
 have hB02 := bel_trans hb1 hb2
 replace hw2 := Kp.mk hw2
 go_upto_region 2 with fail
 rw [← hw2.out]
 clear hw2
 go_wp2_with fail
 go_loopw [3, 15] (fun s r wr => ∃ i : Nat, r = .int .i64 i ∧ i ≤ ws.length ∧ OwnT wr W0.heap.size s (swL qt bl ws i) ∧ W0.heap.size ≤ wr.heap.size ∧ Below W0.heap.size W0 wr) (fun _ r _ => ws.length - (RowKit.intOf r).toNat)
 case atStart => exact ⟨0, rfl, Nat.zero_le _, by rw [hS0]; exact hO2, hzw, hB02⟩
 case round =>
  obtain ⟨i, rfl, hi, hrow, hsz, hB⟩ := hrel
  by_cases hlt : i < ws.length
  ·obtain ⟨ar, cr, rfl⟩ := hrow.shape
   obtain rfl := u2.out (by omega)
   have hlb : i + 1 < bl.length := by omega
   have hlti : (i : Int) < (ws.length : Int) := by omega
   have hlbi : (i : Int) + 1 < (bl.length : Int) := by omega
   have n1 := at_keep (hq2.out (i + 1) hlb) hB
   have n2 := at_keep (hq3.out i hlt) hB
   have d12 := at_keep d1 hB
   have c62 := at_keep c6 hB
   have c72 := at_keep c7 hB
   have hst := hSn.out i
   have hlen := hSl.out i
   have hgw := hGW.out i hlt
   have hgb := hGB.out (i + 1) hlb
   rw [show ws.getD i 0 = ws[i] by simp [List.getD_eq_getElem?_getD, hlt], show bl.getD (i + 1) 0 = bl[i + 1] by simp [List.getD_eq_getElem?_getD, hlb]] at hst
   obtain ⟨wd, hwd⟩ : ∃ wd, ws[i] = wd := ⟨_, rfl⟩
   obtain ⟨bd, hbd⟩ : ∃ bd, bl[i + 1] = bd := ⟨_, rfl⟩
   rw [hwd] at hst hgw n2
   rw [hbd] at hst hgb n1
   have CW : Kp (∀ W, Below wr.heap.size wr W → Calls Tryz.prog 147 _ W _) := ⟨fun W hW => fmtI_any qt wd W (LW.out W (bel_trans hB hW)) hgw.1 hgw.2⟩
   have DW : Kp (∀ W, Below wr.heap.size wr W → Calls Tryz.prog 70 _ W _) := ⟨fun W hW => decI bd W (LW.out W (bel_trans hB hW)) hgb.1 hgb.2⟩
   have fz := fmtW_len qt wd
   have dz := dTx_len bd hgb.1 hgb.2
   have hcs : csT qt wd bd = ((⟨(fmtW qt wd).toArray⟩ : ByteArray) ++ ⟨#[58, 32]⟩) ++ ⟨(itoa bd).toArray⟩ := rfl
   have fz2 : (⟨(fmtW qt wd).toArray⟩ : ByteArray).size ≤ 100 := by simpa [ByteArray.size] using fz
   have dz2 : (⟨(itoa bd).toArray⟩ : ByteArray).size ≤ 100 := dz
   obtain ⟨tf, htf⟩ : ∃ tf, (⟨(fmtW qt wd).toArray⟩ : ByteArray) = tf := ⟨_, rfl⟩
   obtain ⟨td, htd⟩ : ∃ td, (⟨(itoa bd).toArray⟩ : ByteArray) = td := ⟨_, rfl⟩
   rw [htf] at CW hcs fz2
   rw [htd] at DW hcs dz2
   have hrowK := Kp.mk hrow
   have hBK := Kp.mk hB
   have hBD := (Below.refl wr.heap.size wr).drew
   clear hrow hB hwd hbd htf htd fz dz
   rw [hlen]
   go_upto_region 5 with fail
   have cD7 := at_keep c72 hBD
   have cD6 := at_keep c62 hBD
   have dD := at_keep d12 hBD
   have nD1 := at_keep n1 hBD
   have nD2 := at_keep n2 hBD
   clear c72 c62 d12 n1 n2
   have hwr : IntKind.i64.wrap ((i : Int) + 1) = (i : Int) + 1 := by rw [IntKind.wrap_i64]; omega
   have htn : ((i : Int) + 1).toNat = i + 1 := by omega
   have hin : 0 ≤ (i : Int) + 1 := by omega
   have g1 : ¬ 9223372036854775807 < tf.size + 2 := by omega
   have g2 : ¬ 9223372036854775807 < tf.size + 2 + td.size := by omega
   have g3 : ¬ 140737488355328 < tf.size + 2 := by omega
   have g4 : ¬ 140737488355328 < tf.size + 2 + td.size := by omega
   have g5 : tf.size + 2 ≤ 140737488355328 := by omega
   have g6 : tf.size + 2 + td.size ≤ 140737488355328 := by omega
   go_region_law (first
    | (go_simp; go_at_call 147; go_fit (CW.out _ hBD); rintro r w2 ⟨rfl, hb2⟩; have hb22 := bel_trans hBD hb2; have q1 := at_keep cD7 hb2; have q2 := at_keep nD1 hb2)
    | (go_simp; go_at_call 70; go_fit (DW.out _ hb22); rintro r w3 ⟨rfl, hb3⟩; have hb33 := bel_trans hb22 hb3; have hrow1 := (hrowK.out.keep hb33).r; rw [hlen] at hrow1; have hsz1 := hb33.size; obtain ⟨v3, w4, hrun, hown3, hgrow3⟩ := run_append_vals (P := Tryz.prog) (w3.alloc (Go.Obj.cells #[.string ((tf ++ (⟨#[58, 32]⟩ : ByteArray)) ++ td)] 9)) W0.heap.size 122 122 9 i0 (.string ⟨#[]⟩) 1 16 Tryz.underlying122 hi0 hz0 hz1 hz2 rfl (by decide) _ _ _ (hrow1.alloc _) (some ⟨w3.heap.size, 0, none⟩) w3.heap.size 0 1 1 [_] (fun _ => rfl) rfl (one_new w3 _ _) one_str (by unfold maxLen; omega) (by omega) (by simp; omega))
    | (refine step_append_run rfl (.tmp 20) (.tmp 37) 122 rfl (by simp [Act.eval, Act.put]) (by simp [Act.eval, Act.put]) hrun ?_))
   all_goals
    have hB1 := bel_trans hBK.out hb33
    have hsz2 : W0.heap.size ≤ w3.heap.size := Nat.le_trans hsz hb33.size
    have hB4 := own_bel (hB1.alloc hsz2 _) (hrow1.alloc _) hgrow3 (by simp; omega)
    have hsz3 : W0.heap.size ≤ w4.heap.size := by have := hgrow3.size; simp at this; omega
    have hrow4 : OwnT w4 W0.heap.size v3 (swL qt bl ws (i + 1)) := by rw [hst, hcs]; exact ⟨by simpa [hlen] using hown3⟩
    go_wp2_with fail
    exact ⟨⟨i + 1, by go_num, by omega, hrow4, hsz3, hB4⟩, by simp [RowKit.intOf]; omega⟩
  ·obtain rfl : i = ws.length := by omega
   exact tl59
end Go.Proofs.YtgdcgjlmkmdklaaGreatDoor
