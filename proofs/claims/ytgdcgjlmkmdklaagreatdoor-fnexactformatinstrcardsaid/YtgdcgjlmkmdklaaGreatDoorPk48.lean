/- Texts of one claim. -/
import Derived.Test.YtgdcgjlmkmdklaaGreatDoorPk0
import Derived.Test.YtgdcgjlmkmdklaaGreatDoorPk45
import Derived.Test.YtgdcgjlmkmdklaaGreatDoorPk47
namespace Go.Proofs.YtgdcgjlmkmdklaaGreatDoor
open Go.ChangeShapes Go.WideShapes Go.ChangeAt Go.RowKit
open Go.Lib
set_option linter.unusedVariables false
set_option linter.unusedSimpArgs false
theorem ftTx_at (x : InD) (h0 : 0 < x.args.length) : ftTx x = nmOf typesL x.args[0].t := by
 obtain ⟨op, ty, fl, pr, ca, sz, args, bl, ws⟩ := x
 cases args with
 | nil => simp at h0
 | cons a r => rfl
set_option maxRecDepth 100000 in
set_option maxHeartbeats 4000000 in
theorem l3BodyS (gs : List GlD) (fs : List FnD) (vg vf : Value) (x : InD) (va vb vw : Value) (w : World) {lo l2 : Nat} (hM : MoAt l2 w gs fs vg vf) (h : Ops lo w va x.args) (hI : Ints lo .i64 w vb x.bl) (hJ : Ints lo .u64 w vw x.ws) (G : InG fs x) (S : InS gs fs x) (hm : moN gs fs ≤ 1048576) :
  Calls Tryz.prog 63 #[.agg #[vg, vf], inVal x va vb vw] w fun e w' => e = .returned (.string (jn (full (opWs gs fs x)) ⟨#[32]⟩)) ∧ Below w.heap.size w w' := by
 obtain ⟨bF, oF, ⟨⟨aF, cF, rfl, t1, t2⟩, t3⟩, -, hq⟩ := hM.f.ex
 obtain ⟨bA, oA, ⟨⟨aA, cA, rfl, s1, s2⟩, s3⟩, -, hqA⟩ := h.ex
 obtain ⟨bB, oB, ⟨⟨aB, cB, rfl, u1, u2⟩, u3⟩, -, hqB⟩ := hI.ex
 have hn := G.n
 have hIb : ∀ n ∈ x.bl, -9223372036854775808 ≤ n ∧ n ≤ 9223372036854775807 := fun n hn => ⟨(G.b.b n hn).a, (G.b.b n hn).b⟩
 have eA : Kp (x.op ≤ 13 → jn (full (opWs gs fs x)) ⟨#[32]⟩ = nmf (nmOf opsL x.op) (!(bits BinOp.and IntKind.i64 x.fl 2 != 0)) (!(bits BinOp.and IntKind.i64 x.fl 1 != 0)) (!(bits BinOp.and IntKind.i64 x.fl 4 != 0)) ++ ⟨#[32]⟩ ++ nmOf typesL x.ty ++ ⟨#[32]⟩ ++ jn (x.args.map (txO gs)) ⟨#[44, 32]⟩) := ⟨fun h => by rw [tA S h]; simp only [bne, Bool.not_not]; rfl⟩
 have e15 : Kp (x.op = 15 ∨ x.op = 22 → jn (full (opWs gs fs x)) ⟨#[32]⟩ = nmOf opsL x.op ++ ⟨#[32]⟩ ++ nmOf typesL x.ty ++ ⟨#[32]⟩ ++ jn (x.args.map (txO gs)) ⟨#[44, 32]⟩) := ⟨t15 S⟩
 have e14 : Kp (x.op = 14 → jn (full (opWs gs fs x)) ⟨#[32]⟩ = ⟨#[99, 109, 112, 32]⟩ ++ nmOf predsL x.pr ++ ⟨#[32]⟩ ++ ftTx x ++ ⟨#[32]⟩ ++ jn (x.args.map (txO gs)) ⟨#[44, 32]⟩) := ⟨t14 S⟩
 have e16 : Kp (x.op = 16 ∨ x.op = 17 ∨ x.op = 18 → jn (full (opWs gs fs x)) ⟨#[32]⟩ = nmOf opsL x.op ++ ⟨#[32]⟩ ++ ftTx x ++ ⟨#[32]⟩ ++ jn (x.args.map (txO gs)) ⟨#[44, 32]⟩ ++ ⟨#[32, 116, 111, 32]⟩ ++ nmOf typesL x.ty) := ⟨t16 S⟩
 have e20 : Kp (x.op = 20 → jn (full (opWs gs fs x)) ⟨#[32]⟩ = (⟨#[112, 104, 105, 32]⟩ ++ nmOf typesL x.ty ++ ⟨#[32]⟩) ++ jn (phL gs x) ⟨#[44, 32]⟩) := ⟨t20 S⟩
 have e21 : Kp (x.op = 21 → jn (full (opWs gs fs x)) ⟨#[32]⟩ = ⟨#[97, 108, 108, 111, 99, 97, 32]⟩ ++ dTx x.sz) := ⟨t21 S⟩
 have e23 : Kp (x.op = 23 → jn (full (opWs gs fs x)) ⟨#[32]⟩ = ⟨#[115, 116, 111, 114, 101, 32]⟩ ++ ftTx x ++ ⟨#[32]⟩ ++ jn (x.args.map (txO gs)) ⟨#[44, 32]⟩) := ⟨t23 S⟩
 have e30 : Kp (x.op = 30 ∧ x.args ≠ [] → jn (full (opWs gs fs x)) ⟨#[32]⟩ = ⟨#[114, 101, 116, 117, 114, 110, 32]⟩ ++ ftTx x ++ ⟨#[32]⟩ ++ jn (x.args.map (txO gs)) ⟨#[44, 32]⟩) := ⟨fun h => t30 S h.1 h.2⟩
 have e30e : Kp (x.op = 30 ∧ x.args = [] → jn (full (opWs gs fs x)) ⟨#[32]⟩ = ⟨#[114, 101, 116, 117, 114, 110]⟩) := ⟨fun h => t30e S h.1 h.2⟩
 have e25 : Kp (x.op = 25 → jn (full (opWs gs fs x)) ⟨#[32]⟩ = ⟨#[99, 97, 108, 108, 32]⟩ ++ nmOf typesL x.ty ++ ⟨#[32, 64]⟩ ++ (calD fs x.ca).name ++ ⟨#[40]⟩ ++ jn (x.args.map (txO gs)) ⟨#[44, 32]⟩ ++ ⟨#[41]⟩) := ⟨t25 S⟩
 have e24 : Kp (x.op = 24 ∨ x.op = 26 → jn (full (opWs gs fs x)) ⟨#[32]⟩ = nmOf opsL x.op ++ ⟨#[32]⟩ ++ jn (x.args.map (txO gs)) ⟨#[44, 32]⟩) := ⟨t24 S⟩
 have e27 : Kp (x.op = 27 → jn (full (opWs gs fs x)) ⟨#[32]⟩ = ⟨#[106, 117, 109, 112, 32]⟩ ++ dTx (x.bl.getD 0 0)) := ⟨t27 S⟩
 have e28 : Kp (x.op = 28 → jn (full (opWs gs fs x)) ⟨#[32]⟩ = ⟨#[98, 114, 97, 110, 99, 104, 32]⟩ ++ jn (x.args.map (txO gs)) ⟨#[44, 32]⟩ ++ ⟨#[44, 32]⟩ ++ dTx (x.bl.getD 0 0) ++ ⟨#[44, 32]⟩ ++ dTx (x.bl.getD 1 0)) := ⟨t28 S⟩
 have e31 : Kp (x.op = 31 → jn (full (opWs gs fs x)) ⟨#[32]⟩ = ⟨#[116, 114, 97, 112]⟩) := ⟨t31 S⟩
 have h29 : x.op = 29 → 0 < x.args.length := fun h => by rw [S.l29 h]; omega
 have e29 : Kp ((ho : x.op = 29) → jn (full (opWs gs fs x)) ⟨#[32]⟩ = (⟨#[115, 119, 105, 116, 99, 104, 32]⟩ ++ nmOf typesL (x.args[0]'(h29 ho)).t ++ ⟨#[32]⟩ ++ txO gs (x.args[0]'(h29 ho)) ++ ⟨#[44, 32]⟩) ++ jn (swL (x.args[0]'(h29 ho)).t x.bl x.ws x.ws.length) ⟨#[44, 32]⟩) := ⟨fun ho => t29 S ho (h29 ho)⟩
 obtain ⟨L, hL0⟩ : ∃ L, jn (full (opWs gs fs x)) ⟨#[32]⟩ = L := ⟨_, rfl⟩
 rw [hL0] at eA e15 e14 e16 e20 e21 e23 e30 e30e e25 e24 e27 e28 e31 e29 ⊢
 have W0e : ∃ W0, W0 = (w.alloc (Go.Obj.cells #[vg, .slice aF fs.length cF] 33)).alloc (inCel x (.slice aA x.args.length cA) (.slice aB x.bl.length cB) vw) := ⟨_, rfl⟩
 obtain ⟨W0, hW⟩ := W0e
 obtain ⟨B0, hx, hy⟩ := two w _ _ _ _ hW
 have zP := nmPr_len x.pr
 have zN := nmOp_len x.op
 have zT := nmTy_len x.ty
 have zS := dTx_len x.sz G.b.sz.a G.b.sz.b
 have zA : (jn (x.args.map (txO gs)) ⟨#[44, 32]⟩).size ≤ 2199023255552 := by
  have := jn_le_all (x.args.map (txO gs)) ⟨#[44, 32]⟩ 1048676 (fun a ha => by
   exact tl110)
  have e2 : (⟨#[44, 32]⟩ : ByteArray).size = 2 := rfl
  rw [e2, List.length_map] at this
  omega
 have hFirst : Kp (x.args ≠ [] → ∃ t0, ftTx x = nmOf typesL t0 ∧ (nmOf typesL t0).size ≤ 100 ∧ aA = some ⟨bA, oA, none⟩ ∧ 0 < x.args.length ∧ At W0 bA (oA + 1) (.int .i64 t0)) := ⟨fun hne => by
  have h0 : 0 < x.args.length := List.length_pos_iff.2 hne
  have d := (hqA 0 h0).c1
  rw [show oA + 0 * 4 + 1 = oA + 1 by omega] at d
  exact ⟨x.args[0].t, ftTx_at x h0, nmTy_len _, s2 h0, h0, at_keep d B0⟩⟩
 have hBl : Kp (∀ k (hk : k < x.bl.length), aB = some ⟨bB, oB, none⟩ ∧ At W0 bB (oB + k) (.int .i64 (x.bl.getD k 0)) ∧ (dTx (x.bl.getD k 0)).size ≤ 100 ∧ -9223372036854775808 ≤ x.bl.getD k 0 ∧ x.bl.getD k 0 ≤ 9223372036854775807) := ⟨fun k hk => by
  have e : x.bl.getD k 0 = x.bl[k] := by simp [List.getD_eq_getElem?_getD, hk]
  have b := hIb _ (List.getElem_mem hk)
  rw [e]
  exact ⟨u2 (by omega), at_keep (hqB k hk) B0, dTx_len _ b.1 b.2, b.1, b.2⟩⟩
 have hCal : Kp (x.op = 25 → ∃ c : Nat, x.ca = c ∧ c < fs.length ∧ aF = some ⟨bF, oF, none⟩ ∧ (calD fs x.ca).name.size ≤ 1048576 ∧ At W0 bF (oF + c * 5) (.string (calD fs x.ca).name)) := ⟨fun ho => by
  obtain ⟨c, hca, hc⟩ := G.ca ho
  obtain ⟨vp, vb', q⟩ := hq c hc
  have e : (calD fs x.ca).name = fs[c].name := by rw [hca]; simp [calD, hc]
  rw [e]
  refine ⟨c, hca, hc, t2 (by omega), ?_, at_keep q.c0 B0⟩
  exact tl80⟩
 have CN := Kp.mk (OpNameS x.op W0)
 have CA : Kp (∀ W, Below W0.heap.size W0 W → Calls Tryz.prog 114 #[.agg #[vg, .slice aF fs.length cF], .slice aA x.args.length cA] W fun e w' => e = .returned (.string (jn (x.args.map (txO gs)) ⟨#[44, 32]⟩)) ∧ Below W.heap.size W w') := ⟨fun W hB => l3ArgsS gs fs vg _ _ x.args W ((hM.keep B0).keep hB) ((h.keep B0).keep hB) G.b.a (by omega) hm⟩
 have CT := Kp.mk (fun W => TypeNameS x.ty W)
 have CP := Kp.mk (fun W => PredNameS x.pr W)
 have CS := Kp.mk (fun W => l3I x.sz W G.b.sz.a G.b.sz.b)
 have CPh : Kp (x.op = 20 → ∀ W, Below W0.heap.size W0 W → Calls Tryz.prog 116 #[.agg #[vg, .slice aF fs.length cF], inVal x (.slice aA x.args.length cA) (.slice aB x.bl.length cB) vw] W fun e w' => e = .returned (.string ((⟨#[112, 104, 105, 32]⟩ ++ nmOf typesL x.ty ++ ⟨#[32]⟩) ++ jn (phL gs x) ⟨#[44, 32]⟩)) ∧ Below W.heap.size W w') := ⟨fun ho W hB => l3PhiS gs fs vg _ x _ _ vw W ((hM.keep B0).keep hB) ((h.keep B0).keep hB) ((hI.keep B0).keep hB) G.b.a hIb (by omega) (G.ph ho) hm⟩
 have CSw : Kp (x.op = 29 → ∀ W, Below W0.heap.size W0 W → Calls Tryz.prog 117 #[.agg #[vg, .slice aF fs.length cF], inVal x (.slice aA x.args.length cA) (.slice aB x.bl.length cB) vw] W fun e w' => e = .returned (.string L) ∧ Below W.heap.size W w') := ⟨fun ho W hB => by
  rw [e29.out ho]
  exact l3SwitchS gs fs vg _ x _ _ vw W ((hM.keep B0).keep hB) ((h.keep B0).keep hB) ((hI.keep B0).keep hB) ((hJ.keep B0).keep hB) (h29 ho) G.b.a hIb G.b.c (by omega) (by omega) (G.sw ho).2 hm⟩
 obtain ⟨jA, hjA⟩ : ∃ jA, jn (x.args.map (txO gs)) ⟨#[44, 32]⟩ = jA := ⟨_, rfl⟩
 rw [hjA] at zA CA eA e15 e14 e16 e23 e30 e25 e24 e28
 obtain ⟨nm, hnm⟩ : ∃ nm, nmOf opsL x.op = nm := ⟨_, rfl⟩
 rw [hnm] at zN CN eA e15 e16 e24
 obtain ⟨rs, hrs⟩ : ∃ rs, nmOf typesL x.ty = rs := ⟨_, rfl⟩
 rw [hrs] at zT CT CPh eA e15 e16 e20 e25
 obtain ⟨pn, hpn⟩ : ∃ pn, nmOf predsL x.pr = pn := ⟨_, rfl⟩
 rw [hpn] at zP CP e14
 obtain ⟨ft, hft⟩ : ∃ ft, ftTx x = ft := ⟨_, rfl⟩
 rw [hft] at hFirst e14 e16 e23 e30
 obtain ⟨cn, hcn⟩ : ∃ cn, (calD fs x.ca).name = cn := ⟨_, rfl⟩
 rw [hcn] at hCal e25
 obtain ⟨ph, hph⟩ : ∃ ph, (⟨#[112, 104, 105, 32]⟩ ++ rs ++ ⟨#[32]⟩) ++ jn (phL gs x) ⟨#[44, 32]⟩ = ph := ⟨_, rfl⟩
 rw [hph] at CPh e20
 have hDS : (⟨(itoa x.sz).toArray⟩ : ByteArray) = dTx x.sz := rfl
 rw [hDS] at CS
 obtain ⟨st, hst⟩ : ∃ st, dTx x.sz = st := ⟨_, rfl⟩
 rw [hst] at zS CS e21
 have hlo := S.lo
 have hhi := S.hi
 have h19 := S.n19
 have hne := Kp.mk S.ne
 have hb1 := Kp.mk S.b1
 have hb2' := Kp.mk S.b2
 have hargs : Kp (x.args = [] → x.args.length = 0) := ⟨fun h => by rw [h]; rfl⟩
 obtain ⟨op, ty, fl, pr, ca, sz, args, bl, ws⟩ := x
 dsimp only at *
 have SK : Kp (∀ W, Below W0.heap.size W0 W → At W (w.heap.size) 0 (vg) ∧ At W (w.heap.size) 1 (.slice aF fs.length cF) ∧ At W (w.heap.size + 1) 0 (.int .i64 op) ∧ At W (w.heap.size + 1) 1 (.int .i64 ty) ∧ At W (w.heap.size + 1) 2 (.int .i64 fl) ∧ At W (w.heap.size + 1) 3 (.int .i64 pr) ∧ At W (w.heap.size + 1) 4 (.int .i64 ca) ∧ At W (w.heap.size + 1) 5 (.int .i64 sz) ∧ At W (w.heap.size + 1) 6 (.slice aA args.length cA) ∧ At W (w.heap.size + 1) 7 (.slice aB bl.length cB) ∧ At W (w.heap.size + 1) 8 (vw)) := ⟨fun W hB => ⟨at_keep (hx 0 _ rfl) hB, at_keep (hx 1 _ rfl) hB, at_keep (hy 0 _ rfl) hB, at_keep (hy 1 _ rfl) hB, at_keep (hy 2 _ rfl) hB, at_keep (hy 3 _ rfl) hB, at_keep (hy 4 _ rfl) hB, at_keep (hy 5 _ rfl) hB, at_keep (hy 6 _ rfl) hB, at_keep (hy 7 _ rfl) hB, at_keep (hy 8 _ rfl) hB⟩⟩
 clear hM h hI hJ G S hx hy hL0 hjA hnm hrs hpn hft hcn hph hst hDS h29 e29 hq hqA hqB hIb t1 t2 t3 s1 s2 u1 u2 hn hm
 replace hW := Kp.mk hW
 obtain ⟨m0, m1, c0, c1, c2, c3, c4, c5, c6, c7, c8⟩ := SK.out W0 (Below.refl _ _)
 go_enter Tryz.func63, Tryz.ntmps63
 go_upto_region 1 with fail
 rw [← hW.out]
 go_wp2_with fail
 refine CN.out.mono ?_
 rintro e w1 ⟨rfl, hb1x⟩
 clear m0 m1 c0 c1 c2 c3 c4 c5 c6 c7 c8
 obtain ⟨m0, m1, c0, c1, c2, c3, c4, c5, c6, c7, c8⟩ := SK.out w1 hb1x
 go_wp2_with fail
 refine (CA.out _ hb1x).mono ?_
 rintro e w2 ⟨rfl, hb2x⟩
 have hB := bel_trans hb1x hb2x
 clear m0 m1 c0 c1 c2 c3 c4 c5 c6 c7 c8 hb1x hb2x
 obtain ⟨m0, m1, c0, c1, c2, c3, c4, c5, c6, c7, c8⟩ := SK.out w2 hB
 clear CN CA SK hW
 by_cases hA : op ≤ 13
 ·have e := eA.out hA
  cases e1 : (bits BinOp.and IntKind.i64 fl 2 != 0) <;> cases e2 : (bits BinOp.and IntKind.i64 fl 1 != 0) <;> cases e4 : (bits BinOp.and IntKind.i64 fl 4 != 0)
  all_goals
   rw [e1, e2, e4] at e
   simp only [nmf, Bool.not_true, Bool.not_false, if_true, if_false, ite_true, ite_false, Bool.false_eq_true, reduceIte] at e
   obtain rfl := e
   as_aux_lemma =>
    go_wp2_with fail
    refine (CT.out _).mono ?_
    rintro e w3 ⟨rfl, hb3⟩
    go_wp2_with fail
    go_ret
    exact ⟨rfl, bel_trans B0 (bel_trans hB hb3)⟩
 by_cases h15 : op = 15 ∨ op = 22
 ·rcases h15 with rfl | rfl
  all_goals
   obtain rfl := e15.out (by decide)
   as_aux_lemma =>
    go_wp2_with fail
    refine (CT.out _).mono ?_
    rintro e w3 ⟨rfl, hb3⟩
    go_wp2_with fail
    go_ret
    exact ⟨rfl, bel_trans B0 (bel_trans hB hb3)⟩
 by_cases h14 : op = 14
 ·subst h14
  obtain rfl := e14.out rfl
  obtain ⟨t0, hf, z0, ha, hl0, d1⟩ := hFirst.out (hne.out (by decide) (by decide) (by decide) (by decide) (by decide))
  replace d1 := at_keep d1 hB
  subst ha
  have hlt : ((0 : Int)) < (args.length : Int) := by omega
  rw [← hf] at z0
  have CF : Kp (∀ W, Calls Tryz.prog 74 #[.int .i64 t0] W fun e w' => e = .returned (.string ft) ∧ Below W.heap.size W w') := ⟨fun W => by rw [hf]; exact TypeNameS t0 W⟩
  clear hf
  have QP : Kp (∀ d os, Calls Tryz.prog 115 _ (Go.Sort.grow (redrawn w2 d) os) _) := ⟨fun d os => Calls.regrown_of (CP.out (Go.Sort.grow (redrawn w2 d) os))⟩
  have QF : Kp (∀ d os, Calls Tryz.prog 74 _ (Go.Sort.grow (redrawn w2 d) os) _) := ⟨fun d os => Calls.regrown_of (CF.out (Go.Sort.grow (redrawn w2 d) os))⟩
  as_aux_lemma =>
   go_upto_region 12 with fail
   have rc3 := cell_regrown c3
   have rc6 := cell_regrown c6
   have rd1 := cell_regrown d1
   refine wp_region_quiet_below (by kernel_rfl) (by kernel_rfl) ?_
   repeat (go_big_quiet_step (fail))
   go_big_quiet_step (exact QP.out _ _)
   repeat (go_big_quiet_step (fail))
   go_big_quiet_step (exact QF.out _ _)
   exact tl41
 by_cases h16 : op = 16 ∨ op = 17 ∨ op = 18
 ·have hx := hne.out (by omega) (by omega) (by omega) (by omega) (by omega)
  obtain ⟨t0, hf, z0, ha, hl0, d1⟩ := hFirst.out hx
  replace d1 := at_keep d1 hB
  subst ha
  have hlt : ((0 : Int)) < (args.length : Int) := by omega
  rw [← hf] at z0
  have CF : Kp (∀ W, Calls Tryz.prog 74 #[.int .i64 t0] W fun e w' => e = .returned (.string ft) ∧ Below W.heap.size W w') := ⟨fun W => by rw [hf]; exact TypeNameS t0 W⟩
  clear hf
  have QT : Kp (∀ d os, Calls Tryz.prog 74 _ (Go.Sort.grow (redrawn w2 d) os) _) := ⟨fun d os => Calls.regrown_of (CT.out (Go.Sort.grow (redrawn w2 d) os))⟩
  have QF : Kp (∀ d os, Calls Tryz.prog 74 _ (Go.Sort.grow (redrawn w2 d) os) _) := ⟨fun d os => Calls.regrown_of (CF.out (Go.Sort.grow (redrawn w2 d) os))⟩
  rcases h16 with rfl | rfl | rfl
  all_goals
   obtain rfl := e16.out (by decide)
   as_aux_lemma =>
    go_upto_region 17 with fail
    have rc1 := cell_regrown c1
    have rc6 := cell_regrown c6
    have rd1 := cell_regrown d1
    refine wp_region_quiet_below (by kernel_rfl) (by kernel_rfl) ?_
    repeat (go_big_quiet_step (fail))
    go_big_quiet_step (exact QF.out _ _)
    repeat (go_big_quiet_step (fail))
    go_big_quiet_step (exact QT.out _ _)
    repeat (go_big_quiet_step (fail))
    refine wpQuiet_nil ?_
    intro _ hw'
    obtain ⟨⟨dq, osq⟩, hw''⟩ := hw'
    subst hw''
    have hb4 := below_regrown w2 dq osq
    generalize Go.Sort.grow (redrawn w2 dq) osq = V at *
    go_wp2_with fail
    go_ret
    exact ⟨rfl, bel_trans B0 (bel_trans hB hb4)⟩
 by_cases h20 : op = 20
 ·subst h20
  obtain rfl := e20.out rfl
  as_aux_lemma =>
   go_wp2_with fail
   refine (CPh.out (by simp) _ hB).mono ?_
   rintro e w3 ⟨rfl, hb3⟩
   exact tl48
 by_cases h21 : op = 21
 ·subst h21
  obtain rfl := e21.out rfl
  as_aux_lemma =>
   go_wp2_with fail
   refine (CS.out _).mono ?_
   rintro e w3 ⟨rfl, hb3⟩
   exact tl48
 by_cases h23 : op = 23
 ·subst h23
  obtain rfl := e23.out rfl
  obtain ⟨t0, hf, z0, ha, hl0, d1⟩ := hFirst.out (hne.out (by decide) (by decide) (by decide) (by decide) (by decide))
  replace d1 := at_keep d1 hB
  subst ha
  have hlt : ((0 : Int)) < (args.length : Int) := by omega
  rw [← hf] at z0
  have CF : Kp (∀ W, Calls Tryz.prog 74 #[.int .i64 t0] W fun e w' => e = .returned (.string ft) ∧ Below W.heap.size W w') := ⟨fun W => by rw [hf]; exact TypeNameS t0 W⟩
  clear hf
  as_aux_lemma =>
   exact tl162
 by_cases h25 : op = 25
 ·subst h25
  obtain rfl := e25.out rfl
  obtain ⟨c, rfl, hc, ha, zc, d0⟩ := hCal.out rfl
  replace d0 := at_keep d0 hB
  subst ha
  have hlt : ((c : Int)) < (fs.length : Int) := by omega
  generalize fs.length = nf at *
  have QT : Kp (∀ d os, Calls Tryz.prog 74 _ (Go.Sort.grow (redrawn w2 d) os) _) := ⟨fun d os => Calls.regrown_of (CT.out (Go.Sort.grow (redrawn w2 d) os))⟩
  as_aux_lemma =>
   go_upto_region 25 with fail
   have rm1 := cell_regrown m1
   have rc1 := cell_regrown c1
   have rc4 := cell_regrown c4
   have rd0 := cell_regrown d0
   refine wp_region_quiet_below (by kernel_rfl) (by kernel_rfl) ?_
   repeat (go_big_quiet_step (fail))
   go_big_quiet_step (exact QT.out _ _)
   exact tl41
 by_cases h27 : op = 27
 ·subst h27
  have hbl := hb1.out (by simp)
  have e := e27.out rfl
  obtain ⟨ha0, d0, z0, y0, y0'⟩ := hBl.out 0 (by omega)
  replace d0 := at_keep d0 hB
  rw [Nat.add_zero] at d0
  obtain ⟨b0, hb0n⟩ : ∃ b, bl.getD 0 0 = b := ⟨_, rfl⟩
  rw [hb0n] at d0 z0 y0 y0' e
  have CI : Kp (∀ W, Calls Tryz.prog 37 #[.int .i64 b0] W fun e w' => e = .returned (.string (dTx b0)) ∧ Below W.heap.size W w') := ⟨fun W => l3I b0 W y0 y0'⟩
  generalize dTx b0 = s0 at *
  obtain rfl := e
  subst ha0
  have hlt : ((0 : Int)) < (bl.length : Int) := by omega
  clear hbl hb0n
  as_aux_lemma =>
   go_wp2_with fail
   refine (CI.out _).mono ?_
   rintro e w3 ⟨rfl, hb3⟩
   exact tl48
 by_cases h28 : op = 28
 ·subst h28
  have hbl := hb2'.out (by simp)
  have e := e28.out rfl
  obtain ⟨ha0, d0, z0, y0, y0'⟩ := hBl.out 0 (by omega)
  replace d0 := at_keep d0 hB
  rw [Nat.add_zero] at d0
  obtain ⟨b0, hb0n⟩ : ∃ b, bl.getD 0 0 = b := ⟨_, rfl⟩
  obtain ⟨ha1, d1, z1, y1, y1'⟩ := hBl.out 1 (by omega)
  replace d1 := at_keep d1 hB
  obtain ⟨b1, hb1n⟩ : ∃ b, bl.getD 1 0 = b := ⟨_, rfl⟩
  rw [hb0n] at d0 z0 y0 y0' e
  rw [hb1n] at d1 z1 y1 y1' e
  have QI : Kp (∀ d os, Calls Tryz.prog 37 #[.int .i64 b0] (Go.Sort.grow (redrawn w2 d) os) _) := ⟨fun d os => Calls.regrown_of (l3I b0 (Go.Sort.grow (redrawn w2 d) os) y0 y0')⟩
  have QJ : Kp (∀ d os, Calls Tryz.prog 37 #[.int .i64 b1] (Go.Sort.grow (redrawn w2 d) os) _) := ⟨fun d os => Calls.regrown_of (l3I b1 (Go.Sort.grow (redrawn w2 d) os) y1 y1')⟩
  have es0 : (⟨(itoa b0).toArray⟩ : ByteArray) = dTx b0 := rfl
  have es1 : (⟨(itoa b1).toArray⟩ : ByteArray) = dTx b1 := rfl
  rw [es0] at QI
  rw [es1] at QJ
  clear es0 es1
  generalize dTx b0 = s0 at *
  generalize dTx b1 = s1 at *
  obtain rfl := e
  subst ha0
  have hlt : ((0 : Int)) < (bl.length : Int) := by omega
  have hlt1 : ((1 : Int)) < (bl.length : Int) := by omega
  clear hbl hb0n hb1n ha1
  as_aux_lemma =>
   go_upto_region 29 with fail
   have rc7 := cell_regrown c7
   have rd0 := cell_regrown d0
   have rd1 := cell_regrown d1
   refine wp_region_quiet_below (by kernel_rfl) (by kernel_rfl) ?_
   repeat (go_big_quiet_step (fail))
   go_big_quiet_step (exact QI.out _ _)
   repeat (go_big_quiet_step (fail))
   go_big_quiet_step (exact QJ.out _ _)
   exact tl41
 by_cases h29 : op = 29
 ·subst h29
  as_aux_lemma =>
   go_wp2_with fail
   refine (CSw.out (by simp) _ hB).mono ?_
   rintro e w3 ⟨rfl, hb3⟩
   exact tl48
 by_cases h30 : op = 30
 ·subst h30
  by_cases hz : args = []
  ·obtain rfl := e30e.out ⟨rfl, hz⟩
   have hl0 := hargs.out hz
   rw [hl0] at c6
   clear hz hl0
   as_aux_lemma =>
    go_wp2_with fail
    go_ret
    exact ⟨rfl, bel_trans B0 hB⟩
  ·obtain rfl := e30.out ⟨rfl, hz⟩
   obtain ⟨t0, hf, z0, ha, hl0, d1⟩ := hFirst.out hz
   replace d1 := at_keep d1 hB
   subst ha
   have hlt : ((0 : Int)) < (args.length : Int) := by omega
   rw [← hf] at z0
   have CF : Kp (∀ W, Calls Tryz.prog 74 #[.int .i64 t0] W fun e w' => e = .returned (.string ft) ∧ Below W.heap.size W w') := ⟨fun W => by rw [hf]; exact TypeNameS t0 W⟩
   clear hf
   have hnz : (((args.length : Int)) == 0) = false := beq_false_of_ne (by omega)
   as_aux_lemma =>
    exact tl162
 by_cases h31 : op = 31
 ·subst h31
  obtain rfl := e31.out rfl
  as_aux_lemma =>
   go_wp2_with fail
   go_ret
   exact ⟨rfl, bel_trans B0 hB⟩
 have h24 : op = 24 ∨ op = 26 := by omega
 rcases h24 with rfl | rfl
 all_goals
  obtain rfl := e24.out (by decide)
  as_aux_lemma =>
   go_wp2_with fail
   go_ret
   exact ⟨rfl, bel_trans B0 hB⟩
end Go.Proofs.YtgdcgjlmkmdklaaGreatDoor
