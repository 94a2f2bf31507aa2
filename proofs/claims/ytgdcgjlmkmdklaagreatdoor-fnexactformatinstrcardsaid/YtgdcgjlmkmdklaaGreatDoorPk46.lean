/- Texts of one claim. -/
import Derived.Test.YtgdcgjlmkmdklaaGreatDoorPk0
import Derived.Test.YtgdcgjlmkmdklaaGreatDoorPk45
import Derived.Test.YtgdcgjlmkmdklaaGreatDoorPk29
namespace Go.Proofs.YtgdcgjlmkmdklaaGreatDoor
open Go.ChangeShapes Go.WideShapes Go.ChangeAt Go.RowKit
open Go.Lib
set_option linter.unusedVariables false
set_option linter.unusedSimpArgs false
set_option maxRecDepth 100000 in
set_option maxHeartbeats 4000000 in
theorem operationI (gs : List GlD) (fs : List FnD) (vg vf : Value) (vs : List Value) (x : InD) (va vb vw : Value) (w : World) {lo l2 : Nat} (hM : MoAt l2 w gs fs vg vf) (hV : Voc w vs) (hF : FlO w) (h : Ops lo w va x.args) (hI : Ints lo .i64 w vb x.bl) (hJ : Ints lo .u64 w vw x.ws) (hL : Lt w) (G : InG fs x) (hm : moN gs fs ≤ 1048576) :
  Calls Tryz.prog 69 #[wrVal vs vg vf, inVal x va vb vw] w fun e w' => e = .returned (.string (jn (full (opWs gs fs x)) ⟨#[32]⟩)) ∧ Below w.heap.size w w' := by
 obtain ⟨a1, b1, a2, b2, a3, b3, a4, b4, a5, b5, rfl, N1, N2, N3, -, -⟩ := hV.ex
 obtain ⟨bF, oF, ⟨⟨aF, cF, rfl, t1, t2⟩, t3⟩, -, hq⟩ := hM.f.ex
 have L14 : Kp (x.op = 14 → opWs gs fs x = [nmOf opsL x.op, nmOf predsL x.pr, ftTx x, jn (x.args.map (txO gs)) ⟨#[44, 32]⟩]) := ⟨fun h => by simp [opWs, h]⟩
 have L16 : Kp (x.op = 16 ∨ x.op = 17 ∨ x.op = 18 → opWs gs fs x = [nmOf opsL x.op, ftTx x, jn (x.args.map (txO gs)) ⟨#[44, 32]⟩, ⟨#[116, 111]⟩, nmOf typesL x.ty]) := ⟨fun h => by rcases h with h | h | h <;> simp [opWs, h]⟩
 have L20 : Kp (x.op = 20 → opWs gs fs x = [nmOf opsL x.op, nmOf typesL x.ty, jn (srL (x.args.map (txO gs)) x.bl (x.args.map (txO gs)).length) ⟨#[44, 32]⟩]) := ⟨fun h => by simp [opWs, h]⟩
 have L21 : Kp (x.op = 21 → opWs gs fs x = [nmOf opsL x.op, dTx x.sz]) := ⟨fun h => by simp [opWs, h]⟩
 have L23 : Kp (x.op = 23 ∨ x.op = 30 → opWs gs fs x = [nmOf opsL x.op, ftTx x, jn (x.args.map (txO gs)) ⟨#[44, 32]⟩]) := ⟨fun h => by rcases h with h | h <;> simp [opWs, h]⟩
 have L25 : Kp (x.op = 25 → opWs gs fs x = [nmOf opsL x.op, nmOf typesL x.ty, ⟨#[64]⟩ ++ (calD fs x.ca).name ++ ⟨#[40]⟩ ++ jn (x.args.map (txO gs)) ⟨#[44, 32]⟩ ++ ⟨#[41]⟩]) := ⟨fun h => by simp [opWs, h]⟩
 have L29 : Kp (x.op = 29 → opWs gs fs x = [nmOf opsL x.op, ftTx x, jn (x.args.map (txO gs) ++ swL (x.args.getD 0 default).t x.bl x.ws x.ws.length) ⟨#[44, 32]⟩]) := ⟨fun h => by simp [opWs, h]⟩
 have L24 : Kp (x.op = 24 ∨ x.op = 26 ∨ x.op = 27 ∨ x.op = 28 ∨ x.op = 31 → opWs gs fs x = [nmOf opsL x.op, jn (x.args.map (txO gs) ++ x.bl.map dTx) ⟨#[44, 32]⟩]) := ⟨fun h => by rcases h with h | h | h | h | h <;> simp [opWs, h]⟩
 have L0 : Kp (¬ (x.op = 14 ∨ x.op = 16 ∨ x.op = 17 ∨ x.op = 18 ∨ x.op = 20 ∨ x.op = 21 ∨ x.op = 23 ∨ x.op = 30 ∨ x.op = 25 ∨ x.op = 29 ∨ x.op = 24 ∨ x.op = 26 ∨ x.op = 27 ∨ x.op = 28 ∨ x.op = 31) → opWs gs fs x = [nmOf opsL x.op, jn (full (flL x.fl 3)) ⟨#[32]⟩, nmOf typesL x.ty, jn (x.args.map (txO gs)) ⟨#[44, 32]⟩]) := ⟨fun h => by
  simp only [not_or] at h
  simp [opWs, h]⟩
 obtain ⟨L, hL0⟩ : ∃ L, opWs gs fs x = L := ⟨_, rfl⟩
 rw [hL0] at L14 L16 L20 L21 L23 L25 L29 L24 L0 ⊢
 clear hL0
 have G20 := Kp.mk G.ph
 have G25 := Kp.mk G.ca
 have G29 := Kp.mk G.sw
 have hIb : ∀ n ∈ x.bl, -9223372036854775808 ≤ n ∧ n ≤ 9223372036854775807 := fun n hn => ⟨(G.b.b n hn).a, (G.b.b n hn).b⟩
 have zN := nmOp_len x.op
 have zP := nmPr_len x.pr
 have zT := nmTy_len x.ty
 have zF := ftTx_len x
 have zS := dTx_len x.sz G.b.sz.a G.b.sz.b
 have zG := jn_small x.fl
 have hAz : ∀ a ∈ x.args.map (txO gs), a.size ≤ 1048676 := fun a ha => by
  exact tl110
 have hAl : (x.args.map (txO gs)).length = x.args.length := by simp
 have hBz : ∀ a ∈ x.bl.map dTx, a.size ≤ 100 := fun a ha => by
  obtain ⟨n, hn, rfl⟩ := List.mem_map.1 ha
  exact dTx_len n (hIb n hn).1 (hIb n hn).2
 have hBl : (x.bl.map dTx).length = x.bl.length := by simp
 have hn3 := G.n
 have hna : x.args.length ≤ 1048576 := by omega
 have hnb : x.bl.length ≤ 1048576 := by omega
 have hnw : x.ws.length ≤ 1048576 := by omega
 have W0e : ∃ W0, W0 = (w.alloc (Go.Obj.cells #[.map (some a1), .map (some b1), .map (some a2), .map (some b2), .map (some a3), .map (some b3), .map (some a4), .map (some b4), .map (some a5), .map (some b5), vg, .slice aF fs.length cF] 68)).alloc (inCel x va vb vw) := ⟨_, rfl⟩
 obtain ⟨W0, hW⟩ := W0e
 obtain ⟨B0, hx, hy⟩ := two w _ _ _ _ hW
 have CN : Kp (∀ W, Below W0.heap.size W0 W → Calls Tryz.prog 79 #[.agg #[.map (some a2), .map (some b2)], .int .i64 x.op] W fun e w' => e = .returned (.string (nmOf opsL x.op)) ∧ Below W.heap.size W w') := ⟨fun W hB => ((N2.keep B0).keep hB).asks _ _ G.wo⟩
 have CT : Kp (∀ W, Below W0.heap.size W0 W → Calls Tryz.prog 79 #[.agg #[.map (some a1), .map (some b1)], .int .i64 x.ty] W fun e w' => e = .returned (.string (nmOf typesL x.ty)) ∧ Below W.heap.size W w') := ⟨fun W hB => ((N1.keep B0).keep hB).asks _ _ G.wt⟩
 have CP : Kp (∀ W, Below W0.heap.size W0 W → Calls Tryz.prog 79 #[.agg #[.map (some a3), .map (some b3)], .int .i64 x.pr] W fun e w' => e = .returned (.string (nmOf predsL x.pr)) ∧ Below W.heap.size W w') := ⟨fun W hB => ((N3.keep B0).keep hB).asks _ _ G.wp⟩
 have CA : Kp (∀ W, Below W0.heap.size W0 W → Calls Tryz.prog 119 #[(.agg #[.map (some a1), .map (some b1), .map (some a2), .map (some b2), .map (some a3), .map (some b3), .map (some a4), .map (some b4), .map (some a5), .map (some b5), vg, .slice aF fs.length cF]), inVal x va vb vw] W fun e w' => ∃ v, e = .returned v ∧ OwnT w' W.heap.size v (x.args.map (txO gs)) ∧ Below W.heap.size W w') := ⟨fun W hB => argsI gs fs vg (.slice aF fs.length cF) [.map (some a1), .map (some b1), .map (some a2), .map (some b2), .map (some a3), .map (some b3), .map (some a4), .map (some b4), .map (some a5), .map (some b5)] x va vb vw W ((hM.keep B0).keep hB) ((hV.keep B0).keep hB) ((h.keep B0).keep hB) ((hL.below B0).below hB) G.b.a hna hm⟩
 have CF : Kp (∀ W, Below W0.heap.size W0 W → Calls Tryz.prog 120 #[(.agg #[.map (some a1), .map (some b1), .map (some a2), .map (some b2), .map (some a3), .map (some b3), .map (some a4), .map (some b4), .map (some a5), .map (some b5), vg, .slice aF fs.length cF]), inVal x va vb vw] W fun e w' => e = .returned (.string (ftTx x)) ∧ Below W.heap.size W w') := ⟨fun W hB => firstTyI vg (.slice aF fs.length cF) [.map (some a1), .map (some b1), .map (some a2), .map (some b2), .map (some a3), .map (some b3), .map (some a4), .map (some b4), .map (some a5), .map (some b5)] x va vb vw W ((hV.keep B0).keep hB) ((h.keep B0).keep hB) G.wq hna⟩
 have CG : Kp (∀ W, Below W0.heap.size W0 W → Calls Tryz.prog 124 #[(.agg #[.map (some a1), .map (some b1), .map (some a2), .map (some b2), .map (some a3), .map (some b3), .map (some a4), .map (some b4), .map (some a5), .map (some b5), vg, .slice aF fs.length cF]), inVal x va vb vw] W fun e w' => e = .returned (.string (jn (full (flL x.fl 3)) ⟨#[32]⟩)) ∧ Below W.heap.size W w') := ⟨fun W hB => flagNamesI vg (.slice aF fs.length cF) [.map (some a1), .map (some b1), .map (some a2), .map (some b2), .map (some a3), .map (some b3), .map (some a4), .map (some b4), .map (some a5), .map (some b5)] x va vb vw W ((hV.keep B0).keep hB) ((hF.below B0).below hB)⟩
 have CD : Kp (∀ W, Below W0.heap.size W0 W → Calls Tryz.prog 70 #[.int .i64 x.sz] W fun e w' => e = .returned (.string (dTx x.sz)) ∧ Below W.heap.size W w') := ⟨fun W hB => decI _ W ((hL.below B0).below hB) G.b.sz.a G.b.sz.b⟩
 have CR : Kp (∀ W, Below W0.heap.size W0 W → Calls Tryz.prog 123 #[inVal x va vb vw] W fun e w' => ∃ v, e = .returned v ∧ OwnT w' W.heap.size v (x.bl.map dTx) ∧ Below W.heap.size W w') := ⟨fun W hB => targetsI x va vb vw W ((hI.keep B0).keep hB) ((hL.below B0).below hB) hIb hnb⟩
 have CS : Kp (x.op = 20 → ∀ W v, Below W0.heap.size W0 W → StL W v (x.args.map (txO gs)) → Calls Tryz.prog 121 #[inVal x va vb vw, v] W fun e w' => ∃ v', e = .returned v' ∧ OwnT w' W.heap.size v' (srL (x.args.map (txO gs)) x.bl (x.args.map (txO gs)).length) ∧ Below W.heap.size W w') := ⟨fun ho W v hB hv => sourcesI x va vb vw v _ W ((hI.keep B0).keep hB) hv ((hL.below B0).below hB) hIb (by rw [hAl]; omega) (by rw [hAl]; exact G.ph ho) (fun a ha => by have := hAz a ha; omega)⟩
 have CC : Kp (x.op = 29 → ∀ W, Below W0.heap.size W0 W → Calls Tryz.prog 122 #[inVal x va vb vw] W fun e w' => ∃ v, e = .returned v ∧ OwnT w' W.heap.size v (swL (x.args.getD 0 default).t x.bl x.ws x.ws.length) ∧ Below W.heap.size W w') := ⟨fun ho W hB => by
  have h0 := (G.sw ho).1
  have := casesI x va vb vw W ((h.keep B0).keep hB) ((hI.keep B0).keep hB) ((hJ.keep B0).keep hB) ((hL.below B0).below hB) h0 hIb G.b.c hna hnw (G.sw ho).2
  rw [show x.args[0] = x.args.getD 0 default by simp [List.getD_eq_getElem?_getD, h0]] at this
  exact this⟩
 have zR : Kp (∀ a ∈ srL (x.args.map (txO gs)) x.bl (x.args.map (txO gs)).length, a.size ≤ 1048900) := ⟨srL_sz _ _ hAz hIb⟩
 have zW : Kp (∀ a ∈ swL (x.args.getD 0 default).t x.bl x.ws x.ws.length, a.size ≤ 300) := ⟨swL_sz _ _ _ _ hIb⟩
 have lR : (srL (x.args.map (txO gs)) x.bl (x.args.map (txO gs)).length).length = x.args.length := by rw [srL_len, hAl]
 have lW : (swL (x.args.getD 0 default).t x.bl x.ws x.ws.length).length = x.ws.length + 1 := swL_len _ _ _ _
 have hCal : Kp (x.op = 25 → ∃ c : Nat, x.ca = c ∧ c < fs.length ∧ (calD fs x.ca).name.size ≤ 1048576 ∧ At W0 bF (oF + c * 5) (.string (calD fs x.ca).name)) := ⟨fun ho => by
  obtain ⟨c, hca, hc⟩ := G.ca ho
  obtain ⟨vp, vb', q⟩ := hq c hc
  have e : (calD fs x.ca).name = fs[c].name := by rw [hca]; simp [calD, hc]
  rw [e]
  refine ⟨c, hca, hc, ?_, at_keep q.c0 B0⟩
  exact tl80⟩
 obtain ⟨cn, hcn⟩ : ∃ cn, (calD fs x.ca).name = cn := ⟨_, rfl⟩
 rw [hcn] at hCal L25
 obtain ⟨A, hA⟩ : ∃ A, x.args.map (txO gs) = A := ⟨_, rfl⟩
 obtain ⟨T, hT⟩ : ∃ T, x.bl.map dTx = T := ⟨_, rfl⟩
 rw [hA] at hAz hAl CA CS zR lR L14 L16 L20 L23 L25 L29 L24 L0
 rw [hT] at hBz hBl CR L24
 obtain ⟨R, hR⟩ : ∃ R, srL A x.bl A.length = R := ⟨_, rfl⟩
 rw [hR] at CS zR lR L20
 obtain ⟨U, hU⟩ : ∃ U, swL (x.args.getD 0 default).t x.bl x.ws x.ws.length = U := ⟨_, rfl⟩
 rw [hU] at CC zW lW L29
 obtain ⟨nm, hnm⟩ : ∃ nm, nmOf opsL x.op = nm := ⟨_, rfl⟩
 rw [hnm] at CN zN L14 L16 L20 L21 L23 L25 L29 L24 L0
 obtain ⟨pn, hpn⟩ : ∃ pn, nmOf predsL x.pr = pn := ⟨_, rfl⟩
 rw [hpn] at CP zP L14
 obtain ⟨rs, hrs⟩ : ∃ rs, nmOf typesL x.ty = rs := ⟨_, rfl⟩
 rw [hrs] at CT zT L16 L20 L25 L0
 obtain ⟨ft, hft⟩ : ∃ ft, ftTx x = ft := ⟨_, rfl⟩
 rw [hft] at CF zF L14 L16 L23 L29
 obtain ⟨st, hst⟩ : ∃ st, dTx x.sz = st := ⟨_, rfl⟩
 rw [hst] at CD zS L21
 obtain ⟨gt, hgt⟩ : ∃ gt, jn (full (flL x.fl 3)) ⟨#[32]⟩ = gt := ⟨_, rfl⟩
 rw [hgt] at CG zG L0
 have zA : (jn A ⟨#[44, 32]⟩).size ≤ 1048678 * A.length := jn_le_all A _ 1048676 hAz
 have zR2 : (jn R ⟨#[44, 32]⟩).size ≤ 1048902 * R.length := jn_le_all R _ 1048900 zR.out
 have zAT : (jn (A ++ T) ⟨#[44, 32]⟩).size ≤ 1048678 * (A ++ T).length := jn_le_all _ _ 1048676 (fun a ha => by rcases List.mem_append.1 ha with h | h; exact hAz a h; have := hBz a h; omega)
 have zAU : (jn (A ++ U) ⟨#[44, 32]⟩).size ≤ 1048678 * (A ++ U).length := jn_le_all _ _ 1048676 (fun a ha => by rcases List.mem_append.1 ha with h | h; exact hAz a h; have := zW.out a h; omega)
 rw [List.length_append] at zAT zAU
 have sA : StLs A := ⟨by omega, by omega⟩
 have sR : StLs R := ⟨by omega, by omega⟩
 have sAT : StLs (A ++ T) := ⟨by rw [List.length_append]; omega, by omega⟩
 have sAU : StLs (A ++ U) := ⟨by rw [List.length_append]; omega, by omega⟩
 have pT : Kp (∀ W v v2, OwnT W W0.heap.size v A → StL W v2 T → W0.heap.size ≤ W.heap.size → ∃ v' w', (Builtin.append_ #[122, 122] 122 #[v, v2]).run Tryz.prog W = .ok v' w' ∧ OwnT w' W0.heap.size v' (A ++ T) ∧ (∀ w0, Below W0.heap.size w0 W → Below W0.heap.size w0 w')) := ⟨fun W v v2 h1 h2 h3 => by
  exact tl129⟩
 have pU : Kp (∀ W v v2, OwnT W W0.heap.size v A → StL W v2 U → W0.heap.size ≤ W.heap.size → ∃ v' w', (Builtin.append_ #[122, 122] 122 #[v, v2]).run Tryz.prog W = .ok v' w' ∧ OwnT w' W0.heap.size v' (A ++ U) ∧ (∀ w0, Below W0.heap.size w0 W → Below W0.heap.size w0 w')) := ⟨fun W v v2 h1 h2 h3 => by
  exact tl129⟩
 clear zAT zAU
 obtain ⟨AT, hAT⟩ : ∃ AT, A ++ T = AT := ⟨_, rfl⟩
 rw [hAT] at L24 sAT pT
 obtain ⟨AU, hAU⟩ : ∃ AU, A ++ U = AU := ⟨_, rfl⟩
 rw [hAU] at L29 sAU pU
 obtain ⟨cw, hcw⟩ : ∃ cw, (⟨#[64]⟩ : ByteArray) ++ cn ++ ⟨#[40]⟩ ++ jn A ⟨#[44, 32]⟩ ++ ⟨#[41]⟩ = cw := ⟨_, rfl⟩
 rw [hcw] at L25
 have zC : Kp (cn.size ≤ 1048576 → cw.size ≤ 8796093022208) := ⟨fun h => by
  rw [← hcw]
  simp only [ByteArray.size_append]
  have e1 : (⟨#[64]⟩ : ByteArray).size = 1 := rfl
  have e2 : (⟨#[40]⟩ : ByteArray).size = 1 := rfl
  have e3 : (⟨#[41]⟩ : ByteArray).size = 1 := rfl
  have := sA.z
  omega⟩
 replace hcw := Kp.mk hcw
 obtain ⟨tw, htw⟩ : ∃ tw, (⟨#[116, 111]⟩ : ByteArray) = tw := ⟨_, rfl⟩
 rw [htw] at L16
 have zw : tw.size ≤ 100 := by rw [← htw]; decide
 replace htw := Kp.mk htw
 obtain ⟨op, ty, fl, pr, ca, sz, args, bl, ws⟩ := x
 dsimp only at *
 have SK : Kp (∀ W, Below W0.heap.size W0 W → (fun W' => Below W0.heap.size W0 W' ∧ W'.cell? ⟨w.heap.size, 0, none⟩ = some (.map (some a1)) ∧ W'.cell? ⟨w.heap.size, 1, none⟩ = some (.map (some b1)) ∧ W'.cell? ⟨w.heap.size, 2, none⟩ = some (.map (some a2)) ∧ W'.cell? ⟨w.heap.size, 3, none⟩ = some (.map (some b2)) ∧ W'.cell? ⟨w.heap.size, 4, none⟩ = some (.map (some a3)) ∧ W'.cell? ⟨w.heap.size, 5, none⟩ = some (.map (some b3)) ∧ W'.cell? ⟨w.heap.size, 6, none⟩ = some (.map (some a4)) ∧ W'.cell? ⟨w.heap.size, 7, none⟩ = some (.map (some b4)) ∧ W'.cell? ⟨w.heap.size, 8, none⟩ = some (.map (some a5)) ∧ W'.cell? ⟨w.heap.size, 9, none⟩ = some (.map (some b5)) ∧ W'.cell? ⟨w.heap.size, 10, none⟩ = some (vg) ∧ W'.cell? ⟨w.heap.size, 11, none⟩ = some (.slice aF fs.length cF) ∧ W'.cell? ⟨w.heap.size + 1, 0, none⟩ = some (.int .i64 op) ∧ W'.cell? ⟨w.heap.size + 1, 1, none⟩ = some (.int .i64 ty) ∧ W'.cell? ⟨w.heap.size + 1, 2, none⟩ = some (.int .i64 fl) ∧ W'.cell? ⟨w.heap.size + 1, 3, none⟩ = some (.int .i64 pr) ∧ W'.cell? ⟨w.heap.size + 1, 4, none⟩ = some (.int .i64 ca) ∧ W'.cell? ⟨w.heap.size + 1, 5, none⟩ = some (.int .i64 sz) ∧ W'.cell? ⟨w.heap.size + 1, 6, none⟩ = some (va) ∧ W'.cell? ⟨w.heap.size + 1, 7, none⟩ = some (vb) ∧ W'.cell? ⟨w.heap.size + 1, 8, none⟩ = some (vw)) W) := ⟨fun W hB => ⟨hB, at_keep (hx 0 _ rfl) hB, at_keep (hx 1 _ rfl) hB, at_keep (hx 2 _ rfl) hB, at_keep (hx 3 _ rfl) hB, at_keep (hx 4 _ rfl) hB, at_keep (hx 5 _ rfl) hB, at_keep (hx 6 _ rfl) hB, at_keep (hx 7 _ rfl) hB, at_keep (hx 8 _ rfl) hB, at_keep (hx 9 _ rfl) hB, at_keep (hx 10 _ rfl) hB, at_keep (hx 11 _ rfl) hB, at_keep (hy 0 _ rfl) hB, at_keep (hy 1 _ rfl) hB, at_keep (hy 2 _ rfl) hB, at_keep (hy 3 _ rfl) hB, at_keep (hy 4 _ rfl) hB, at_keep (hy 5 _ rfl) hB, at_keep (hy 6 _ rfl) hB, at_keep (hy 7 _ rfl) hB, at_keep (hy 8 _ rfl) hB⟩⟩
 clear zA zR2 hAz hBz zR zW hAl hBl lR lW hIb hm hM hV hF h hI hJ hL N1 N2 N3 hx hy hA hT hR hU hAT hAU hcn hnm hpn hrs hft hst hgt G t1 t3 hq hna hnb hnw hn3 G20 G25 G29
 replace t2 := Kp.mk t2
 replace hW := Kp.mk hW
 replace sA := Kp.mk sA
 replace sR := Kp.mk sR
 replace sAT := Kp.mk sAT
 replace sAU := Kp.mk sAU
 have RH : Kp (∀ wc, Below W0.heap.size W0 wc → ∀ {ops : Array Oper} {Q : Exit → Act → World → Prop} {id : Nat} {a : Act}, Tryz.prog.follows .mixedOrders = true → ((fun W' => Below W0.heap.size W0 W' ∧ W'.cell? ⟨w.heap.size, 0, none⟩ = some (.map (some a1)) ∧ W'.cell? ⟨w.heap.size, 1, none⟩ = some (.map (some b1)) ∧ W'.cell? ⟨w.heap.size, 2, none⟩ = some (.map (some a2)) ∧ W'.cell? ⟨w.heap.size, 3, none⟩ = some (.map (some b2)) ∧ W'.cell? ⟨w.heap.size, 4, none⟩ = some (.map (some a3)) ∧ W'.cell? ⟨w.heap.size, 5, none⟩ = some (.map (some b3)) ∧ W'.cell? ⟨w.heap.size, 6, none⟩ = some (.map (some a4)) ∧ W'.cell? ⟨w.heap.size, 7, none⟩ = some (.map (some b4)) ∧ W'.cell? ⟨w.heap.size, 8, none⟩ = some (.map (some a5)) ∧ W'.cell? ⟨w.heap.size, 9, none⟩ = some (.map (some b5)) ∧ W'.cell? ⟨w.heap.size, 10, none⟩ = some (vg) ∧ W'.cell? ⟨w.heap.size, 11, none⟩ = some (.slice aF fs.length cF) ∧ W'.cell? ⟨w.heap.size + 1, 0, none⟩ = some (.int .i64 op) ∧ W'.cell? ⟨w.heap.size + 1, 1, none⟩ = some (.int .i64 ty) ∧ W'.cell? ⟨w.heap.size + 1, 2, none⟩ = some (.int .i64 fl) ∧ W'.cell? ⟨w.heap.size + 1, 3, none⟩ = some (.int .i64 pr) ∧ W'.cell? ⟨w.heap.size + 1, 4, none⟩ = some (.int .i64 ca) ∧ W'.cell? ⟨w.heap.size + 1, 5, none⟩ = some (.int .i64 sz) ∧ W'.cell? ⟨w.heap.size + 1, 6, none⟩ = some (va) ∧ W'.cell? ⟨w.heap.size + 1, 7, none⟩ = some (vb) ∧ W'.cell? ⟨w.heap.size + 1, 8, none⟩ = some (vw)) wc.drew → wpAnyH Tryz.prog .any ops Q (fun W' => Below W0.heap.size W0 W' ∧ W'.cell? ⟨w.heap.size, 0, none⟩ = some (.map (some a1)) ∧ W'.cell? ⟨w.heap.size, 1, none⟩ = some (.map (some b1)) ∧ W'.cell? ⟨w.heap.size, 2, none⟩ = some (.map (some a2)) ∧ W'.cell? ⟨w.heap.size, 3, none⟩ = some (.map (some b2)) ∧ W'.cell? ⟨w.heap.size, 4, none⟩ = some (.map (some a3)) ∧ W'.cell? ⟨w.heap.size, 5, none⟩ = some (.map (some b3)) ∧ W'.cell? ⟨w.heap.size, 6, none⟩ = some (.map (some a4)) ∧ W'.cell? ⟨w.heap.size, 7, none⟩ = some (.map (some b4)) ∧ W'.cell? ⟨w.heap.size, 8, none⟩ = some (.map (some a5)) ∧ W'.cell? ⟨w.heap.size, 9, none⟩ = some (.map (some b5)) ∧ W'.cell? ⟨w.heap.size, 10, none⟩ = some (vg) ∧ W'.cell? ⟨w.heap.size, 11, none⟩ = some (.slice aF fs.length cF) ∧ W'.cell? ⟨w.heap.size + 1, 0, none⟩ = some (.int .i64 op) ∧ W'.cell? ⟨w.heap.size + 1, 1, none⟩ = some (.int .i64 ty) ∧ W'.cell? ⟨w.heap.size + 1, 2, none⟩ = some (.int .i64 fl) ∧ W'.cell? ⟨w.heap.size + 1, 3, none⟩ = some (.int .i64 pr) ∧ W'.cell? ⟨w.heap.size + 1, 4, none⟩ = some (.int .i64 ca) ∧ W'.cell? ⟨w.heap.size + 1, 5, none⟩ = some (.int .i64 sz) ∧ W'.cell? ⟨w.heap.size + 1, 6, none⟩ = some (va) ∧ W'.cell? ⟨w.heap.size + 1, 7, none⟩ = some (vb) ∧ W'.cell? ⟨w.heap.size + 1, 8, none⟩ = some (vw)) ops.size (Array.replicate ops.size false) a wc.drew) → (Code.region id ops true).wp Tryz.prog Q a wc) := ⟨fun wc hB {ops} {Q} {id} {a} hm h => wp_region_held_drew (P := Tryz.prog) (ops := ops) (Q := Q) (id := id) (a := a) (w := wc) (S := (fun W' => Below W0.heap.size W0 W' ∧ W'.cell? ⟨w.heap.size, 0, none⟩ = some (.map (some a1)) ∧ W'.cell? ⟨w.heap.size, 1, none⟩ = some (.map (some b1)) ∧ W'.cell? ⟨w.heap.size, 2, none⟩ = some (.map (some a2)) ∧ W'.cell? ⟨w.heap.size, 3, none⟩ = some (.map (some b2)) ∧ W'.cell? ⟨w.heap.size, 4, none⟩ = some (.map (some a3)) ∧ W'.cell? ⟨w.heap.size, 5, none⟩ = some (.map (some b3)) ∧ W'.cell? ⟨w.heap.size, 6, none⟩ = some (.map (some a4)) ∧ W'.cell? ⟨w.heap.size, 7, none⟩ = some (.map (some b4)) ∧ W'.cell? ⟨w.heap.size, 8, none⟩ = some (.map (some a5)) ∧ W'.cell? ⟨w.heap.size, 9, none⟩ = some (.map (some b5)) ∧ W'.cell? ⟨w.heap.size, 10, none⟩ = some (vg) ∧ W'.cell? ⟨w.heap.size, 11, none⟩ = some (.slice aF fs.length cF) ∧ W'.cell? ⟨w.heap.size + 1, 0, none⟩ = some (.int .i64 op) ∧ W'.cell? ⟨w.heap.size + 1, 1, none⟩ = some (.int .i64 ty) ∧ W'.cell? ⟨w.heap.size + 1, 2, none⟩ = some (.int .i64 fl) ∧ W'.cell? ⟨w.heap.size + 1, 3, none⟩ = some (.int .i64 pr) ∧ W'.cell? ⟨w.heap.size + 1, 4, none⟩ = some (.int .i64 ca) ∧ W'.cell? ⟨w.heap.size + 1, 5, none⟩ = some (.int .i64 sz) ∧ W'.cell? ⟨w.heap.size + 1, 6, none⟩ = some (va) ∧ W'.cell? ⟨w.heap.size + 1, 7, none⟩ = some (vb) ∧ W'.cell? ⟨w.heap.size + 1, 8, none⟩ = some (vw))) hm (SK.out _ (bel_trans hB (Below.refl _ _).drew)) h⟩
 go_enter Tryz.func69, Tryz.ntmps69
 go_upto_region 1 with fail
 rw [← hW.out]
 clear hW
 go_cut [5, 6, 7] from 8 to 22 (fun s5 s6 s7 wx => s5 = .string nm ∧ s6 = .string rs ∧ OwnT wx W0.heap.size s7 A ∧ Below W0.heap.size W0 wx)
 case first =>
  have hb0 : Below W0.heap.size W0 W0.drew := (Below.refl _ _).drew
  refine RH.out W0 (Below.refl _ _) (by kernel_rfl) (fun hHeld => ?_)
  refine tks 4 [0, 1, 2, 3] hHeld ?_
  try simp only [tkP]
  refine tks 4 [4, 6, 7, 8] hHeld ?_
  try simp only [tkP]
  refine tks 4 [9, 10, 12, 13] hHeld ?_
  try simp only [tkP]
  refine rdy 5 fun K hK => ?_
  go_simp
  refine (CN.out _ hb0).mono ?_
  rintro e w1 ⟨rfl, hb⟩
  have hb1 := bel_trans hb0 hb
  clear hb
  refine hK.out _ _ (SK.out _ hb1) (fun hHeld => ?_)
  clear hK K
  try simp only [tkP]
  refine rdy 11 fun K hK => ?_
  go_simp
  refine (CT.out _ hb1).mono ?_
  rintro e w2 ⟨rfl, hb⟩
  have hb2 := bel_trans hb1 hb
  clear hb
  refine hK.out _ _ (SK.out _ hb2) (fun hHeld => ?_)
  clear hK K
  try simp only [tkP]
  refine rdy 14 fun K hK => ?_
  go_simp
  refine (CA.out _ hb2).mono ?_
  rintro e w3 ⟨v7, rfl, hrow, hb⟩
  have hb3 := bel_trans hb2 hb
  clear hb
  obtain ⟨r7, k7, rfl⟩ := hrow.shape
  refine hK.out _ _ (SK.out _ hb3) (fun hHeld => ?_)
  clear hK K
  try simp only [tkP]
  refine tks 3 [15, 16, 17] hHeld ?_
  try simp only [tkP]
  refine wpAnyH_done (by kernel_rfl) ?_ _
  go_wp2_with fail
  go_meet
  exact ⟨rfl, rfl, hrow.low hb2.size, hb3⟩
 case rest =>
  obtain ⟨rfl, rfl, hrow, hB⟩ := hcut
  obtain ⟨r7, k7, rfl⟩ := hrow.shape
  obtain ⟨-, K0, K1, K2, K3, K4, K5, K6, K7, K8, K9, K10, K11, K12, K13, K14, K15, K16, K17, K18, K19, K20⟩ := SK.out wc hB
  by_cases h14 : op = 14
  ·subst h14
   obtain rfl := L14.out rfl
   have hc : Kp True := ⟨trivial⟩
   have zA := sA.out.z
   as_aux_lemma =>
    go_upto_region 4 with fail
    have hb0 : Below wc.heap.size wc wc.drew := (Below.refl _ _).drew
    refine RH.out wc hB (by kernel_rfl) (fun hHeld => ?_)
    refine tks 4 [0, 1, 2, 4] hHeld ?_
    try simp only [tkP]
    refine tks 4 [3, 5, 7, 8] hHeld ?_
    try simp only [tkP]
    refine tks 1 [10] hHeld ?_
    try simp only [tkP]
    refine rdy 6 fun K hK => ?_
    go_simp
    refine (CP.out _ (bel_trans hB hb0)).mono ?_
    rintro e w1 ⟨rfl, hb⟩
    have hb1 := bel_trans hb0 hb
    clear hb
    refine hK.out _ _ (SK.out _ (bel_trans hB hb1)) (fun hHeld => ?_)
    clear hK K
    try simp only [tkP]
    refine rdy 9 fun K hK => ?_
    go_simp
    refine (CF.out _ (bel_trans hB hb1)).mono ?_
    rintro e w2 ⟨rfl, hb⟩
    have hb2 := bel_trans hb1 hb
    clear hb
    refine hK.out _ _ (SK.out _ (bel_trans hB hb2)) (fun hHeld => ?_)
    clear hK K
    try simp only [tkP]
    refine rdy 11 fun K hK => ?_
    go_simp
    refine (listedI _ A _ (hrow.read.keep hb2) sA.out.n (by have := sA.out.z; omega)).mono ?_
    rintro e w3 ⟨rfl, hb⟩
    have hb3 := bel_trans hb2 hb
    clear hb
    refine hK.out _ _ (SK.out _ (bel_trans hB hb3)) (fun hHeld => ?_)
    clear hK K
    try simp only [tkP]
    refine rdy 12 fun K hK => ?_
    go_simp
    have hb4 := bel_trans hb3 (bel_alloc w3 (Go.Obj.cells ([nm, pn, ft, jn A ⟨#[44, 32]⟩].map Value.string).toArray 9))
    refine hK.out _ _ (SK.out _ (bel_trans hB hb4)) (fun hHeld => ?_)
    clear hK K
    try simp only [tkP]
    refine rdy 13 fun K hK => ?_
    go_simp
    refine (spW [nm, pn, ft, jn A ⟨#[44, 32]⟩] w3 (by simp) (by intro s hs; simp at hs; rcases hs with rfl | rfl | rfl | rfl <;> omega)).mono ?_
    rintro e w5 ⟨rfl, hb⟩
    have hb5 := bel_trans hb3 hb
    clear hb
    refine hK.out _ _ (SK.out _ (bel_trans hB hb5)) (fun hHeld => ?_)
    clear hK K
    try simp only [tkP]
    refine tks 1 [14] hHeld ?_
    try simp only [tkP]
    refine wpAnyH_done (by kernel_rfl) ?_ _
    go_wp2_with fail
    go_ret
    exact ⟨rfl, bel_trans B0 (bel_trans hB hb5)⟩
  by_cases h16 : op = 16 ∨ op = 17 ∨ op = 18
  ·have zA := sA.out.z
   rcases h16 with rfl | rfl | rfl
   all_goals
    obtain rfl := L16.out (by decide)
    as_aux_lemma =>
     have hb0 : Below wc.heap.size wc wc := Below.refl _ _
     go_wp2_with fail
     refine (CF.out _ hB).mono ?_
     rintro e w1 ⟨rfl, hb⟩
     have hb1 := bel_trans hb0 hb
     clear hb
     go_wp2_with fail
     refine (listedI _ A _ (hrow.read.keep hb1) sA.out.n (by have := sA.out.z; omega)).mono ?_
     rintro e w2 ⟨rfl, hb⟩
     have hb2 := bel_trans hb1 hb
     clear hb
     go_wp2_with (first | (rw [htw.out]; refine wpList_buildRow rfl 122 9 5 _ rfl [nm, ft, jn A ⟨#[44, 32]⟩, tw, rs] Tryz.underlying122 infoS infoZ rfl (by decide) (by decide) (by first | rfl | simp [Act.eval, Act.put]) ?_) | fail)
     refine (spW [nm, ft, jn A ⟨#[44, 32]⟩, tw, rs] w2 (by simp) (by intro s hs; simp at hs; rcases hs with rfl | rfl | rfl | rfl | rfl <;> omega)).mono ?_
     rintro e w3 ⟨rfl, hb⟩
     have hb3 := bel_trans hb2 hb
     clear hb
     go_wp2_with fail
     go_ret
     exact ⟨rfl, bel_trans B0 (bel_trans hB hb3)⟩
  by_cases h20 : op = 20
  ·subst h20
   obtain rfl := L20.out rfl
   have zR := sR.out.z
   as_aux_lemma =>
    have hb0 : Below wc.heap.size wc wc := Below.refl _ _
    go_wp2_with fail
    refine (CS.out (by simp) _ _ hB hrow.read).mono ?_
    rintro e w1 ⟨v1, rfl, hrow1, hb⟩
    have hb1 := bel_trans hb0 hb
    clear hb
    obtain ⟨r1, k1, rfl⟩ := hrow1.shape
    go_wp2_with fail
    refine (listedI _ R _ hrow1.read sR.out.n (by have := sR.out.z; omega)).mono ?_
    rintro e w2 ⟨rfl, hb⟩
    have hb2 := bel_trans hb1 hb
    clear hb
    go_wp2_with fail
    refine (spW [nm, rs, jn R ⟨#[44, 32]⟩] w2 (by simp) (by intro s hs; simp at hs; rcases hs with rfl | rfl | rfl <;> omega)).mono ?_
    rintro e w3 ⟨rfl, hb⟩
    have hb3 := bel_trans hb2 hb
    clear hb
    exact tl48
  by_cases h21 : op = 21
  ·subst h21
   obtain rfl := L21.out rfl
   as_aux_lemma =>
    have hb0 : Below wc.heap.size wc wc := Below.refl _ _
    go_wp2_with fail
    refine (CD.out _ hB).mono ?_
    rintro e w1 ⟨rfl, hb⟩
    have hb1 := bel_trans hb0 hb
    clear hb
    go_wp2_with fail
    refine (spW [nm, st] w1 (by simp) (by intro s hs; simp at hs; rcases hs with rfl | rfl <;> omega)).mono ?_
    rintro e w2 ⟨rfl, hb⟩
    have hb2 := bel_trans hb1 hb
    clear hb
    go_wp2_with fail
    go_ret
    exact ⟨rfl, bel_trans B0 (bel_trans hB hb2)⟩
  by_cases h23 : op = 23 ∨ op = 30
  ·have zA := sA.out.z
   rcases h23 with rfl | rfl
   all_goals
    obtain rfl := L23.out (by decide)
    as_aux_lemma =>
     have hb0 : Below wc.heap.size wc wc := Below.refl _ _
     go_wp2_with fail
     refine (CF.out _ hB).mono ?_
     rintro e w1 ⟨rfl, hb⟩
     have hb1 := bel_trans hb0 hb
     clear hb
     go_wp2_with fail
     refine (listedI _ A _ (hrow.read.keep hb1) sA.out.n (by have := sA.out.z; omega)).mono ?_
     rintro e w2 ⟨rfl, hb⟩
     have hb2 := bel_trans hb1 hb
     clear hb
     go_wp2_with fail
     refine (spW [nm, ft, jn A ⟨#[44, 32]⟩] w2 (by simp) (by intro s hs; simp at hs; rcases hs with rfl | rfl | rfl <;> omega)).mono ?_
     rintro e w3 ⟨rfl, hb⟩
     have hb3 := bel_trans hb2 hb
     clear hb
     go_wp2_with fail
     go_ret
     exact ⟨rfl, bel_trans B0 (bel_trans hB hb3)⟩
  by_cases h24 : op = 24 ∨ op = 26 ∨ op = 27 ∨ op = 28 ∨ op = 31
  ·have zAT := sAT.out.z
   rcases h24 with rfl | rfl | rfl | rfl | rfl
   all_goals
    obtain rfl := L24.out (by decide)
    as_aux_lemma =>
     have hb0 : Below wc.heap.size wc wc := Below.refl _ _
     go_wp2_with fail
     refine (CR.out _ hB).mono ?_
     rintro e w1 ⟨v1, rfl, hrow1, hb⟩
     have hb1 := bel_trans hb0 hb
     clear hb
     obtain ⟨r1, k1, rfl⟩ := hrow1.shape
     obtain ⟨v2, w2, hrun, hrow2, hbel⟩ := pT.out _ _ _ (hrow.keep hb1) hrow1.read (Nat.le_trans hB.size hb1.size)
     obtain ⟨r2, k2, rfl⟩ := hrow2.shape
     have hB2 := hbel _ (bel_trans hB hb1)
     go_wp2_with (first | (at_builtin; refine wpList_append_run _ rfl _ _ 122 rfl rfl rfl hrun ?_) | fail)
     refine (listedI _ AT _ hrow2.read sAT.out.n (by have := sAT.out.z; omega)).mono ?_
     rintro e w3 ⟨rfl, hb3⟩
     go_wp2_with fail
     refine (spW [nm, jn AT ⟨#[44, 32]⟩] w3 (by simp) (by intro s hs; simp at hs; rcases hs with rfl | rfl <;> omega)).mono ?_
     rintro e w4 ⟨rfl, hb4⟩
     go_wp2_with fail
     go_ret
     exact ⟨rfl, bel_trans B0 (bel_trans (bel_trans hB2 hb3) hb4)⟩
  by_cases h29 : op = 29
  ·subst h29
   obtain rfl := L29.out rfl
   have zAU := sAU.out.z
   as_aux_lemma =>
    go_upto_region 19 with fail
    have hb0 : Below wc.heap.size wc wc.drew := (Below.refl _ _).drew
    refine RH.out wc hB (by kernel_rfl) (fun hHeld => ?_)
    refine tks 4 [0, 1, 2, 4] hHeld ?_
    try simp only [tkP]
    refine tks 1 [5] hHeld ?_
    try simp only [tkP]
    refine rdy 3 fun K hK => ?_
    go_simp
    refine (CF.out _ (bel_trans hB hb0)).mono ?_
    rintro e w1 ⟨rfl, hb⟩
    have hb1 := bel_trans hb0 hb
    clear hb
    refine hK.out _ _ (SK.out _ (bel_trans hB hb1)) (fun hHeld => ?_)
    clear hK K
    try simp only [tkP]
    refine rdy 6 fun K hK => ?_
    go_simp
    refine (CC.out (by simp) _ (bel_trans hB hb1)).mono ?_
    rintro e w2 ⟨u2, rfl, hrowu, hb⟩
    have hb2 := bel_trans hb1 hb
    clear hb
    obtain ⟨r1, k1, rfl⟩ := hrowu.shape
    refine hK.out _ _ (SK.out _ (bel_trans hB hb2)) (fun hHeld => ?_)
    clear hK K
    try simp only [tkP]
    obtain ⟨v3, w3, hrun, hrow3, hbel⟩ := pU.out _ _ _ (hrow.keep hb2) hrowu.read (Nat.le_trans hB.size hb2.size)
    obtain ⟨r2, k2, rfl⟩ := hrow3.shape
    have hB3 := hbel _ (bel_trans hB hb2)
    refine rdy 7 fun K hK => ?_
    refine step_append_run rfl (.tmp 109) (.tmp 111) 122 rfl (by first | rfl | simp [Act.eval, Act.put]) (by first | rfl | simp [Act.eval, Act.put]) hrun ?_
    refine hK.out _ _ (SK.out _ hB3) (fun hHeld => ?_)
    clear hK K
    try simp only [tkP]
    refine rdy 8 fun K hK => ?_
    go_simp
    refine (listedI _ AU _ hrow3.read sAU.out.n (by have := sAU.out.z; omega)).mono ?_
    rintro e w4 ⟨rfl, hb⟩
    have hB4 := bel_trans hB3 hb
    clear hb
    refine hK.out _ _ (SK.out _ hB4) (fun hHeld => ?_)
    clear hK K
    try simp only [tkP]
    refine rdy 9 fun K hK => ?_
    go_simp
    have hB5 := bel_trans hB4 (bel_alloc w4 (Go.Obj.cells ([nm, ft, jn AU ⟨#[44, 32]⟩].map Value.string).toArray 9))
    refine hK.out _ _ (SK.out _ hB5) (fun hHeld => ?_)
    clear hK K
    try simp only [tkP]
    refine rdy 10 fun K hK => ?_
    go_simp
    refine (spW [nm, ft, jn AU ⟨#[44, 32]⟩] w4 (by simp) (by intro s hs; simp at hs; rcases hs with rfl | rfl | rfl <;> omega)).mono ?_
    rintro e w6 ⟨rfl, hb⟩
    have hB6 := bel_trans hB4 hb
    clear hb
    refine hK.out _ _ (SK.out _ hB6) (fun hHeld => ?_)
    clear hK K
    try simp only [tkP]
    refine tks 1 [11] hHeld ?_
    try simp only [tkP]
    refine wpAnyH_done (by kernel_rfl) ?_ _
    go_wp2_with fail
    go_ret
    exact ⟨rfl, bel_trans B0 hB6⟩
  by_cases h25 : op = 25
  ·subst h25
   obtain rfl := L25.out rfl
   have zA := sA.out.z
   obtain ⟨c, rfl, hcl, e2, e3⟩ := hCal.out rfl
   obtain rfl := t2.out (by omega)
   have SF : Kp (∀ W, Below W0.heap.size W0 W → (fun W' => Below W0.heap.size W0 W' ∧ W'.cell? ⟨bF, oF + c * 5, none⟩ = some (.string cn) ∧ W'.cell? ⟨w.heap.size, 0, none⟩ = some (.map (some a1)) ∧ W'.cell? ⟨w.heap.size, 1, none⟩ = some (.map (some b1)) ∧ W'.cell? ⟨w.heap.size, 2, none⟩ = some (.map (some a2)) ∧ W'.cell? ⟨w.heap.size, 3, none⟩ = some (.map (some b2)) ∧ W'.cell? ⟨w.heap.size, 4, none⟩ = some (.map (some a3)) ∧ W'.cell? ⟨w.heap.size, 5, none⟩ = some (.map (some b3)) ∧ W'.cell? ⟨w.heap.size, 6, none⟩ = some (.map (some a4)) ∧ W'.cell? ⟨w.heap.size, 7, none⟩ = some (.map (some b4)) ∧ W'.cell? ⟨w.heap.size, 8, none⟩ = some (.map (some a5)) ∧ W'.cell? ⟨w.heap.size, 9, none⟩ = some (.map (some b5)) ∧ W'.cell? ⟨w.heap.size, 10, none⟩ = some (vg) ∧ W'.cell? ⟨w.heap.size, 11, none⟩ = some (.slice (some ⟨bF, oF, none⟩) fs.length cF) ∧ W'.cell? ⟨w.heap.size + 1, 0, none⟩ = some (.int .i64 25) ∧ W'.cell? ⟨w.heap.size + 1, 1, none⟩ = some (.int .i64 ty) ∧ W'.cell? ⟨w.heap.size + 1, 2, none⟩ = some (.int .i64 fl) ∧ W'.cell? ⟨w.heap.size + 1, 3, none⟩ = some (.int .i64 pr) ∧ W'.cell? ⟨w.heap.size + 1, 4, none⟩ = some (.int .i64 c) ∧ W'.cell? ⟨w.heap.size + 1, 5, none⟩ = some (.int .i64 sz) ∧ W'.cell? ⟨w.heap.size + 1, 6, none⟩ = some (va) ∧ W'.cell? ⟨w.heap.size + 1, 7, none⟩ = some (vb) ∧ W'.cell? ⟨w.heap.size + 1, 8, none⟩ = some (vw)) W) := ⟨fun W hW => by
    obtain ⟨a, b⟩ := SK.out W hW
    exact ⟨a, at_keep e3 hW, b⟩⟩
   have hlt : ((c : Int)) < (fs.length : Int) := by omega
   generalize fs.length = nf at *
   have zc := zC.out e2
   have g0a : ¬ 9223372036854775807 < 1 + cn.size := by omega
   have g0b : ¬ 140737488355328 < 1 + cn.size := by omega
   have g0c : 1 + cn.size ≤ 140737488355328 := by omega
   have g1a : ¬ 9223372036854775807 < 1 + cn.size + 1 := by omega
   have g1b : ¬ 140737488355328 < 1 + cn.size + 1 := by omega
   have g1c : 1 + cn.size + 1 ≤ 140737488355328 := by omega
   have g2a : ¬ 9223372036854775807 < 1 + cn.size + 1 + (jn A ⟨#[44, 32]⟩).size := by omega
   have g2b : ¬ 140737488355328 < 1 + cn.size + 1 + (jn A ⟨#[44, 32]⟩).size := by omega
   have g2c : 1 + cn.size + 1 + (jn A ⟨#[44, 32]⟩).size ≤ 140737488355328 := by omega
   have g3a : ¬ 9223372036854775807 < 1 + cn.size + 1 + (jn A ⟨#[44, 32]⟩).size + 1 := by omega
   have g3b : ¬ 140737488355328 < 1 + cn.size + 1 + (jn A ⟨#[44, 32]⟩).size + 1 := by omega
   have g3c : 1 + cn.size + 1 + (jn A ⟨#[44, 32]⟩).size + 1 ≤ 140737488355328 := by omega
   as_aux_lemma =>
    go_upto_region 17 with fail
    have hb0 : Below wc.heap.size wc wc.drew := (Below.refl _ _).drew
    refine wp_region_held_drew (P := Tryz.prog) (w := wc) (S := (fun W' => Below W0.heap.size W0 W' ∧ W'.cell? ⟨bF, oF + c * 5, none⟩ = some (.string cn) ∧ W'.cell? ⟨w.heap.size, 0, none⟩ = some (.map (some a1)) ∧ W'.cell? ⟨w.heap.size, 1, none⟩ = some (.map (some b1)) ∧ W'.cell? ⟨w.heap.size, 2, none⟩ = some (.map (some a2)) ∧ W'.cell? ⟨w.heap.size, 3, none⟩ = some (.map (some b2)) ∧ W'.cell? ⟨w.heap.size, 4, none⟩ = some (.map (some a3)) ∧ W'.cell? ⟨w.heap.size, 5, none⟩ = some (.map (some b3)) ∧ W'.cell? ⟨w.heap.size, 6, none⟩ = some (.map (some a4)) ∧ W'.cell? ⟨w.heap.size, 7, none⟩ = some (.map (some b4)) ∧ W'.cell? ⟨w.heap.size, 8, none⟩ = some (.map (some a5)) ∧ W'.cell? ⟨w.heap.size, 9, none⟩ = some (.map (some b5)) ∧ W'.cell? ⟨w.heap.size, 10, none⟩ = some (vg) ∧ W'.cell? ⟨w.heap.size, 11, none⟩ = some (.slice (some ⟨bF, oF, none⟩) nf cF) ∧ W'.cell? ⟨w.heap.size + 1, 0, none⟩ = some (.int .i64 25) ∧ W'.cell? ⟨w.heap.size + 1, 1, none⟩ = some (.int .i64 ty) ∧ W'.cell? ⟨w.heap.size + 1, 2, none⟩ = some (.int .i64 fl) ∧ W'.cell? ⟨w.heap.size + 1, 3, none⟩ = some (.int .i64 pr) ∧ W'.cell? ⟨w.heap.size + 1, 4, none⟩ = some (.int .i64 c) ∧ W'.cell? ⟨w.heap.size + 1, 5, none⟩ = some (.int .i64 sz) ∧ W'.cell? ⟨w.heap.size + 1, 6, none⟩ = some (va) ∧ W'.cell? ⟨w.heap.size + 1, 7, none⟩ = some (vb) ∧ W'.cell? ⟨w.heap.size + 1, 8, none⟩ = some (vw))) (by kernel_rfl) (SF.out _ (bel_trans hB hb0)) (fun hHeld => ?_)
    refine tks 4 [0, 1, 2, 5] hHeld ?_
    try simp only [tkP]
    refine tks 4 [3, 4, 6, 12] hHeld ?_
    try simp only [tkP]
    refine tks 1 [7] hHeld ?_
    try simp only [tkP]
    refine tks 2 [8, 9] hHeld ?_
    try simp only [tkP]
    refine tks 1 [10] hHeld ?_
    try simp only [tkP]
    refine tks 1 [11] hHeld ?_
    try simp only [tkP]
    refine rdy 13 fun K hK => ?_
    go_simp
    refine (listedI _ A _ (hrow.read.keep hb0) sA.out.n (by have := sA.out.z; omega)).mono ?_
    rintro e w1 ⟨rfl, hb⟩
    have hb1 := bel_trans hb0 hb
    clear hb
    refine hK.out _ _ (SF.out _ (bel_trans hB hb1)) (fun hHeld => ?_)
    clear hK K
    try simp only [tkP]
    refine tks 1 [14] hHeld ?_
    try simp only [tkP]
    refine tks 1 [15] hHeld ?_
    try simp only [tkP]
    rw [hcw.out]
    refine rdy 16 fun K hK => ?_
    go_simp
    have hb2 := bel_trans hb1 (bel_alloc w1 (Go.Obj.cells ([nm, rs, cw].map Value.string).toArray 9))
    refine hK.out _ _ (SF.out _ (bel_trans hB hb2)) (fun hHeld => ?_)
    clear hK K
    try simp only [tkP]
    refine rdy 17 fun K hK => ?_
    go_simp
    refine (spW [nm, rs, cw] w1 (by simp) (by intro s hs; simp at hs; rcases hs with rfl | rfl | rfl <;> omega)).mono ?_
    rintro e w3 ⟨rfl, hb⟩
    have hb3 := bel_trans hb1 hb
    clear hb
    refine hK.out _ _ (SF.out _ (bel_trans hB hb3)) (fun hHeld => ?_)
    clear hK K
    try simp only [tkP]
    refine tks 1 [18] hHeld ?_
    try simp only [tkP]
    refine wpAnyH_done (by kernel_rfl) ?_ _
    exact tl48
  have z0 := L0.out (by omega)
  obtain rfl := z0
  have zA := sA.out.z
  have n14 : (op == 14) = false := beq_false_of_ne (by omega)
  have n16 : (op == 16) = false := beq_false_of_ne (by omega)
  have n17 : (op == 17) = false := beq_false_of_ne (by omega)
  have n18 : (op == 18) = false := beq_false_of_ne (by omega)
  have n20 : (op == 20) = false := beq_false_of_ne (by omega)
  have n21 : (op == 21) = false := beq_false_of_ne (by omega)
  have n23 : (op == 23) = false := beq_false_of_ne (by omega)
  have n30 : (op == 30) = false := beq_false_of_ne (by omega)
  have n25 : (op == 25) = false := beq_false_of_ne (by omega)
  have n29 : (op == 29) = false := beq_false_of_ne (by omega)
  have n24 : (op == 24) = false := beq_false_of_ne (by omega)
  have n26 : (op == 26) = false := beq_false_of_ne (by omega)
  have n27 : (op == 27) = false := beq_false_of_ne (by omega)
  have n28 : (op == 28) = false := beq_false_of_ne (by omega)
  have n31 : (op == 31) = false := beq_false_of_ne (by omega)
  clear h14 h16 h20 h21 h23 h24 h29 h25
  as_aux_lemma =>
   have hb0 : Below wc.heap.size wc wc := Below.refl _ _
   go_wp2_with fail
   refine (CG.out _ hB).mono ?_
   rintro e w1 ⟨rfl, hb⟩
   have hb1 := bel_trans hb0 hb
   clear hb
   go_wp2_with fail
   refine (listedI _ A _ (hrow.read.keep hb1) sA.out.n (by have := sA.out.z; omega)).mono ?_
   rintro e w2 ⟨rfl, hb⟩
   have hb2 := bel_trans hb1 hb
   clear hb
   go_wp2_with fail
   refine (spW [nm, gt, rs, jn A ⟨#[44, 32]⟩] w2 (by simp) (by intro s hs; simp at hs; rcases hs with rfl | rfl | rfl | rfl <;> omega)).mono ?_
   rintro e w3 ⟨rfl, hb⟩
   have hb3 := bel_trans hb2 hb
   clear hb
   exact tl48
end Go.Proofs.YtgdcgjlmkmdklaaGreatDoor
