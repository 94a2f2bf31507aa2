/- Texts of one claim. -/
import Derived.Test.YtgdcgjlmkmdklaaGreatDoorPk0
import Derived.Test.YtgdcgjlmkmdklaaGreatDoorPk46
namespace Go.Proofs.YtgdcgjlmkmdklaaGreatDoor
open Go.ChangeShapes Go.WideShapes Go.ChangeAt Go.RowKit
open Go.Lib
set_option linter.unusedVariables false
set_option linter.unusedSimpArgs false
theorem opWs_sz {gs : List GlD} {fs : List FnD} {x : InD} (G : InG fs x) (hm : moN gs fs ≤ 1048576) : ∀ s ∈ opWs gs fs x, s.size ≤ 4398046511104 := by
 have hn := G.n
 have hIb : ∀ n ∈ x.bl, -9223372036854775808 ≤ n ∧ n ≤ 9223372036854775807 := fun n hn => ⟨(G.b.b n hn).a, (G.b.b n hn).b⟩
 have zN := nmOp_len x.op
 have zP := nmPr_len x.pr
 have zT := nmTy_len x.ty
 have zF := ftTx_len x
 have zS := dTx_len x.sz G.b.sz.a G.b.sz.b
 have zG := jn_small x.fl
 have hAz : ∀ a ∈ x.args.map (txO gs), a.size ≤ 1048676 := fun a ha => by
  exact tl110
 have hBz : ∀ a ∈ x.bl.map dTx, a.size ≤ 100 := fun a ha => by
  obtain ⟨n, hn, rfl⟩ := List.mem_map.1 ha
  exact dTx_len n (hIb n hn).1 (hIb n hn).2
 have e2 : (⟨#[44, 32]⟩ : ByteArray).size = 2 := rfl
 have zA : (jn (x.args.map (txO gs)) ⟨#[44, 32]⟩).size ≤ 1048678 * (x.args.map (txO gs)).length := jn_le_all _ _ 1048676 hAz
 have zR : (jn (srL (x.args.map (txO gs)) x.bl (x.args.map (txO gs)).length) ⟨#[44, 32]⟩).size ≤ 1048902 * (srL (x.args.map (txO gs)) x.bl (x.args.map (txO gs)).length).length := jn_le_all _ _ 1048900 (srL_sz _ _ hAz hIb)
 have zAT : (jn (x.args.map (txO gs) ++ x.bl.map dTx) ⟨#[44, 32]⟩).size ≤ 1048678 * (x.args.map (txO gs) ++ x.bl.map dTx).length := jn_le_all _ _ 1048676 (fun a ha => by rcases List.mem_append.1 ha with h | h; exact hAz a h; have := hBz a h; omega)
 have zAU : (jn (x.args.map (txO gs) ++ swL (x.args.getD 0 default).t x.bl x.ws x.ws.length) ⟨#[44, 32]⟩).size ≤ 1048678 * (x.args.map (txO gs) ++ swL (x.args.getD 0 default).t x.bl x.ws x.ws.length).length := jn_le_all _ _ 1048676 (fun a ha => by rcases List.mem_append.1 ha with h | h; exact hAz a h; have := swL_sz _ _ _ _ hIb a h; omega)
 have l1 : (x.args.map (txO gs)).length = x.args.length := by simp
 have l2 : (srL (x.args.map (txO gs)) x.bl (x.args.map (txO gs)).length).length = (x.args.map (txO gs)).length := srL_len _ _ _
 have l3 : (x.args.map (txO gs) ++ x.bl.map dTx).length = x.args.length + x.bl.length := by simp
 have l4 : (x.args.map (txO gs) ++ swL (x.args.getD 0 default).t x.bl x.ws x.ws.length).length = x.args.length + (x.ws.length + 1) := by rw [List.length_append, swL_len, l1]
 have zC : x.op = 25 → (calD fs x.ca).name.size ≤ 1048576 := fun ho => by
  obtain ⟨c, hca, hc⟩ := G.ca ho
  have e : (calD fs x.ca).name = fs[c].name := by rw [hca]; simp [calD, hc]
  rw [e]
  exact tl80
 have e3 : (⟨#[64]⟩ : ByteArray).size = 1 := rfl
 have e4 : (⟨#[40]⟩ : ByteArray).size = 1 := rfl
 have e5 : (⟨#[41]⟩ : ByteArray).size = 1 := rfl
 have e6 : (⟨#[116, 111]⟩ : ByteArray).size = 2 := rfl
 intro s hs
 unfold opWs at hs
 split at hs
 ·exact tl134
 split at hs
 ·simp only [List.mem_cons, List.not_mem_nil, or_false] at hs
  rcases hs with rfl | rfl | rfl | rfl | rfl <;> first | omega | decide
 split at hs
 ·exact tl100
 split at hs
 ·simp only [List.mem_cons, List.not_mem_nil, or_false] at hs
  rcases hs with rfl | rfl <;> omega
 split at hs
 ·exact tl100
 split at hs
 ·rename_i ho
  have := zC ho
  simp only [List.mem_cons, List.not_mem_nil, or_false] at hs
  rcases hs with rfl | rfl | rfl
  ·omega
  ·omega
  ·simp only [ByteArray.size_append]
   omega
 split at hs
 ·exact tl100
 split at hs
 ·simp only [List.mem_cons, List.not_mem_nil, or_false] at hs
  rcases hs with rfl | rfl <;> omega
 ·exact tl134
theorem opWs_le (gs : List GlD) (fs : List FnD) (x : InD) : (opWs gs fs x).length ≤ 5 := by
 unfold opWs
 repeat' split
 all_goals simp
theorem opT_sz {gs : List GlD} {fs : List FnD} {x : InD} (G : InG fs x) (hm : moN gs fs ≤ 1048576) : (jn (full (opWs gs fs x)) ⟨#[32]⟩).size ≤ 30000000000000 := by
 have h := jn_full_le (opWs gs fs x) ⟨#[32]⟩ 4398046511104 (opWs_sz G hm)
 have h1 : (⟨#[32]⟩ : ByteArray).size = 1 := rfl
 rw [h1] at h
 have : (4398046511104 + 1) * (opWs gs fs x).length ≤ (4398046511104 + 1) * 5 := Nat.mul_le_mul_left _ (opWs_le gs fs x)
 omega
def lnTx (gs : List GlD) (fs : List FnD) (x : InD) (n : Int) : ByteArray := if x.ty = 0 then jn (full (opWs gs fs x)) ⟨#[32]⟩ else (⟨#[37]⟩ ++ dTx n ++ ⟨#[32, 61, 32]⟩) ++ jn (full (opWs gs fs x)) ⟨#[32]⟩
set_option maxRecDepth 100000 in
set_option maxHeartbeats 4000000 in
theorem instrI (gs : List GlD) (fs : List FnD) (vg vf : Value) (vs : List Value) (x : InD) (va vb vw : Value) (n : Int) (w : World) {lo l2 : Nat} (hM : MoAt l2 w gs fs vg vf) (hV : Voc w vs) (hF : FlO w) (h : Ops lo w va x.args) (hI : Ints lo .i64 w vb x.bl) (hJ : Ints lo .u64 w vw x.ws) (hL : Lt w) (G : InG fs x) (hm : moN gs fs ≤ 1048576) (n0 : -9223372036854775808 ≤ n) (n1 : n ≤ 9223372036854775807) :
  Calls Tryz.prog 33 #[wrVal vs vg vf, inVal x va vb vw, .int .i64 n] w fun e w' => e = .returned (.string (lnTx gs fs x n)) ∧ Below w.heap.size w w' := by
 have zO := opT_sz G hm
 have zd := dTx_len n n0 n1
 have hl0 : Kp (x.ty = 0 → lnTx gs fs x n = jn (full (opWs gs fs x)) ⟨#[32]⟩) := ⟨fun h => by simp [lnTx, h]⟩
 have hl1 : Kp (x.ty ≠ 0 → lnTx gs fs x n = (⟨#[37]⟩ ++ dTx n ++ ⟨#[32, 61, 32]⟩) ++ jn (full (opWs gs fs x)) ⟨#[32]⟩) := ⟨fun h => by simp [lnTx, h]⟩
 obtain ⟨L, hL0⟩ : ∃ L, lnTx gs fs x n = L := ⟨_, rfl⟩
 rw [hL0] at hl0 hl1 ⊢
 obtain ⟨a1, b1, a2, b2, a3, b3, a4, b4, a5, b5, rfl, -⟩ := hV.ex
 have W0e : ∃ W0, W0 = (w.alloc (Go.Obj.cells #[.map (some a1), .map (some b1), .map (some a2), .map (some b2), .map (some a3), .map (some b3), .map (some a4), .map (some b4), .map (some a5), .map (some b5), vg, vf] 68)).alloc (inCel x va vb vw) := ⟨_, rfl⟩
 obtain ⟨W0, hW⟩ := W0e
 obtain ⟨B0, hx, hy⟩ := two w _ _ _ _ hW
 have CO : Kp (∀ W, Below W0.heap.size W0 W → Calls Tryz.prog 69 #[(.agg #[.map (some a1), .map (some b1), .map (some a2), .map (some b2), .map (some a3), .map (some b3), .map (some a4), .map (some b4), .map (some a5), .map (some b5), vg, vf]), inVal x va vb vw] W fun e w' => e = .returned (.string (jn (full (opWs gs fs x)) ⟨#[32]⟩)) ∧ Below W.heap.size W w') := ⟨fun W hB => operationI gs fs vg vf [.map (some a1), .map (some b1), .map (some a2), .map (some b2), .map (some a3), .map (some b3), .map (some a4), .map (some b4), .map (some a5), .map (some b5)] x va vb vw W ((hM.keep B0).keep hB) ((hV.keep B0).keep hB) ((hF.below B0).below hB) ((h.keep B0).keep hB) ((hI.keep B0).keep hB) ((hJ.keep B0).keep hB) ((hL.below B0).below hB) G hm⟩
 have CD : Kp (∀ W, Below W0.heap.size W0 W → Calls Tryz.prog 70 #[.int .i64 n] W fun e w' => e = .returned (.string (dTx n)) ∧ Below W.heap.size W w') := ⟨fun W hB => decI _ W ((hL.below B0).below hB) n0 n1⟩
 obtain ⟨O, hO⟩ : ∃ O, jn (full (opWs gs fs x)) ⟨#[32]⟩ = O := ⟨_, rfl⟩
 rw [hO] at zO hl0 hl1 CO
 obtain ⟨D, hD⟩ : ∃ D, dTx n = D := ⟨_, rfl⟩
 rw [hD] at zd hl1 CD
 obtain ⟨op, ty, fl, pr, ca, sz, args, bl, ws⟩ := x
 dsimp only at *
 have SK : Kp (∀ W, Below W0.heap.size W0 W → (fun W' => Below W0.heap.size W0 W' ∧ W'.cell? ⟨w.heap.size, 0, none⟩ = some (.map (some a1)) ∧ W'.cell? ⟨w.heap.size, 1, none⟩ = some (.map (some b1)) ∧ W'.cell? ⟨w.heap.size, 2, none⟩ = some (.map (some a2)) ∧ W'.cell? ⟨w.heap.size, 3, none⟩ = some (.map (some b2)) ∧ W'.cell? ⟨w.heap.size, 4, none⟩ = some (.map (some a3)) ∧ W'.cell? ⟨w.heap.size, 5, none⟩ = some (.map (some b3)) ∧ W'.cell? ⟨w.heap.size, 6, none⟩ = some (.map (some a4)) ∧ W'.cell? ⟨w.heap.size, 7, none⟩ = some (.map (some b4)) ∧ W'.cell? ⟨w.heap.size, 8, none⟩ = some (.map (some a5)) ∧ W'.cell? ⟨w.heap.size, 9, none⟩ = some (.map (some b5)) ∧ W'.cell? ⟨w.heap.size, 10, none⟩ = some (vg) ∧ W'.cell? ⟨w.heap.size, 11, none⟩ = some (vf) ∧ W'.cell? ⟨w.heap.size + 1, 0, none⟩ = some (.int .i64 op) ∧ W'.cell? ⟨w.heap.size + 1, 1, none⟩ = some (.int .i64 ty) ∧ W'.cell? ⟨w.heap.size + 1, 2, none⟩ = some (.int .i64 fl) ∧ W'.cell? ⟨w.heap.size + 1, 3, none⟩ = some (.int .i64 pr) ∧ W'.cell? ⟨w.heap.size + 1, 4, none⟩ = some (.int .i64 ca) ∧ W'.cell? ⟨w.heap.size + 1, 5, none⟩ = some (.int .i64 sz) ∧ W'.cell? ⟨w.heap.size + 1, 6, none⟩ = some (va) ∧ W'.cell? ⟨w.heap.size + 1, 7, none⟩ = some (vb) ∧ W'.cell? ⟨w.heap.size + 1, 8, none⟩ = some (vw)) W) := ⟨fun W hB => ⟨hB, at_keep (hx 0 _ rfl) hB, at_keep (hx 1 _ rfl) hB, at_keep (hx 2 _ rfl) hB, at_keep (hx 3 _ rfl) hB, at_keep (hx 4 _ rfl) hB, at_keep (hx 5 _ rfl) hB, at_keep (hx 6 _ rfl) hB, at_keep (hx 7 _ rfl) hB, at_keep (hx 8 _ rfl) hB, at_keep (hx 9 _ rfl) hB, at_keep (hx 10 _ rfl) hB, at_keep (hx 11 _ rfl) hB, at_keep (hy 0 _ rfl) hB, at_keep (hy 1 _ rfl) hB, at_keep (hy 2 _ rfl) hB, at_keep (hy 3 _ rfl) hB, at_keep (hy 4 _ rfl) hB, at_keep (hy 5 _ rfl) hB, at_keep (hy 6 _ rfl) hB, at_keep (hy 7 _ rfl) hB, at_keep (hy 8 _ rfl) hB⟩⟩
 clear hM hV hF h hI hJ hL G hx hy hL0 hO hD
 replace hW := Kp.mk hW
 by_cases ht : ty = 0
 ·subst ht
  obtain rfl := hl0.out rfl
  obtain ⟨-, K0, K1, K2, K3, K4, K5, K6, K7, K8, K9, K10, K11, K12, K13, K14, K15, K16, K17, K18, K19, K20⟩ := SK.out W0 (Below.refl _ _)
  go_enter Tryz.func33, Tryz.ntmps33
  go_upto_region 1 with fail
  rw [← hW.out]
  go_wp2_with fail
  refine (CO.out _ (Below.refl _ _)).mono ?_
  rintro e w1 ⟨rfl, hb⟩
  go_wp2_with fail
  go_ret
  exact ⟨rfl, bel_trans B0 hb⟩
 ·obtain rfl := hl1.out ht
  have htb : (ty == 0) = false := beq_false_of_ne ht
  have K := (SK.out W0 (Below.refl _ _)).2
  obtain ⟨K0, K1, K2, K3, K4, K5, K6, K7, K8, K9, K10, K11, K12, K13, K14, K15, K16, K17, K18, K19, K20⟩ := K
  have g0a : ¬ 9223372036854775807 < 1 + D.size := by omega
  have g0b : ¬ 140737488355328 < 1 + D.size := by omega
  have g0c : 1 + D.size ≤ 140737488355328 := by omega
  have g1a : ¬ 9223372036854775807 < 1 + D.size + 3 := by omega
  have g1b : ¬ 140737488355328 < 1 + D.size + 3 := by omega
  have g1c : 1 + D.size + 3 ≤ 140737488355328 := by omega
  have g2a : ¬ 9223372036854775807 < 1 + D.size + 3 + O.size := by omega
  have g2b : ¬ 140737488355328 < 1 + D.size + 3 + O.size := by omega
  have g2c : 1 + D.size + 3 + O.size ≤ 140737488355328 := by omega
  clear ht
  go_enter Tryz.func33, Tryz.ntmps33
  go_upto_region 1 with fail
  rw [← hW.out]
  go_upto_region 3 with fail
  clear K0 K1 K2 K3 K4 K5 K6 K7 K8 K9 K10 K11 K12 K13 K14 K15 K16 K17 K18 K19 K20
  have hb0 : Below W0.heap.size W0 W0.drew := (Below.refl _ _).drew
  refine wp_region_held_drew (P := Tryz.prog) (w := W0) (S := (fun W' => Below W0.heap.size W0 W' ∧ W'.cell? ⟨w.heap.size, 0, none⟩ = some (.map (some a1)) ∧ W'.cell? ⟨w.heap.size, 1, none⟩ = some (.map (some b1)) ∧ W'.cell? ⟨w.heap.size, 2, none⟩ = some (.map (some a2)) ∧ W'.cell? ⟨w.heap.size, 3, none⟩ = some (.map (some b2)) ∧ W'.cell? ⟨w.heap.size, 4, none⟩ = some (.map (some a3)) ∧ W'.cell? ⟨w.heap.size, 5, none⟩ = some (.map (some b3)) ∧ W'.cell? ⟨w.heap.size, 6, none⟩ = some (.map (some a4)) ∧ W'.cell? ⟨w.heap.size, 7, none⟩ = some (.map (some b4)) ∧ W'.cell? ⟨w.heap.size, 8, none⟩ = some (.map (some a5)) ∧ W'.cell? ⟨w.heap.size, 9, none⟩ = some (.map (some b5)) ∧ W'.cell? ⟨w.heap.size, 10, none⟩ = some (vg) ∧ W'.cell? ⟨w.heap.size, 11, none⟩ = some (vf) ∧ W'.cell? ⟨w.heap.size + 1, 0, none⟩ = some (.int .i64 op) ∧ W'.cell? ⟨w.heap.size + 1, 1, none⟩ = some (.int .i64 ty) ∧ W'.cell? ⟨w.heap.size + 1, 2, none⟩ = some (.int .i64 fl) ∧ W'.cell? ⟨w.heap.size + 1, 3, none⟩ = some (.int .i64 pr) ∧ W'.cell? ⟨w.heap.size + 1, 4, none⟩ = some (.int .i64 ca) ∧ W'.cell? ⟨w.heap.size + 1, 5, none⟩ = some (.int .i64 sz) ∧ W'.cell? ⟨w.heap.size + 1, 6, none⟩ = some (va) ∧ W'.cell? ⟨w.heap.size + 1, 7, none⟩ = some (vb) ∧ W'.cell? ⟨w.heap.size + 1, 8, none⟩ = some (vw))) (by kernel_rfl) (SK.out _ hb0) (fun hHeld => ?_)
  refine tks 3 [0, 4, 5] hHeld ?_
  try simp only [tkP]
  refine rdy 1 fun K hK => ?_
  go_simp
  refine (CD.out _ hb0).mono ?_
  rintro e w1 ⟨rfl, hb⟩
  have hb1 := bel_trans hb0 hb
  clear hb
  refine hK.out _ _ (SK.out _ hb1) (fun hHeld => ?_)
  clear hK K
  try simp only [tkP]
  refine tks 1 [2] hHeld ?_
  try simp only [tkP]
  refine tks 1 [3] hHeld ?_
  try simp only [tkP]
  refine rdy 6 fun K hK => ?_
  go_simp
  refine (CO.out _ hb1).mono ?_
  rintro e w2 ⟨rfl, hb⟩
  have hb2 := bel_trans hb1 hb
  clear hb
  refine hK.out _ _ (SK.out _ hb2) (fun hHeld => ?_)
  clear hK K
  try simp only [tkP]
  refine tks 1 [7] hHeld ?_
  try simp only [tkP]
  refine tks 1 [8] hHeld ?_
  exact tl165
end Go.Proofs.YtgdcgjlmkmdklaaGreatDoor
