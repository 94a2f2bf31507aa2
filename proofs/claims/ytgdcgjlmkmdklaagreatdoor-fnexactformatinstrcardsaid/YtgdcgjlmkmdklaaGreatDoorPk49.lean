/- Texts of one claim. -/
import Derived.Test.YtgdcgjlmkmdklaaGreatDoorPk48
import Derived.Test.YtgdcgjlmkmdklaaGreatDoorPk45
import Derived.Test.YtgdcgjlmkmdklaaGreatDoorPk38
import Derived.Test.YtgdcgjlmkmdklaaGreatDoorPk29
import Derived.Test.YtgdcgjlmkmdklaaGreatDoorPk0
namespace Go.Proofs.YtgdcgjlmkmdklaaGreatDoor
open Go.ChangeShapes Go.WideShapes Go.ChangeAt Go.RowKit
open Go.Lib
set_option linter.unusedVariables false
set_option linter.unusedSimpArgs false
set_option maxRecDepth 100000 in
set_option maxHeartbeats 4000000 in
theorem l3LineS (gs : List GlD) (fs : List FnD) (vg vf : Value) (f : FnD) (vp vbl : Value) (bi ii : Nat) (n : Int) (w : World) {lo l2 : Nat} (hM : MoAt l2 w gs fs vg vf) (hf : FnAt lo w f vp vbl) (hbi : bi < f.blocks.length) (hii : ii < f.blocks[bi].length) (G : InG fs f.blocks[bi][ii]) (S : InS gs fs f.blocks[bi][ii]) (hm : moN gs fs ≤ 1048576) (n0 : -9223372036854775808 ≤ n) (n1 : n ≤ 9223372036854775807) :
  Calls Tryz.prog 29 #[.agg #[vg, vf], fnV f vp vbl, .int .i64 bi, .int .i64 ii, .int .i64 n] w fun e w' => e = .returned (.string (lnTx gs fs f.blocks[bi][ii] n)) ∧ Below w.heap.size w w' := by
 obtain ⟨W0, hW⟩ : ∃ W0, W0 = (w.alloc (Go.Obj.cells #[vg, vf] 33)).alloc (Go.Obj.cells #[.string f.name, .int .i64 f.link, vp, .int .i64 f.res, vbl] 53) := ⟨_, rfl⟩
 obtain ⟨B0, hx, hy⟩ := two w _ _ _ _ hW
 obtain ⟨bB, oB, ⟨⟨aB, cB, rfl, s1, s2⟩, s3⟩, -, hqB⟩ := hf.b.ex
 obtain ⟨vi, hvi, hI⟩ := hqB bi hbi
 obtain ⟨bI, oI, ⟨⟨aI, cI, rfl, t1, t2⟩, t3⟩, -, hqI⟩ := hI.ex
 obtain ⟨va, vb, vw, hA⟩ := hqI ii hii
 obtain ⟨a1, k1, rfl⟩ : ∃ a k, va = .slice a f.blocks[bi][ii].args.length k := by obtain ⟨_, _, ⟨⟨a, k, e, _⟩, _⟩, _⟩ := hA.l.a.ex; exact ⟨a, k, e⟩
 obtain ⟨a2, k2, rfl⟩ : ∃ a k, vb = .slice a f.blocks[bi][ii].bl.length k := by obtain ⟨_, _, ⟨⟨a, k, e, _⟩, _⟩, _⟩ := hA.l.b.ex; exact ⟨a, k, e⟩
 obtain ⟨a3, k3, rfl⟩ : ∃ a k, vw = .slice a f.blocks[bi][ii].ws.length k := by obtain ⟨_, _, ⟨⟨a, k, e, _⟩, _⟩, _⟩ := hA.l.c.ex; exact ⟨a, k, e⟩
 obtain ⟨x, hx0⟩ : ∃ x, f.blocks[bi][ii] = x := ⟨_, rfl⟩
 rw [hx0] at G S hA ⊢
 have hA0 := hA.keep B0
 have hvi0 := at_keep hvi B0
 have hbl : At W0 (w.heap.size + 1) 4 (.slice aB f.blocks.length cB) := hy 4 _ rfl
 obtain rfl := s2 (by omega)
 obtain rfl := t2 (by omega)
 have zO := opT_sz G hm
 have zd := dTx_len n n0 n1
 have hl0 : Kp (x.ty = 0 → lnTx gs fs x n = jn (full (opWs gs fs x)) ⟨#[32]⟩) := ⟨fun h => by simp [lnTx, h]⟩
 have hl1 : Kp (x.ty ≠ 0 → lnTx gs fs x n = (⟨#[37]⟩ ++ dTx n ++ ⟨#[32, 61, 32]⟩) ++ jn (full (opWs gs fs x)) ⟨#[32]⟩) := ⟨fun h => by simp [lnTx, h]⟩
 obtain ⟨L, hL0⟩ : ∃ L, lnTx gs fs x n = L := ⟨_, rfl⟩
 rw [hL0] at hl0 hl1 ⊢
 obtain ⟨W1, hW1⟩ : ∃ W1, W1 = W0.alloc (inCel x (.slice a1 x.args.length k1) (.slice a2 x.bl.length k2) (.slice a3 x.ws.length k3)) := ⟨_, rfl⟩
 have B01 : Below W0.heap.size W0 W1 := by rw [hW1]; exact bel_alloc _ _
 have hc1 : W1.heap[W0.heap.size]? = some (inCel x (.slice a1 x.args.length k1) (.slice a2 x.bl.length k2) (.slice a3 x.ws.length k3)) := by rw [hW1]; exact (MapKept.heap_alloc W0 _).1
 have B1 := bel_trans B0 B01
 have CO : Kp (∀ W, Below W1.heap.size W1 W → Calls Tryz.prog 63 #[.agg #[vg, vf], inVal x (.slice a1 x.args.length k1) (.slice a2 x.bl.length k2) (.slice a3 x.ws.length k3)] W fun e w' => e = .returned (.string (jn (full (opWs gs fs x)) ⟨#[32]⟩)) ∧ Below W.heap.size W w') := ⟨fun W hB => l3BodyS gs fs vg vf x _ _ _ W ((hM.keep B1).keep hB) ((hA0.l.a.keep B01).keep hB) ((hA0.l.b.keep B01).keep hB) ((hA0.l.c.keep B01).keep hB) G S hm⟩
 have CD : Kp (∀ W, Calls Tryz.prog 37 #[.int .i64 n] W fun e w' => e = .returned (.string (dTx n)) ∧ Below W.heap.size W w') := ⟨fun W => l3I _ W n0 n1⟩
 obtain ⟨O, hO⟩ : ∃ O, jn (full (opWs gs fs x)) ⟨#[32]⟩ = O := ⟨_, rfl⟩
 rw [hO] at zO hl0 hl1 CO
 obtain ⟨D, hD⟩ : ∃ D, dTx n = D := ⟨_, rfl⟩
 rw [hD] at zd hl1 CD
 have d0 := hA0.c0
 have d1 := hA0.c1
 have d2 := hA0.c2
 have d3 := hA0.c3
 have d4 := hA0.c4
 have d5 := hA0.c5
 have d6 := hA0.c6
 have d7 := hA0.c7
 have d8 := hA0.c8
 have hlt : ((bi : Int)) < (f.blocks.length : Int) := by omega
 have hlt2 : ((ii : Int)) < (f.blocks[bi].length : Int) := by omega
 clear hqI hqB hI hvi hx0 hA
 obtain ⟨ni, hni⟩ : ∃ ni, f.blocks[bi].length = ni := ⟨_, rfl⟩
 obtain ⟨nb, hnb⟩ : ∃ nb, f.blocks.length = nb := ⟨_, rfl⟩
 rw [hni] at hlt2 hvi0
 rw [hnb] at hlt hbl
 show Calls Tryz.prog 29 #[.agg #[vg, vf], .agg #[.string f.name, .int .i64 f.link, vp, .int .i64 f.res, .slice (some ⟨bB, oB, none⟩) f.blocks.length cB], .int .i64 bi, .int .i64 ii, .int .i64 n] w _
 rw [hnb] at hW hy ⊢
 clear hni hii t1 t2 t3 s1 s2 s3 hf
 clear hnb hbi
 generalize f.name = fnm at *
 generalize f.link = flk at *
 generalize f.res = frs at *
 obtain ⟨op, ty, fl, pr, ca, sz, args, bl, ws⟩ := x
 dsimp only at *
 have SK : Kp (∀ W, Below W1.heap.size W1 W → At W (w.heap.size) 0 (vg) ∧ At W (w.heap.size) 1 (vf) ∧ At W (W0.heap.size) 0 (.int .i64 op) ∧ At W (W0.heap.size) 1 (.int .i64 ty) ∧ At W (W0.heap.size) 2 (.int .i64 fl) ∧ At W (W0.heap.size) 3 (.int .i64 pr) ∧ At W (W0.heap.size) 4 (.int .i64 ca) ∧ At W (W0.heap.size) 5 (.int .i64 sz) ∧ At W (W0.heap.size) 6 (.slice a1 args.length k1) ∧ At W (W0.heap.size) 7 (.slice a2 bl.length k2) ∧ At W (W0.heap.size) 8 (.slice a3 ws.length k3)) := ⟨fun W hB => ⟨at_keep (at_keep (hx 0 _ rfl) B01) hB, at_keep (at_keep (hx 1 _ rfl) B01) hB, at_keep (at_cells (j := 0) hc1 rfl) hB, at_keep (at_cells (j := 1) hc1 rfl) hB, at_keep (at_cells (j := 2) hc1 rfl) hB, at_keep (at_cells (j := 3) hc1 rfl) hB, at_keep (at_cells (j := 4) hc1 rfl) hB, at_keep (at_cells (j := 5) hc1 rfl) hB, at_keep (at_cells (j := 6) hc1 rfl) hB, at_keep (at_cells (j := 7) hc1 rfl) hB, at_keep (at_cells (j := 8) hc1 rfl) hB⟩⟩
 have bd1 : Kp (Below w.heap.size w W1) := ⟨B1⟩
 clear hM hA0 G S hx hy hL0 hO hD hc1 B0 B01 B1
 replace hW := Kp.mk hW
 replace hW1 := Kp.mk hW1
 go_enter Tryz.func29, Tryz.ntmps29
 go_upto_region 1 with fail
 rw [← hW.out]
 go_upto_region 2 with fail
 rw [← hW1.out]
 clear hbl hvi0 d0 d1 d2 d3 d4 d5 d6 d7 d8 hW hW1
 obtain ⟨m0, m1, c0, c1, c2, c3, c4, c5, c6, c7, c8⟩ := SK.out W1 (Below.refl _ _)
 by_cases ht : ty = 0
 ·subst ht
  obtain rfl := hl0.out rfl
  go_wp2_with fail
  refine (CO.out _ (Below.refl _ _)).mono ?_
  rintro e w1 ⟨rfl, hb⟩
  go_wp2_with fail
  go_ret
  exact ⟨rfl, bel_trans bd1.out hb⟩
 ·obtain rfl := hl1.out ht
  have htb : (ty == 0) = false := beq_false_of_ne ht
  clear ht
  have QD : Kp (∀ d os, Calls Tryz.prog 37 _ (Go.Sort.grow (redrawn W1 d) os) _) := ⟨fun d os => Calls.regrown_of (CD.out (Go.Sort.grow (redrawn W1 d) os))⟩
  have QO : Kp (∀ d os, Calls Tryz.prog 63 _ (Go.Sort.grow (redrawn W1 d) os) _) := ⟨fun d os => Calls.regrown_of (CO.out (Go.Sort.grow (redrawn W1 d) os) (below_regrown W1 d os))⟩
  go_upto_region 4 with fail
  have rm0 := cell_regrown m0
  have rm1 := cell_regrown m1
  have rc0 := cell_regrown c0
  have rc1 := cell_regrown c1
  have rc2 := cell_regrown c2
  have rc3 := cell_regrown c3
  have rc4 := cell_regrown c4
  have rc5 := cell_regrown c5
  have rc6 := cell_regrown c6
  have rc7 := cell_regrown c7
  have rc8 := cell_regrown c8
  refine wp_region_quiet_below (by kernel_rfl) (by kernel_rfl) ?_
  repeat (go_big_quiet_step (fail))
  go_big_quiet_step (exact QD.out _ _)
  repeat (go_big_quiet_step (fail))
  go_big_quiet_step (exact QO.out _ _)
  repeat (go_big_quiet_step (fail))
  refine wpQuiet_nil ?_
  intro _ hw'
  obtain ⟨⟨dq, osq⟩, hw''⟩ := hw'
  subst hw''
  have hb4 := below_regrown W1 dq osq
  generalize Go.Sort.grow (redrawn W1 dq) osq = V at *
  go_wp2_with fail
  go_ret
  exact ⟨rfl, bel_trans bd1.out hb4⟩
end Go.Proofs.YtgdcgjlmkmdklaaGreatDoor

namespace Go.Proofs.YtgdcgjlmkmdklaaGreatDoor
open Go.ChangeShapes Go.WideShapes Go.ChangeAt Go.RowKit
open Go.Lib
set_option linter.unusedVariables false
set_option linter.unusedSimpArgs false
theorem shape_ok {gs : List GlD} {fs : List FnD} (h : (shF gs fs).1 = 0) (k : Nat) (hk : k < fs.length) : heaB gs fs k = true ∧ boF gs.length fs (calD fs k) k = none := by
 unfold shF at h
 split at h
 ·simp at h
 cases e : firstF (fun i => if gloB gs i = true then none else some ((2 : Int), (-1 : Int), (-1 : Int), (i : Int))) gs.length with
 | some v =>
  rw [e] at h
  obtain ⟨i, hi, q⟩ := firstF_some e
  split at q
  ·cases q
  ·cases q; simp at h
 | none =>
  rw [e] at h
  cases e2 : firstF (fun k => if heaB gs fs k = true then boF gs.length fs (calD fs k) k else some ((3 : Int), (k : Int), (-1 : Int), (-1 : Int))) fs.length with
  | some v =>
   rw [e2] at h
   obtain ⟨i, hi, q⟩ := firstF_some e2
   split at q
   ·exact absurd (by simpa using h) (boF_ne q)
   ·cases q; simp at h
  | none =>
   have := firstF_of_none e2 k hk
   split at this
   ·rename_i q; exact ⟨q, this⟩
   ·cases this
theorem inF_ok {gs : List GlD} {fs : List FnD} {f : FnD} {k : Nat} (h : boF gs.length fs f k = none) (b i : Nat) (hb : b < f.blocks.length) (hi : i < f.blocks[b].length) : inF gs.length (tysD f) fs f b (f.blocks[b].take i) f.blocks[b][i] = 0 := by
 have h1 := firstF_of_none h b hb
 rw [show f.blocks.getD b [] = f.blocks[b] by simp [List.getD_eq_getElem?_getD, hb]] at h1
 unfold blF at h1
 rw [if_neg (by omega)] at h1
 have h2 := firstF_of_none h1 i hi
 split at h2
 ·rename_i q
  unfold atF at q
  split at q
  ·rwa [show f.blocks[b].getD i default = f.blocks[b][i] by simp [List.getD_eq_getElem?_getD, hi]] at q
  ·cases q
 ·cases h2
theorem wf_of {c : Int} (h0 : -9223372036854775808 ≤ c) (h1 : c ≤ 9223372036854775807) : (Lit.int .i64 c).wf = true := by
 simp only [Lit.wf, Bool.and_eq_true, decide_eq_true_eq]
 exact ⟨h0, h1⟩
def tyB (t : Int) : Bool := t == 0 || vtB t
theorem tyB_cases {t : Int} (h : tyB t = true) : t = 0 ∨ t = 65 ∨ t = 1 ∨ t = 8 ∨ t = 16 ∨ t = 32 ∨ t = 64 := by
 simp [tyB, vtB, vw] at h; omega
theorem tyB_ne {t : Int} (h : tyB t = true) : nmOf typesL t ≠ ⟨#[]⟩ := by
 rcases tyB_cases h with rfl | rfl | rfl | rfl | rfl | rfl | rfl <;> decide +kernel
theorem tyB_wf {t : Int} (h : tyB t = true) : (Lit.int .i64 t).wf = true := by
 rcases tyB_cases h with rfl | rfl | rfl | rfl | rfl | rfl | rfl <;> rfl
theorem tyB_v {t : Int} (h : vtB t = true) : tyB t = true := by simp [tyB, h]
theorem tyB_w {t : Int} (h : vw t = true) : tyB t = true := by simp [tyB, vtB, h]
theorem pr_ne {c : Int} (h1 : 1 ≤ c) (h2 : c ≤ 10) : nmOf predsL c ≠ ⟨#[]⟩ := by
 have : c = 1 ∨ c = 2 ∨ c = 3 ∨ c = 4 ∨ c = 5 ∨ c = 6 ∨ c = 7 ∨ c = 8 ∨ c = 9 ∨ c = 10 := by omega
 rcases this with rfl | rfl | rfl | rfl | rfl | rfl | rfl | rfl | rfl | rfl <;> decide +kernel
theorem hea_sgn {gs : List GlD} {fs : List FnD} {k : Nat} (h : heaB gs fs k = true) : (∀ t ∈ (calD fs k).params, vtB t = true) ∧ tyB (calD fs k).res = true := by
 unfold heaB at h
 simp only [Bool.and_eq_true] at h
 have := h.2.2.2.2.2.1
 unfold sigB at this
 simp only [Bool.and_eq_true, List.all_eq_true, Bool.or_eq_true, decide_eq_true_eq] at this
 refine ⟨this.2.1, ?_⟩
 rcases this.2.2 with h | h
 ·rw [h]; rfl
 ·exact tyB_v h
theorem txO_ne {gs : List GlD} {ts : List Int} {q : OpD} (h : opB gs.length ts q = true) : txO gs q ≠ ⟨#[]⟩ := by
 unfold opB at h
 unfold txO
 split
 ·rename_i hk
  rw [if_pos hk] at h
  simp only [Bool.and_eq_true] at h
  intro e
  have e2 : fmtW q.t q.w = [] := by
   have := congrArg (fun b : ByteArray => b.data.toList) e
   simpa using this
  unfold fmtW at e2
  rw [if_pos h.2] at e2
  exact itoa_ne _ e2
 rename_i k1
 rw [if_neg k1] at h
 split
 ·decide
 rename_i k2
 rw [if_neg k2] at h
 split
 ·decide
 rename_i k3
 rw [if_neg k3] at h
 split
 ·apply ne_sz
  simp [ByteArray.size]
 rename_i k4
 rw [if_neg k4] at h
 split
 ·rename_i k5
  rw [if_pos k5] at h
  simp only [Bool.and_eq_true, decide_eq_true_eq] at h
  split
  ·apply ne_sz
   rw [ByteArray.size_append]
   have : (⟨#[64]⟩ : ByteArray).size = 1 := rfl
   omega
  ·rename_i hn; omega
 ·rename_i k5
  rw [if_neg k5] at h
  cases h
set_option maxHeartbeats 4000000 in
theorem good_of {gs : List GlD} {fs : List FnD} (h0 : (shF gs fs).1 = 0) (hm : moN gs fs ≤ 1048576) (hbd : MoB gs fs) (c : Nat) (hc : c < fs.length) (b i : Nat) (hb : b < fs[c].blocks.length) (hi : i < fs[c].blocks[b].length) : InG fs fs[c].blocks[b][i] ∧ InS gs fs fs[c].blocks[b][i] := by
 obtain ⟨hh, hbo⟩ := shape_ok h0 c hc
 have ec : calD fs (c : Int) = fs[c] := by simp [calD, hc]
 have hsig := hea_sgn hh
 rw [ec] at hbo hsig
 have hin := inF_ok hbo b i hb hi
 have hB : InB fs[c].blocks[b][i] := (hbd.f _ (List.getElem_mem hc)).b _ (List.getElem_mem hb) _ (List.getElem_mem hi)
 have hsz : fs[c].blocks[b][i].args.length + fs[c].blocks[b][i].bl.length + fs[c].blocks[b][i].ws.length + 1 ≤ 1048576 := by
  have g0 := glsN_nn gs
  have f0 := (fnsN_of fs).1 c hc
  have f1 := (blsN_of fs[c].blocks).1 b hb
  have f2 := (insN_of fs[c].blocks[b]).1 i hi
  unfold moN at hm
  unfold fnN at f0
  unfold blN at f1
  unfold inN at f2
  omega
 obtain ⟨f, hf⟩ : ∃ f, fs[c] = f := ⟨_, rfl⟩
 rw [hf] at hsig
 obtain ⟨x, hx⟩ : ∃ x, fs[c].blocks[b][i] = x := ⟨_, rfl⟩
 rw [hx] at hin hB hsz ⊢
 obtain ⟨pre, hpre⟩ : ∃ pre, fs[c].blocks[b].take i = pre := ⟨_, rfl⟩
 rw [hpre, hf] at hin
 clear hx hpre hbo hh
 unfold inF at hin
 split at hin
 ·cases hin
 rename_i a1
 split at hin
 ·cases hin
 rename_i a2
 split at hin
 ·cases hin
 rename_i a3
 split at hin
 ·cases hin
 rename_i a4
 split at hin
 ·cases hin
 rename_i a5
 clear hin
 simp only [Bool.not_eq_false] at a1 a2 a3 a4 a5
 have hop : 1 ≤ x.op ∧ x.op ≤ 31 ∧ x.op ≠ 19 := by simp [tabB] at a1; omega
 unfold hdB at a2
 simp only [Bool.and_eq_true, Bool.or_eq_true, decide_eq_true_eq] at a2
 obtain ⟨p0, p1, p2, p3, p4, p5, p6⟩ := a2
 have hty : tyB x.ty = true := by
  unfold ownB at p6
  split at p6
  ·exact tyB_w p6
  split at p6
  ·simp only [Bool.and_eq_true, decide_eq_true_eq] at p6; rw [p6.1]; rfl
  split at p6
  ·exact tyB_v p6
  split at p6
  ·exact tyB_w p6
  split at p6
  ·exact tyB_v p6
  split at p6
  ·simp only [Bool.and_eq_true, decide_eq_true_eq] at p6; rw [p6.1]; rfl
  split at p6
  ·exact tyB_v p6
  split at p6
  ·simp only [decide_eq_true_eq] at p6; rw [p6]; rfl
  split at p6
  ·simp only [Bool.and_eq_true, decide_eq_true_eq] at p6
   have hl : x.ca.toNat < fs.length := by omega
   have := (hea_sgn (shape_ok h0 x.ca.toNat hl).1).2
   rw [show ((x.ca.toNat : Nat) : Int) = x.ca by omega] at this
   rw [p6.2.2]; exact this
  split at p6
  ·simp only [Bool.and_eq_true, decide_eq_true_eq] at p6; rw [p6.2.2]; rfl
  ·simp only [decide_eq_true_eq] at p6; rw [p6]; rfl
 have hpr : x.op = 14 → 1 ≤ x.pr ∧ x.pr ≤ 10 := fun h => by
  unfold ownB at p6
  rw [if_neg (by omega), if_pos h] at p6
  simp only [Bool.and_eq_true, decide_eq_true_eq] at p6
  exact ⟨p6.2.1, p6.2.2⟩
 have hca : x.op = 25 → 0 ≤ x.ca ∧ x.ca < fs.length := fun h => by
  unfold ownB at p6
  rw [if_neg (by omega), if_neg (by omega), if_neg (by omega), if_neg (by omega), if_neg (by omega), if_neg (by omega), if_neg (by omega), if_neg (by omega), if_pos h] at p6
  simp only [Bool.and_eq_true, decide_eq_true_eq] at p6
  exact ⟨p6.1, p6.2.1⟩
 have harg : ∀ k (hk : k < x.args.length), opB gs.length (tysD f) x.args[k] = true ∧ wanB fs f x k x.args[k].t = true := fun k hk => by
  unfold argB at a5
  have := List.all_eq_true.1 a5 k (List.mem_range.2 hk)
  rw [show x.args.getD k default = x.args[k] by simp [List.getD_eq_getElem?_getD, hk]] at this
  simpa only [Bool.and_eq_true] using this
 have hat : ∀ k (hk : k < x.args.length), tyB x.args[k].t = true := fun k hk => by
  have := (harg k hk).2
  obtain ⟨t, ht⟩ : ∃ t, x.args[k].t = t := ⟨_, rfl⟩
  rw [ht] at this ⊢
  have AN : ∀ {a b : Bool}, (a && b) = true → a = true ∧ b = true := fun {a b} h => by simpa using h
  have OR : ∀ {a b : Bool}, (a || b) = true → a = true ∨ b = true := fun {a b} h => by simpa using h
  unfold wanB at this
  by_cases g0 : x.op = 14
  ·rw [if_pos g0] at this
   rcases OR (AN this).2 with h | h
   ·exact tyB_w h
   ·rw [of_decide_eq_true (AN h).1]; rfl
  rw [if_neg g0] at this
  by_cases g1 : x.op = 15
  ·rw [if_pos g1] at this
   rcases OR this with h | h
   ·rw [of_decide_eq_true (AN h).2]; rfl
   ·rw [of_decide_eq_true (AN h).2]; exact hty
  rw [if_neg g1] at this
  by_cases g2 : x.op = 16
  ·rw [if_pos g2] at this
   exact tyB_w (AN this).1
  rw [if_neg g2] at this
  by_cases g3 : x.op = 17
  ·rw [if_pos g3] at this
   exact tyB_w (AN this).1
  rw [if_neg g3] at this
  by_cases g4 : x.op = 18
  ·rw [if_pos g4] at this
   exact tyB_w (AN this).1
  rw [if_neg g4] at this
  by_cases g5 : x.op = 22
  ·rw [if_pos g5] at this
   rw [of_decide_eq_true this]; rfl
  rw [if_neg g5] at this
  by_cases g6 : x.op = 23
  ·rw [if_pos g6] at this
   rcases OR this with h | h
   ·exact tyB_v (AN h).2
   ·rw [of_decide_eq_true (AN h).2]; rfl
  rw [if_neg g6] at this
  by_cases g7 : x.op = 24
  ·rw [if_pos g7] at this
   rcases OR this with h | h <;> (rw [of_decide_eq_true (AN h).2]; rfl)
  rw [if_neg g7] at this
  by_cases g8 : x.op = 25
  ·rw [if_pos g8] at this
   have h25 := g8
   have q := hca h25
   have hl : x.ca.toNat < fs.length := by omega
   have q2 := (hea_sgn (shape_ok h0 x.ca.toNat hl).1).1
   rw [show ((x.ca.toNat : Nat) : Int) = x.ca by omega] at q2
   rw [of_decide_eq_true this]
   by_cases hkp : k < (calD fs x.ca).params.length
   ·rw [show (calD fs x.ca).params.getD k 0 = (calD fs x.ca).params[k] by simp [List.getD_eq_getElem?_getD, hkp]]
    exact tyB_v (q2 _ (List.getElem_mem hkp))
   ·rw [show (calD fs x.ca).params.getD k 0 = 0 by simp [List.getD_eq_getElem?_getD, Nat.le_of_not_lt hkp]]; rfl
  rw [if_neg g8] at this
  by_cases g9 : x.op = 26
  ·rw [if_pos g9] at this
   rw [of_decide_eq_true this]; rfl
  rw [if_neg g9] at this
  by_cases g10 : x.op = 28
  ·rw [if_pos g10] at this
   rw [of_decide_eq_true this]; rfl
  rw [if_neg g10] at this
  by_cases g11 : x.op = 29
  ·rw [if_pos g11] at this
   exact tyB_w this
  rw [if_neg g11] at this
  by_cases g12 : x.op = 30
  ·rw [if_pos g12] at this
   rw [of_decide_eq_true this]; exact hsig.2
  rw [if_neg g12] at this
  rw [of_decide_eq_true this]; exact hty
 have hfl : flgs x.op = 0 → x.fl = 0 := fun h => by
  rw [h] at p1
  exact flags_0 x.fl hB.fl.a hB.fl.b (by simp [p1])
 have hct := a3
 unfold cntB at hct
 have hA : x.op ≠ 20 → (x.args.length : Int) = cntA fs f x ∧ (x.bl.length : Int) = cntT x := fun h => by
  rw [if_neg h] at hct
  simpa only [Bool.and_eq_true, decide_eq_true_eq] using hct
 have hP : x.op = 20 → 0 < x.args.length ∧ x.args.length = x.bl.length := fun h => by
  rw [if_pos h] at hct
  simpa only [Bool.and_eq_true, decide_eq_true_eq] using hct
 have hmem : ∀ q ∈ x.args, opB gs.length (tysD f) q = true ∧ tyB q.t = true := fun q hq => by
  obtain ⟨k, hk, rfl⟩ := List.getElem_of_mem hq
  exact ⟨(harg k hk).1, hat k hk⟩
 have cA : ∀ n : Int, x.op ≠ 20 → cntA fs f x = n → (x.args.length : Int) = n := fun n h1 h2 => by rw [(hA h1).1, h2]
 have cT : ∀ n : Int, x.op ≠ 20 → cntT x = n → (x.bl.length : Int) = n := fun n h1 h2 => by rw [(hA h1).2, h2]
 have h29 : x.op = 29 → (x.args.length : Int) = 1 ∧ (x.bl.length : Int) = x.ws.length + 1 := fun h =>
  ⟨cA 1 (by omega) (by simp [cntA, h]), cT _ (by omega) (by simp [cntT, h])⟩
 have h27 : x.op = 27 → (x.args.length : Int) = 0 ∧ (x.bl.length : Int) = 1 := fun h =>
  ⟨cA 0 (by omega) (by simp [cntA, h]), cT _ (by omega) (by simp [cntT, h])⟩
 have h31 : x.op = 31 → (x.args.length : Int) = 0 ∧ (x.bl.length : Int) = 0 := fun h =>
  ⟨cA 0 (by omega) (by simp [cntA, h]), cT _ (by omega) (by simp [cntT, h])⟩
 have h28 : x.op = 28 → (x.bl.length : Int) = 2 := fun h => cT _ (by omega) (by simp [cntT, h])
 have h24 : x.op = 24 ∨ x.op = 26 → (x.bl.length : Int) = 0 := fun h => by rcases h with h | h <;> exact cT _ (by omega) (by simp [cntT, h])
 refine ⟨⟨wf_of (by omega) (by omega), tyB_wf hty, ?_, fun q hq => tyB_wf (hmem q hq).2, fun h => by have := (hP h).2; omega, fun h => ?_, fun h => by have := h29 h; omega, hB, hsz⟩,
  ⟨hop.1, hop.2.1, hop.2.2, fun q hq => txO_ne (hmem q hq).1, fun _ => tyB_ne hty, fun _ hn => ?_, fun h => pr_ne (hpr h).1 (hpr h).2, fun h => hfl ?_, fun n1 n2 n3 n4 n5 => ?_, fun h => by have := h29 h; omega, fun h => ?_, fun h => ?_, fun h => by have := h27 h; omega, fun h => by have := h28 h; omega⟩⟩
 ·by_cases h : x.op = 14
  ·have := hpr h; exact wf_of (by omega) (by omega)
  ·rcases p2 with h2 | h2
   ·exact absurd h2 h
   ·rw [h2]; rfl
 ·have := hca h
  exact ⟨x.ca.toNat, by omega, by omega⟩
 ·obtain ⟨op, ty, fl, pr, ca, sz, args, bl, ws⟩ := x
  cases args with
  | nil => exact absurd rfl hn
  | cons q r => exact tyB_ne (hmem q (by simp)).2
 ·rcases h with h | h <;> simp [flgs, h]
 ·intro e
  by_cases h20 : x.op = 20
  ·have := (hP h20).1
   rw [e] at this
   simp at this
  ·have := (hA h20).1
   rw [e] at this
   unfold cntA at this
   simp only [List.length_nil] at this
   have l := hop.1
   have u := hop.2.1
   have v := hop.2.2
   repeat (first | (split at this; omega) | omega)
 ·refine List.length_eq_zero_iff.1 ?_
  rcases h with h | h
  ·have := h27 h; omega
  ·have := h31 h; omega
 ·refine List.length_eq_zero_iff.1 ?_
  rcases h with h | h | h
  ·have := h24 (.inl h); omega
  ·have := h24 (.inr h); omega
  ·have := h31 h; omega
end Go.Proofs.YtgdcgjlmkmdklaaGreatDoor

namespace Go.Proofs.YtgdcgjlmkmdklaaGreatDoor
open Go.ChangeShapes Go.WideShapes Go.ChangeAt Go.RowKit
open Go.Lib
set_option linter.unusedVariables false
set_option linter.unusedSimpArgs false
theorem rOf_bd (B I : Int) : ∀ (L : List (Nat × Nat × Int)) (n : Int), 0 ≤ n → -1 ≤ rOf B I n L ∧ rOf B I n L ≤ n + L.length
 | [], n, h => by simp only [rOf, List.length_nil]; omega
 | (b, i, t) :: r, n, h => by
  have ih1 := rOf_bd B I r n h
  have ih2 := rOf_bd B I r (n + 1) (by omega)
  unfold rOf
  simp only [List.length_cons]
  split
  ·split <;> omega
  ·split <;> omega
def fiTx (gs : List GlD) (fs : List FnD) (F B I : Int) : ByteArray :=
 if (shF gs fs).1 = 0 ∧ 0 ≤ F ∧ F < fs.length ∧ 0 ≤ B ∧ B < (calD fs F).blocks.length ∧ 0 ≤ I ∧ I < ((calD fs F).blocks.getD B.toNat []).length then
  lnTx gs fs (((calD fs F).blocks.getD B.toNat []).getD I.toNat default) (rOf B I (calD fs F).params.length (blPl 0 (calD fs F).blocks))
 else ⟨#[]⟩
instance : Inhabited FnD := ⟨⟨ByteArray.empty, 0, [], 0, []⟩⟩
theorem fiTx_at {gs : List GlD} {fs : List FnD} (h : (shF gs fs).1 = 0) (c b i : Nat) (hc : c < fs.length) (hb : b < fs[c].blocks.length) (hi : i < fs[c].blocks[b].length) :
  fiTx gs fs c b i = lnTx gs fs fs[c].blocks[b][i] (rOf b i fs[c].params.length (blPl 0 fs[c].blocks)) := by
 have ec : calD fs (c : Int) = fs[c] := by simp [calD, hc]
 have eb : fs[c].blocks.getD b [] = fs[c].blocks[b] := by simp [List.getD_eq_getElem?_getD, hb]
 have ei : fs[c].blocks[b].getD i default = fs[c].blocks[b][i] := by simp [List.getD_eq_getElem?_getD, hi]
 unfold fiTx
 rw [ec, Int.toNat_natCast, Int.toNat_natCast, eb, ei, if_pos ⟨h, by omega, by omega, by omega, by omega, by omega, by omega⟩]
theorem rOf_small {gs : List GlD} {fs : List FnD} (hm : moN gs fs ≤ 1048576) (c : Nat) (hc : c < fs.length) (B I : Int) : -1 ≤ rOf B I fs[c].params.length (blPl 0 fs[c].blocks) ∧ rOf B I fs[c].params.length (blPl 0 fs[c].blocks) ≤ 2097152 := by
 have h1 := rOf_bd B I (blPl 0 fs[c].blocks) fs[c].params.length (by omega)
 have g0 := glsN_nn gs
 have f0 := (fnsN_of fs).1 c hc
 have h2 := blPl_len 0 fs[c].blocks
 unfold moN at hm
 unfold fnN at f0
 omega
theorem fldFt (a b c d : Int) (w : World) : (Instr.field 28 (.agg #[.int .i64 a, .int .i64 b, .int .i64 c, .int .i64 d]) 0).run Tryz.prog w = .ok (.int .i64 a) w := by kernel_rfl
set_option maxRecDepth 100000 in
set_option maxHeartbeats 4000000 in
theorem fmtInS (gs : List GlD) (fs : List FnD) (vg vf : Value) (F B I : Int) (w : World) {lo : Nat} (hM : MoAt lo w gs fs vg vf) (hm : moN gs fs ≤ 1048576) (hbd : MoB gs fs) (n1 : -9223372036854775808 ≤ F ∧ F ≤ 9223372036854775807) :
  Calls Tryz.prog 12 #[.agg #[vg, vf], .int .i64 F, .int .i64 B, .int .i64 I] w fun e w' => e = .returned (.string (fiTx gs fs F B I)) ∧ Below w.heap.size w w' := by
 obtain ⟨aG, cG, rfl⟩ := hM.g.shape
 obtain ⟨bF, oF, ⟨⟨aF, cF, rfl, t1, t2⟩, t3⟩, -, hq⟩ := hM.f.ex
 obtain ⟨W0, hW⟩ : ∃ W0, W0 = w.alloc (Go.Obj.cells #[.slice aG gs.length cG, .slice aF fs.length cF] 33) := ⟨_, rfl⟩
 have B0 : Below w.heap.size w W0 := by rw [hW]; exact bel_alloc _ _
 have hc0 : W0.heap[w.heap.size]? = some (Go.Obj.cells #[.slice aG gs.length cG, .slice aF fs.length cF] 33) := by rw [hW]; exact (MapKept.heap_alloc w _).1
 have CS : Kp (∀ W, Below W0.heap.size W0 W → Calls Tryz.prog 7 #[.agg #[.slice aG gs.length cG, .slice aF fs.length cF]] W fun e w' => e = .returned (ftV (shF gs fs)) ∧ Below W.heap.size W w') := ⟨fun W hB => shapeS gs fs _ _ W ((hM.keep B0).keep hB) hm hbd⟩
 have SK : Kp (∀ W, Below W0.heap.size W0 W → At W w.heap.size 0 (.slice aG gs.length cG) ∧ At W w.heap.size 1 (.slice aF fs.length cF)) := ⟨fun W hB => ⟨at_keep (at_cells hc0 rfl) hB, at_keep (at_cells hc0 rfl) hB⟩⟩
 have hbad : Kp (¬ ((shF gs fs).1 = 0 ∧ 0 ≤ F ∧ F < fs.length ∧ 0 ≤ B ∧ B < (calD fs F).blocks.length ∧ 0 ≤ I ∧ I < ((calD fs F).blocks.getD B.toNat []).length) → fiTx gs fs F B I = ⟨#[]⟩) := ⟨fun h => by unfold fiTx; rw [if_neg h]⟩
 have hgd : Kp ((shF gs fs).1 = 0 → ∀ (c b i : Nat), F = c → B = b → I = i → ∀ (hc : c < fs.length) (hb : b < fs[c].blocks.length) (hi : i < fs[c].blocks[b].length), fiTx gs fs F B I = lnTx gs fs fs[c].blocks[b][i] (rOf b i fs[c].params.length (blPl 0 fs[c].blocks)) ∧ InG fs fs[c].blocks[b][i] ∧ InS gs fs fs[c].blocks[b][i]) := ⟨fun h c b i e1 e2 e3 hc hb hi => by
  subst e1; subst e2; subst e3
  exact ⟨fiTx_at h c b i hc hb hi, good_of h hm hbd c hc b i hb hi⟩⟩
 obtain ⟨L, hL⟩ : ∃ L, fiTx gs fs F B I = L := ⟨_, rfl⟩
 rw [hL] at hbad hgd ⊢
 obtain ⟨T, hT⟩ : ∃ T, shF gs fs = T := ⟨_, rfl⟩
 rw [hT] at CS hbad hgd
 obtain ⟨f1, f2, f3, f4⟩ := T
 dsimp only [ftV] at CS hbad hgd
 clear hL hT hc0
 replace hW := Kp.mk hW
 obtain ⟨m0, m1⟩ := SK.out W0 (Below.refl _ _)
 have hfd := fun w => fldFt f1 f2 f3 f4 w
 by_cases h1 : f1 = 0
 ·subst h1
  by_cases h2 : 0 ≤ F ∧ F < fs.length
  ·obtain ⟨c, rfl⟩ : ∃ c : Nat, F = c := ⟨F.toNat, by omega⟩
   have hc : c < fs.length := by omega
   have hlt : ((c : Int)) < (fs.length : Int) := by omega
   obtain rfl := t2 (by omega)
   obtain ⟨vp, vb, hF⟩ := hq c hc
   have hfn : fnN fs[c] ≤ 1048576 := by
    exact tl127
   have CA : Kp (∀ W, Below W0.heap.size W0 W → Calls Tryz.prog 28 #[fnV fs[c] vp vb, .int .i64 B, .int .i64 I] W fun e w' => e = .returned (.bool (decide (0 ≤ B ∧ B < fs[c].blocks.length ∧ 0 ≤ I ∧ I < (fs[c].blocks.getD B.toNat []).length))) ∧ Below W.heap.size W w') := ⟨fun W hB => l2AtS fs[c] vp vb B I W ((hF.keep B0).keep hB).f hfn⟩
   have FK : Kp (∀ W, Below W0.heap.size W0 W → FcAt lo W bF (oF + c * 5) fs[c] vp vb) := ⟨fun W hB => (hF.keep B0).keep hB⟩
   have ec : calD fs (c : Int) = fs[c] := by simp [calD, hc]
   rw [ec] at hbad
   by_cases h3 : 0 ≤ B ∧ B < fs[c].blocks.length ∧ 0 ≤ I ∧ I < (fs[c].blocks.getD B.toNat []).length
   ·obtain ⟨b, rfl⟩ : ∃ b : Nat, B = b := ⟨B.toNat, by omega⟩
    obtain ⟨i, rfl⟩ : ∃ i : Nat, I = i := ⟨I.toNat, by omega⟩
    rw [decide_eq_true h3] at CA
    have hb : b < fs[c].blocks.length := by omega
    rw [Int.toNat_natCast, show fs[c].blocks.getD b [] = fs[c].blocks[b] by simp [List.getD_eq_getElem?_getD, hb]] at h3
    have hi : i < fs[c].blocks[b].length := by omega
    obtain ⟨e, G, S⟩ := hgd.out rfl c b i rfl rfl rfl hc hb hi
    have hr := rOf_small hm c hc b i
    have CR : Kp (∀ W, Below W0.heap.size W0 W → Calls Tryz.prog 30 #[fnV fs[c] vp vb, .int .i64 b, .int .i64 i] W fun e w' => e = .returned (.int .i64 (rOf b i fs[c].params.length (blPl 0 fs[c].blocks))) ∧ Below W.heap.size W w') := ⟨fun W hB => resOfS fs[c] vp vb b i W ((hF.keep B0).keep hB).f hfn⟩
    obtain ⟨r, hre⟩ : ∃ r, rOf b i fs[c].params.length (blPl 0 fs[c].blocks) = r := ⟨_, rfl⟩
    rw [hre] at e hr CR
    have CL : Kp (∀ W, Below W0.heap.size W0 W → Calls Tryz.prog 29 #[.agg #[.slice aG gs.length cG, .slice (some ⟨bF, oF, none⟩) fs.length cF], fnV fs[c] vp vb, .int .i64 b, .int .i64 i, .int .i64 r] W fun e w' => e = .returned (.string L) ∧ Below W.heap.size W w') := ⟨fun W hB => by
     rw [e]
     exact l3LineS gs fs _ _ fs[c] vp vb b i r W ((hM.keep B0).keep hB) ((hF.keep B0).keep hB).f hb hi G S hm (by omega) (by omega)⟩
    clear hbad hgd hM hq hm hbd n1 t1 t2 t3 h2 h3 hfn hF B0 hre hr G S e ec hb hi
    obtain ⟨f, hf⟩ : ∃ f, fs[c] = f := ⟨_, rfl⟩
    rw [hf] at FK CA CR CL
    clear hf hc
    replace B0 := Kp.mk (show Below w.heap.size w W0 by rw [hW.out]; exact bel_alloc _ _)
    obtain ⟨fn, lk, ps, rs, bls⟩ := f
    dsimp only [fnV] at *
    generalize fs.length = nf at *
    go_enter Tryz.func12, Tryz.ntmps12
    go_upto_region 1 with fail
    rw [← hW.out]
    go_wp2_with fail
    refine (CS.out _ (Below.refl _ _)).mono ?_
    rintro e w1 ⟨rfl, hb1⟩
    clear m0 m1
    obtain ⟨m0, m1⟩ := SK.out _ hb1
    obtain ⟨d0, d1, d2, d3, d4, -⟩ := FK.out _ hb1
    go_wp2_with fail
    refine (CA.out _ hb1).mono ?_
    rintro e w2 ⟨rfl, hb2⟩
    have hB := bel_trans hb1 hb2
    clear m0 m1 d0 d1 d2 d3 d4
    obtain ⟨m0, m1⟩ := SK.out _ hB
    obtain ⟨d0, d1, d2, d3, d4, -⟩ := FK.out _ hB
    have QR : Kp (∀ d os, Calls Tryz.prog 30 _ (Go.Sort.grow (redrawn w2 d) os) _) := ⟨fun d os => Calls.regrown_of (CR.out (Go.Sort.grow (redrawn w2 d) os) (bel_trans hB (below_regrown w2 d os)))⟩
    have QL : Kp (∀ d os, Calls Tryz.prog 29 _ (Go.Sort.grow (redrawn w2 d) os) _) := ⟨fun d os => Calls.regrown_of (CL.out (Go.Sort.grow (redrawn w2 d) os) (bel_trans hB (below_regrown w2 d os)))⟩
    go_upto_region 3 with fail
    have r0 := cell_regrown m0
    have r1 := cell_regrown m1
    have r2 := cell_regrown d0
    have r3 := cell_regrown d1
    have r4 := cell_regrown d2
    have r5 := cell_regrown d3
    have r6 := cell_regrown d4
    refine wp_region_quiet_below (by kernel_rfl) (by kernel_rfl) ?_
    repeat (go_big_quiet_step (fail))
    go_big_quiet_step (exact QR.out _ _)
    repeat (go_big_quiet_step (fail))
    go_big_quiet_step (exact QL.out _ _)
    repeat (go_big_quiet_step (fail))
    refine wpQuiet_nil ?_
    intro _ hw'
    obtain ⟨⟨dq, osq⟩, hw''⟩ := hw'
    subst hw''
    have hb4 := below_regrown w2 dq osq
    generalize Go.Sort.grow (redrawn w2 dq) osq = V at *
    go_wp2_with fail
    go_ret
    exact ⟨rfl, bel_trans B0.out (bel_trans hB hb4)⟩
   ·rw [decide_eq_false h3] at CA
    obtain rfl := hbad.out (fun h => h3 ⟨h.2.2.2.1, h.2.2.2.2.1, h.2.2.2.2.2.1, h.2.2.2.2.2.2⟩)
    clear hbad hgd hM hq hm hbd n1 t1 t2 t3 h2 h3 hfn hF B0 ec
    obtain ⟨f, hf⟩ : ∃ f, fs[c] = f := ⟨_, rfl⟩
    rw [hf] at FK CA
    clear hf hc
    replace B0 := Kp.mk (show Below w.heap.size w W0 by rw [hW.out]; exact bel_alloc _ _)
    obtain ⟨fn, lk, ps, rs, bls⟩ := f
    dsimp only [fnV] at *
    generalize fs.length = nf at *
    go_enter Tryz.func12, Tryz.ntmps12
    go_upto_region 1 with fail
    rw [← hW.out]
    go_wp2_with fail
    refine (CS.out _ (Below.refl _ _)).mono ?_
    rintro e w1 ⟨rfl, hb1⟩
    clear m0 m1
    obtain ⟨m0, m1⟩ := SK.out _ hb1
    obtain ⟨d0, d1, d2, d3, d4, -⟩ := FK.out _ hb1
    go_wp2_with fail
    refine (CA.out _ hb1).mono ?_
    rintro e w2 ⟨rfl, hb2⟩
    go_wp2_with fail
    go_ret
    exact ⟨rfl, bel_trans B0.out (bel_trans hb1 hb2)⟩
  ·obtain rfl := hbad.out (fun h => h2 ⟨h.2.1, h.2.2.1⟩)
   clear hbad hgd hM hq hm hbd t1 t2 t3
   by_cases h3 : F < 0
   ·go_enter Tryz.func12, Tryz.ntmps12
    exact tl60
   ·have h4 : (fs.length : Int) ≤ F := by omega
    go_enter Tryz.func12, Tryz.ntmps12
    go_upto_region 1 with fail
    rw [← hW.out]
    go_wp2_with fail
    refine (CS.out _ (Below.refl _ _)).mono ?_
    rintro e w1 ⟨rfl, hb1⟩
    clear m0 m1
    obtain ⟨m0, m1⟩ := SK.out _ hb1
    go_wp2_with fail
    go_ret
    exact ⟨rfl, bel_trans B0 hb1⟩
 ·obtain rfl := hbad.out (fun h => h1 h.1)
  have hb : (f1 == 0) = false := beq_false_of_ne h1
  clear hbad hgd hM hq hm hbd t1 t2 t3
  go_enter Tryz.func12, Tryz.ntmps12
  exact tl60
end Go.Proofs.YtgdcgjlmkmdklaaGreatDoor
