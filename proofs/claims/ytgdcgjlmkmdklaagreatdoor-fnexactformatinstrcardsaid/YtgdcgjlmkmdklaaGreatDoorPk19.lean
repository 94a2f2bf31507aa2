/- Texts of one claim. -/
import Derived.Test.YtgdcgjlmkmdklaaGreatDoorPk0
import Derived.Test.YtgdcgjlmkmdklaaGreatDoorPk18
import Derived.Test.YtgdcgjlmkmdklaaGreatDoorPk12
namespace Go.Proofs.YtgdcgjlmkmdklaaGreatDoor
open Go.ChangeShapes Go.WideShapes Go.ChangeAt Go.RowKit
set_option linter.unusedVariables false
set_option linter.unusedSimpArgs false
theorem inD_get {xs : List OpD} {k : Nat} (h : k < xs.length) : xs.getD k default = xs[k] := by simp [List.getD_eq_getElem?_getD, h]
structure InC (W : World) (B : Nat) (op ty fl pr ca sz : Int) (va vl vs : Value) : Prop where
 c0 : At W B 0 (.int .i64 op)
 c1 : At W B 1 (.int .i64 ty)
 c2 : At W B 2 (.int .i64 fl)
 c3 : At W B 3 (.int .i64 pr)
 c4 : At W B 4 (.int .i64 ca)
 c5 : At W B 5 (.int .i64 sz)
 c6 : At W B 6 va
 c7 : At W B 7 vl
 c8 : At W B 8 vs
theorem inC_of {W : World} {B : Nat} {op ty fl pr ca sz : Int} {va vl vs : Value} {T : TypeId} (h : W.heap[B]? = some (Go.Obj.cells #[.int .i64 op, .int .i64 ty, .int .i64 fl, .int .i64 pr, .int .i64 ca, .int .i64 sz, va, vl, vs] T)) : InC W B op ty fl pr ca sz va vl vs := by
 exact tl65
structure InR (R : Int) (T H C G A S P : Bool) : Prop where
 f5 : T = false → R = 5
 f6 : T = true → H = false → R = 6
 f6c : T = true → H = true → C = false → R = 6
 f7 : T = true → H = true → C = true → G = false → R = 7
 f8 : T = true → H = true → C = true → G = true → A = false → R = 8
 f8s : T = true → H = true → C = true → G = true → A = true → S = false → R = 8
 f9 : T = true → H = true → C = true → G = true → A = true → S = true → P = true → R = 9
 f0 : T = true → H = true → C = true → G = true → A = true → S = true → P = false → R = 0
theorem inR_of {R : Int} {T H C G A S P : Bool} (h : R = if T = false then 5 else if H = false then 6 else if C = false then 6 else if G = false then 7 else if A = false then 8 else if S = false then 8 else if P = true then 9 else 0) : InR R T H C G A S P := by
 subst h
 constructor
 all_goals intros; simp [*]
theorem argB_iff (ng : Nat) (ts : List Int) (fs : List FnD) (f : FnD) (x : InD) : argB ng ts fs f x = true ↔ ∀ k, k < x.args.length → opB ng ts (x.args.getD k default) = true ∧ wanB fs f x k (x.args.getD k default).t = true := by
 unfold argB
 exact tl101
theorem any_take_iff (ys : List InD) (i0 : Nat) (h : i0 ≤ ys.length) : ((ys.take i0).any fun y => decide (y.op ≠ 20)) = false ↔ ∀ j, j < i0 → (ys.getD j default).op = 20 := by
 have q := all_take_iff_getD ys default (fun y => decide (y.op = 20)) i0 h
 rw [show ((ys.take i0).any fun y => decide (y.op ≠ 20)) = !((ys.take i0).all fun y => decide (y.op = 20)) by
  rw [List.not_all_eq_any_not]
  simp]
 rw [Bool.not_eq_false', q]
 simp
structure FnC (W : World) (B : Nat) (name : ByteArray) (link res : Int) (vp vb : Value) : Prop where
 c0 : At W B 0 (.string name)
 c1 : At W B 1 (.int .i64 link)
 c2 : At W B 2 vp
 c3 : At W B 3 (.int .i64 res)
 c4 : At W B 4 vb
theorem fnC_of {W : World} {B : Nat} {name : ByteArray} {link res : Int} {vp vb : Value} {T : TypeId} (h : W.heap[B]? = some (Go.Obj.cells #[.string name, .int .i64 link, vp, .int .i64 res, vb] T)) : FnC W B name link res vp vb :=
 ⟨cells_at h rfl, cells_at h rfl, cells_at h rfl, cells_at h rfl, cells_at h rfl⟩
structure MoC (W : World) (B : Nat) (vg vf : Value) : Prop where
 c0 : At W B 0 vg
 c1 : At W B 1 vf
theorem moC_of {W : World} {B : Nat} {vg vf : Value} {T : TypeId} (h : W.heap[B]? = some (Go.Obj.cells #[vg, vf] T)) : MoC W B vg vf := ⟨cells_at h rfl, cells_at h rfl⟩
set_option maxHeartbeats 4000000 in
theorem cntA_nn (fs : List FnD) (f : FnD) (x : InD) (h : ¬ x.op = 20) : 0 ≤ cntA fs f x := by
 unfold cntA
 rw [if_neg h]
 repeat' split
 all_goals omega
theorem cntT_nn (x : InD) (h : ¬ x.op = 20) : 0 ≤ cntT x := by
 unfold cntT
 rw [if_neg h]
 repeat' split
 all_goals omega
theorem hd_call {fs : List FnD} {bk : Int} {x : InD} (h : hdB fs bk x = true) (e : x.op = 25) : 0 ≤ x.ca ∧ x.ca < fs.length := by
 unfold hdB at h
 simp only [Bool.and_eq_true] at h
 have q := h.2.2.2.2.2.2
 unfold ownB at q
 rw [e] at q
 simp at q
 omega
theorem hd_words {fs : List FnD} {bk : Int} {x : InD} (h : hdB fs bk x = true) (e : 0 < x.ws.length) : x.op = 29 := by
 unfold hdB at h
 simp only [Bool.and_eq_true] at h
 have q := h.2.2.2.2.2.1
 simp at q
 rcases q with q | q
 ·exact q
 ·rw [q] at e; simp at e
set_option maxRecDepth 100000 in
set_option maxHeartbeats 4000000 in
theorem l2Ins (gs : List GlD) (fs : List FnD) (vg vf : Value) (f : FnD) (vp vb : Value) (ts : List Int) (vt : Value) (bk i0 : Nat) (ys : List InD) (w : World) {lo l2 : Nat} (hm : MoAt lo w gs fs vg vf) (hf : FnAt lo w f vp vb) (ht : Ints l2 .i64 w vt ts) (hbk : bk < f.blocks.length) (hys : f.blocks[bk] = ys) (hi0 : i0 < ys.length) (hbd : ∀ x ∈ ys, InB x) :
  Calls Tryz.prog 50 #[moV vg vf, fnV f vp vb, vt, .int .i64 bk, .int .i64 i0] w fun e w' => e = .returned (.int .i64 (inF gs.length ts fs f bk (ys.take i0) (ys.getD i0 default))) ∧ Below w.heap.size w w' := by
 have hgx : ys.getD i0 default = ys[i0] := by simp [List.getD_eq_getElem?_getD, hi0]
 obtain ⟨name, link, params, res, blocks⟩ := f
 dsimp only at hbk hys
 obtain ⟨hnm, hp, hb⟩ := hf
 obtain ⟨bt, ot, ⟨⟨at', ct, rfl, t1, t2⟩, t3⟩, -, htc⟩ := ht.ex
 obtain ⟨_, _, ⟨⟨a3, c3, rfl, -, -⟩, -⟩, -, -⟩ := hp.ex
 obtain ⟨b4, o4, ⟨⟨a4, c4, rfl, z1, z2⟩, z3⟩, -, hbc⟩ := hb.ex
 dsimp only at *
 obtain rfl := z2 (by omega)
 obtain ⟨a1, c1, rfl⟩ := hm.g.shape
 obtain ⟨a2, c2, rfl⟩ := hm.f.shape
 obtain ⟨vi, cvi, hvi⟩ := hbc bk hbk
 rw [hys] at hvi
 obtain ⟨bi, oi, ⟨⟨ai, ci, rfl, y1, y2⟩, y3⟩, -, hic⟩ := hvi.ex
 obtain rfl := y2 (by omega)
 obtain ⟨va, vl, vs, hx⟩ := hic i0 hi0
 have hgs : gs.length ≤ 140737488355328 := by obtain ⟨_, _, q, _⟩ := hm.g.ex; exact q.le
 have OPS : Kp (∀ j (h : j < ys.length), At w bi (oi + j * 9) (.int .i64 (ys.getD j default).op)) := ⟨fun j h => by
  obtain ⟨_, _, _, q⟩ := hic j h
  rw [show ys.getD j default = ys[j] by simp [List.getD_eq_getElem?_getD, h]]
  exact q.c0⟩
 have hOB : InB ys[i0] := hbd _ (List.getElem_mem hi0)
 rw [hgx]
 generalize ys[i0] = X at *
 have hxl := hx.l
 obtain ⟨ba, oa, ⟨⟨aa, ca', rfl, k1, k2⟩, k3⟩, -, hac⟩ := hxl.a.ex
 obtain ⟨bl', ol', ⟨⟨al, cl, rfl, m1, m2⟩, m3⟩, -, hlc⟩ := hxl.b.ex
 obtain ⟨bs, os, ⟨⟨as', cs, rfl, n1, n2⟩, n3⟩, -, hsc⟩ := hxl.c.ex
 obtain ⟨W0, hW⟩ : ∃ W0, W0 = (w.alloc (Go.Obj.cells #[.slice a1 gs.length c1, .slice a2 fs.length c2] 33)).alloc (Go.Obj.cells #[.string name, .int .i64 link, .slice a3 params.length c3, .int .i64 res, .slice (some ⟨b4, o4, none⟩) blocks.length c4] 53) := ⟨_, rfl⟩
 have B0 : Below w.heap.size w W0 := by rw [hW]; exact bel_trans (bel_alloc _ _) (bel_alloc _ _)
 have hz0 : W0.heap.size = w.heap.size + 1 + 1 := by rw [hW]; simp
 have mC0 : W0.heap[w.heap.size]? = some (Go.Obj.cells #[.slice a1 gs.length c1, .slice a2 fs.length c2] 33) := by rw [hW]; exact kept_at (new_at w _) (bel_alloc _ _)
 have fC0 : W0.heap[w.heap.size + 1]? = some (Go.Obj.cells #[.string name, .int .i64 link, .slice a3 params.length c3, .int .i64 res, .slice (some ⟨b4, o4, none⟩) blocks.length c4] 53) := by
  rw [hW]
  have := new_at (w.alloc (Go.Obj.cells #[.slice a1 gs.length c1, .slice a2 fs.length c2] 33)) (Go.Obj.cells #[.string name, .int .i64 link, .slice a3 params.length c3, .int .i64 res, .slice (some ⟨b4, o4, none⟩) blocks.length c4] 53)
  rwa [World.size_alloc] at this
 have fc4 : At W0 (w.heap.size + 1) 4 _ := cells_at fC0 rfl
 have cv0 := at_keep cvi B0
 obtain ⟨q0, q1, q2, q3, q4, q5, q6, q7, q8, -⟩ := hx.keep B0
 obtain ⟨W1, hW1⟩ : ∃ W1, W1 = W0.alloc (Go.Obj.cells #[.int .i64 X.op, .int .i64 X.ty, .int .i64 X.fl, .int .i64 X.pr, .int .i64 X.ca, .int .i64 X.sz, .slice aa X.args.length ca', .slice al X.bl.length cl, .slice as' X.ws.length cs] 73) := ⟨_, rfl⟩
 have B1 : Below W0.heap.size W0 W1 := by rw [hW1]; exact bel_alloc _ _
 have B01 := bel_trans B0 B1
 have MC : Kp (∀ W, Below W1.heap.size W1 W → MoC W w.heap.size (.slice a1 gs.length c1) (.slice a2 fs.length c2)) := ⟨fun W hB => moC_of (kept_at mC0 (bel_trans B1 hB))⟩
 have FC : Kp (∀ W, Below W1.heap.size W1 W → FnC W (w.heap.size + 1) name link res (.slice a3 params.length c3) (.slice (some ⟨b4, o4, none⟩) blocks.length c4)) := ⟨fun W hB => fnC_of (kept_at fC0 (bel_trans B1 hB))⟩
 have IC : Kp (∀ W, Below W1.heap.size W1 W → InC W (w.heap.size + 1 + 1) X.op X.ty X.fl X.pr X.ca X.sz (.slice aa X.args.length ca') (.slice al X.bl.length cl) (.slice as' X.ws.length cs)) := ⟨fun W hB => by
  have q := new_at W0 (Go.Obj.cells #[.int .i64 X.op, .int .i64 X.ty, .int .i64 X.fl, .int .i64 X.pr, .int .i64 X.ca, .int .i64 X.sz, .slice aa X.args.length ca', .slice al X.bl.length cl, .slice as' X.ws.length cs] 73)
  rw [← hW1, hz0] at q
  exact inC_of (kept_at q hB)⟩
 have CV : Kp (∀ W, Below W1.heap.size W1 W → At W b4 (o4 + bk) (.slice (some ⟨bi, oi, none⟩) ys.length ci)) := ⟨fun W hB => at_keep cvi (bel_trans B01 hB)⟩
 have OPW : Kp (∀ W, Below W1.heap.size W1 W → ∀ j (h : j < ys.length), At W bi (oi + j * 9) (.int .i64 (ys.getD j default).op)) := ⟨fun W hB j h => at_keep (OPS.out j h) (bel_trans B01 hB)⟩
 have LC : Kp (∀ W, Below W1.heap.size W1 W → ∀ j (h : j < X.bl.length), At W bl' (ol' + j) (.int .i64 (X.bl.getD j 0))) := ⟨fun W hB j h => by
  rw [show X.bl.getD j 0 = X.bl[j] by simp [List.getD_eq_getElem?_getD, h]]
  exact at_keep (hlc j h) (bel_trans B01 hB)⟩
 have SC : Kp (∀ W, Below W1.heap.size W1 W → ∀ j (h : j < X.ws.length), At W bs (os + j) (.int .u64 (X.ws.getD j 0))) := ⟨fun W hB j h => by
  rw [show X.ws.getD j 0 = X.ws[j] by simp [List.getD_eq_getElem?_getD, h]]
  exact at_keep (hsc j h) (bel_trans B01 hB)⟩
 have AC : Kp (∀ W, Below W1.heap.size W1 W → ∀ j (h : j < X.args.length), OpAt W ba (oa + j * 4) (X.args.getD j default)) := ⟨fun W hB j h => by
  rw [inD_get h]
  exact (hac j h).keep (bel_trans B01 hB)⟩
 have CT : Kp (∀ w, Calls Tryz.prog 87 #[.int .i64 X.op] w fun e w' => e = .returned (.bool (tabB X.op)) ∧ w' = w) := ⟨fun w => tabS X.op w⟩
 have CH : Kp (∀ W, Below W1.heap.size W1 W → Calls Tryz.prog 88 #[.agg #[.slice a1 gs.length c1, .slice a2 fs.length c2], .agg #[.string name, .int .i64 link, .slice a3 params.length c3, .int .i64 res, .slice (some ⟨b4, o4, none⟩) blocks.length c4], .int .i64 bk, .agg #[.int .i64 X.op, .int .i64 X.ty, .int .i64 X.fl, .int .i64 X.pr, .int .i64 X.ca, .int .i64 X.sz, .slice aa X.args.length ca', .slice al X.bl.length cl, .slice as' X.ws.length cs]] W fun e w' => e = .returned (.bool (hdB fs bk X)) ∧ Below W.heap.size W w') := ⟨fun W hB => l2Head gs fs _ _ ⟨name, link, params, res, blocks⟩ _ _ bk X _ _ _ W (hm.keep (bel_trans B01 hB)) ⟨_, _, _, rfl⟩ ⟨_, _, _, rfl⟩ (hxl.keep (bel_trans B01 hB))⟩
 have CC : Kp (hdB fs bk X = true → ∀ W, Below W1.heap.size W1 W → Calls Tryz.prog 89 #[.agg #[.slice a1 gs.length c1, .slice a2 fs.length c2], .agg #[.string name, .int .i64 link, .slice a3 params.length c3, .int .i64 res, .slice (some ⟨b4, o4, none⟩) blocks.length c4], .agg #[.int .i64 X.op, .int .i64 X.ty, .int .i64 X.fl, .int .i64 X.pr, .int .i64 X.ca, .int .i64 X.sz, .slice aa X.args.length ca', .slice al X.bl.length cl, .slice as' X.ws.length cs]] W fun e w' => e = .returned (.agg #[.int .i64 (cntA fs ⟨name, link, params, res, blocks⟩ X), .int .i64 (cntT X)]) ∧ Below W.heap.size W w') := ⟨fun hh W hB => l2Cnt gs fs _ _ ⟨name, link, params, res, blocks⟩ _ _ X _ _ _ W (hm.keep (bel_trans B01 hB)) ⟨_, _, _, rfl⟩ ⟨_, _, _, rfl⟩ (hxl.keep (bel_trans B01 hB)) (hd_call hh)⟩
 have CO : Kp (∀ W, Below W1.heap.size W1 W → ∀ j (h : j < X.args.length), Calls Tryz.prog 90 #[.agg #[.slice a1 gs.length c1, .slice a2 fs.length c2], .slice at' ts.length ct, opV4 (X.args.getD j default)] W fun e w' => e = .returned (.bool (opB gs.length ts (X.args.getD j default))) ∧ Below W.heap.size W w') := ⟨fun W hB j h => by
  have hq := hOB.a _ (show X.args.getD j default ∈ X.args by rw [inD_get h]; exact List.getElem_mem _)
  exact l2Op a1 gs.length c1 _ _ ts _ W (ht.keep (bel_trans B01 hB)) hgs ⟨_, _, _, rfl⟩ hq.w0 hq.w1⟩
 have CW : Kp (hdB fs bk X = true → cntB fs ⟨name, link, params, res, blocks⟩ X = true → ∀ W, Below W1.heap.size W1 W → ∀ j (h : j < X.args.length), Calls Tryz.prog 91 #[.agg #[.slice a1 gs.length c1, .slice a2 fs.length c2], .agg #[.string name, .int .i64 link, .slice a3 params.length c3, .int .i64 res, .slice (some ⟨b4, o4, none⟩) blocks.length c4], .agg #[.int .i64 X.op, .int .i64 X.ty, .int .i64 X.fl, .int .i64 X.pr, .int .i64 X.ca, .int .i64 X.sz, .slice aa X.args.length ca', .slice al X.bl.length cl, .slice as' X.ws.length cs], .int .i64 j] W fun e w' => e = .returned (.bool (wanB fs ⟨name, link, params, res, blocks⟩ X j (X.args.getD j default).t)) ∧ Below W.heap.size W w') := ⟨fun hh hcn W hB j h => by
  rw [inD_get h]
  refine l2Wan gs fs _ _ ⟨name, link, params, res, blocks⟩ _ _ X _ _ _ j W (hm.keep (bel_trans B01 hB)) ⟨_, _, _, rfl⟩ ⟨_, _, _, rfl⟩ (hxl.keep (bel_trans B01 hB)) h (fun e => ?_)
  obtain ⟨p1, p2⟩ := hd_call hh e
  refine ⟨p1, p2, ?_⟩
  unfold cntB at hcn
  rw [e] at hcn
  simp [cntA, e] at hcn
  omega⟩
 have CI : Kp (∀ w j, j < X.ws.length → Calls Tryz.prog 92 #[.int .i64 (X.args.getD 0 default).t, .int .u64 (X.ws.getD j 0)] w fun e w' => e = .returned (.bool (isW (X.args.getD 0 default).t (X.ws.getD j 0))) ∧ w' = w) := ⟨fun w j h => by
  have hq := hOB.c _ (show X.ws.getD j 0 ∈ X.ws by rw [show X.ws.getD j 0 = X.ws[j] by simp [List.getD_eq_getElem?_getD, h]]; exact List.getElem_mem _)
  exact isS_any _ _ w hq.1 hq.2⟩
 have ATG := Kp.mk (all_iff_getD X.bl (0 : Int) (fun b => decide (0 ≤ b) && decide (b < blocks.length)))
 have ACA := Kp.mk (all_iff_getD X.ws (0 : Int) (fun v => isW (X.args.getD 0 default).t v))
 have APH := Kp.mk (any_take_iff ys i0 (by omega))
 have AAR := Kp.mk (argB_iff gs.length ts fs ⟨name, link, params, res, blocks⟩ X)
 have HD20 : Kp (X.op = 20 → cntA fs ⟨name, link, params, res, blocks⟩ X = -1 ∧ cntT X = -1 ∧ cntB fs ⟨name, link, params, res, blocks⟩ X = (decide (0 < X.args.length) && decide (X.args.length = X.bl.length))) := ⟨fun e => ⟨by simp [cntA, e], by simp [cntT, e], by simp [cntB, e]⟩⟩
 have HD21 : Kp (¬ X.op = 20 → 0 ≤ cntA fs ⟨name, link, params, res, blocks⟩ X ∧ 0 ≤ cntT X ∧ cntB fs ⟨name, link, params, res, blocks⟩ X = (decide ((X.args.length : Int) = cntA fs ⟨name, link, params, res, blocks⟩ X) && decide ((X.bl.length : Int) = cntT X))) := ⟨fun e => ⟨cntA_nn _ _ _ e, cntT_nn _ e, by simp [cntB, e]⟩⟩
 have WRD : Kp (hdB fs bk X = true → cntB fs ⟨name, link, params, res, blocks⟩ X = true → 0 < X.ws.length → 0 < X.args.length) := ⟨fun hh hcn h => by
  have e := hd_words hh h
  unfold cntB at hcn
  rw [e] at hcn
  simp [cntA, e] at hcn
  omega⟩
 obtain ⟨R, hR⟩ : ∃ R, R = inF gs.length ts fs ⟨name, link, params, res, blocks⟩ bk (ys.take i0) X := ⟨_, rfl⟩
 rw [← hR]
 have RR : Kp (InR R (tabB X.op) (hdB fs bk X) (cntB fs ⟨name, link, params, res, blocks⟩ X) (X.bl.all fun b => decide (0 ≤ b) && decide (b < blocks.length)) (argB gs.length ts fs ⟨name, link, params, res, blocks⟩ X) (casB X) (decide (X.op = 20) && (ys.take i0).any fun y => decide (y.op ≠ 20))) := ⟨inR_of hR⟩
 rw [show casB X = X.ws.all fun v => isW (X.args.getD 0 default).t v from rfl] at RR
 generalize argB gs.length ts fs ⟨name, link, params, res, blocks⟩ X = AB at *
 generalize (X.bl.all fun b => decide (0 ≤ b) && decide (b < blocks.length)) = GB at *
 generalize (X.ws.all fun v => isW (X.args.getD 0 default).t v) = SB at *
 generalize ((ys.take i0).any fun y => decide (y.op ≠ 20)) = PB at *
 generalize cntB fs ⟨name, link, params, res, blocks⟩ X = CB at *
 generalize cntA fs ⟨name, link, params, res, blocks⟩ X = CA at *
 generalize cntT X = CTT at *
 generalize hdB fs bk X = HB at *
 generalize tabB X.op = TB at *
 have g1 : (X.args.length : Int) ≤ 140737488355328 := by omega
 have g2 : (X.bl.length : Int) ≤ 140737488355328 := by omega
 have g3 : (X.ws.length : Int) ≤ 140737488355328 := by omega
 have g4 : (blocks.length : Int) ≤ 140737488355328 := by omega
 have g5 : (ys.length : Int) ≤ 140737488355328 := by omega
 have hbk' : (bk : Int) < blocks.length := by omega
 have hi0' : (i0 : Int) < ys.length := by omega
 replace hW := Kp.mk hW
 replace hW1 := Kp.mk hW1
 replace hbk := Kp.mk hbk
 replace hi0 := Kp.mk hi0
 replace k2 := Kp.mk k2
 replace m2 := Kp.mk m2
 replace n2 := Kp.mk n2
 clear hR hbd hOB hys hb hp ht hm hvi hic hbc hac hlc hsc htc hx hxl mC0 fC0 hgx z2 y2 cvi t2 OPS
 go_enter Tryz.func50, Tryz.ntmps50
 go_upto_region 1 with fail
 rw [← hW.out]
 go_upto_region 2 with fail
 rw [← hW1.out]
 clear fc4 cv0 q0 q1 q2 q3 q4 q5 q6 q7 q8
 obtain ⟨e0, e1, e2, e3, e4, e5, e6, e7, e8⟩ := IC.out W1 (Below.refl _ _)
 obtain ⟨f0, f1, f2, f3, f4⟩ := FC.out W1 (Below.refl _ _)
 obtain ⟨m0, m1⟩ := MC.out W1 (Below.refl _ _)
 cases TB with
 | false =>
  have hf : Kp (R = 5) := ⟨RR.out.f5 rfl⟩
  go_wp2_with fail
  refine (CT.out _).mono ?_
  rintro e w2 ⟨rfl, rfl⟩
  go_wp2_with fail
  go_ret
  exact ⟨ret_int hf.out.symm, B01⟩
 | true =>
  cases HB with
  | false =>
   have hf : Kp (R = 6) := ⟨RR.out.f6 rfl rfl⟩
   go_wp2_with fail
   refine (CT.out _).mono ?_
   rintro e w2 ⟨rfl, rfl⟩
   go_wp2_with fail
   refine (CH.out _ (Below.refl _ _)).mono ?_
   rintro e w3 ⟨rfl, hb3⟩
   go_wp2_with fail
   go_ret
   exact ⟨ret_int hf.out.symm, bel_trans B01 hb3⟩
  | true =>
   have CC' := Kp.mk (CC.out rfl)
   clear CC
   go_wp2_with fail
   refine (CT.out _).mono ?_
   rintro e w2 ⟨rfl, hw2⟩
   subst w2
   go_wp2_with fail
   refine (CH.out _ (Below.refl _ _)).mono ?_
   rintro e w2 ⟨rfl, hb2⟩
   clear e0 e1 e2 e3 e4 e5 e6 e7 e8 f0 f1 f2 f3 f4 m0 m1
   obtain ⟨e0, e1, e2, e3, e4, e5, e6, e7, e8⟩ := IC.out _ hb2
   obtain ⟨f0, f1, f2, f3, f4⟩ := FC.out _ hb2
   obtain ⟨m0, m1⟩ := MC.out _ hb2
   go_wp2_with fail
   refine (CC'.out _ hb2).mono ?_
   rintro e w3 ⟨rfl, hb3⟩
   go_upto_region 7 with fail
   obtain ⟨w4, hw4⟩ : ∃ w4, w4 = w3.alloc (Go.Obj.cells #[.int .i64 CA, .int .i64 CTT] 131) := ⟨_, rfl⟩
   have hB4 : Below W1.heap.size W1 w4 := by rw [hw4]; exact bel_trans hb2 (bel_trans hb3 (bel_alloc _ _))
   have x4 := new_at w3 (Go.Obj.cells #[.int .i64 CA, .int .i64 CTT] 131)
   rw [← hw4] at x4
   rw [← hw4]
   have k0 : At w4 w3.heap.size 0 _ := cells_at x4 rfl
   have k1 : At w4 w3.heap.size 1 _ := cells_at x4 rfl
   clear e0 e1 e2 e3 e4 e5 e6 e7 e8 f0 f1 f2 f3 f4 m0 m1 hb2 hb3 x4
   obtain ⟨e0, e1, e2, e3, e4, e5, e6, e7, e8⟩ := IC.out _ hB4
   obtain ⟨f0, f1, f2, f3, f4⟩ := FC.out _ hB4
   obtain ⟨m0, m1⟩ := MC.out _ hB4
   replace hw4 := Kp.mk hw4
   have B4 := bel_trans B01 hB4
   by_cases h20 : X.op = 20
   ·obtain ⟨hA, hT, hC⟩ := HD20.out h20
    subst hA hT
    replace h20 := Kp.mk h20
    clear HD20 HD21
    cases CB with
    | false =>
     have hf : Kp (R = 6) := ⟨RR.out.f6c rfl rfl rfl⟩
     have hC' : ¬ (0 < X.args.length ∧ X.args.length = X.bl.length) := by
      rintro ⟨p, q⟩
      rw [decide_eq_true p, decide_eq_true q] at hC
      cases hC
     replace hC' := Kp.mk hC'
     clear hC
     by_cases z0 : (X.args.length : Int) = 0
     ·have z1 : ((X.args.length : Int) == 0) = true := by simp [z0]
      replace z0 := Kp.mk z0
      go_wp2_with fail
      go_ret
      exact ⟨ret_int hf.out.symm, B4⟩
     ·have z1 := nb z0
      have z2 : ((X.args.length : Int) != (X.bl.length : Int)) = true := nbT (fun e => hC'.out ⟨by omega, by omega⟩)
      have z3 : ((X.args.length : Int) == (X.bl.length : Int)) = false := by simpa [bne] using z2
      clear z0
      go_wp2_with fail
      go_ret
      exact ⟨ret_int hf.out.symm, B4⟩
    | true =>
     have z0 : ¬ (X.args.length : Int) = 0 := by simp at hC; omega
     have z1 := nb z0
     have z4 : (X.args.length : Int) = (X.bl.length : Int) := by simp at hC; omega
     have z2 : ((X.args.length : Int) != (X.bl.length : Int)) = false := by simp [z4]
     have z3 : ((X.args.length : Int) == (X.bl.length : Int)) = true := by simp [z4]
     clear z0 z4 hC
     as_aux_lemma =>
      go_wp2_with fail
      go_loopw [13] (fun r wr => ∃ i : Nat, i ≤ X.bl.length ∧ r = .int .i64 i ∧ Kp (∀ j, j < i → 0 ≤ X.bl.getD j 0 ∧ X.bl.getD j 0 < blocks.length) ∧ Below W1.heap.size W1 wr) (fun r _ => X.bl.length - (intOf r).toNat)
      case atStart => exact ⟨0, Nat.zero_le _, rfl, ⟨fun j hj => absurd hj (by omega)⟩, hB4⟩
      case round =>
       clear e0 e1 e2 e3 e4 e5 e6 e7 e8 f0 f1 f2 f3 f4 m0 m1 k0 k1 hB4 hw4
       obtain ⟨i, hi, rfl, hd, hB⟩ := hrel
       have B2 := bel_trans B01 hB
       obtain ⟨e0, e1, e2, e3, e4, e5, e6, e7, e8⟩ := IC.out _ hB
       obtain ⟨f0, f1, f2, f3, f4⟩ := FC.out _ hB
       by_cases hlt : i < X.bl.length
       ·obtain rfl := m2.out (by omega)
        have hlt' : (i : Int) < (X.bl.length : Int) := by omega
        have c0 := LC.out _ hB i hlt
        by_cases q : 0 ≤ X.bl.getD i 0 ∧ X.bl.getD i 0 < blocks.length
        ·have hd' : Kp (∀ j, j < i + 1 → 0 ≤ X.bl.getD j 0 ∧ X.bl.getD j 0 < blocks.length) := ⟨fun j hj => by
          by_cases e : j = i
          ·rw [e]; exact q
          ·exact hd.out j (by omega)⟩
         obtain ⟨qa, qb⟩ := q
         clear hd
         generalize X.bl.getD i 0 = u at *
         have d1 : decide (u < 0) = false := decide_eq_false (by omega)
         have d2 : decide ((blocks.length : Int) ≤ u) = false := decide_eq_false (by omega)
         go_wp2_with fail
         go_quiet (fail)
         go_wp2_with fail
         exact ⟨⟨i + 1, by omega, by go_num, hd', below_drewN hB _⟩, by simp [intOf]; omega⟩
        ·have hf : Kp (R = 7) := ⟨by
          refine RR.out.f7 (by trivial) (by trivial) (by trivial) ?_
          rw [Bool.eq_false_iff]
          intro t
          exact q (by simpa using ATG.out.1 t i hlt)⟩
         clear hd
         generalize X.bl.getD i 0 = u at *
         by_cases qa : u < 0
         ·have d1 : decide (u < 0) = true := decide_eq_true qa
          clear q qa
          go_wp2_with fail
          go_quiet (fail)
          go_wp2_with fail
          go_ret
          exact ⟨ret_int hf.out.symm, below_drewN B2 _⟩
         ·have d1 : decide (u < 0) = false := decide_eq_false qa
          have d2 : decide ((blocks.length : Int) ≤ u) = true := decide_eq_true (by omega)
          clear q qa
          go_wp2_with fail
          go_quiet (fail)
          go_wp2_with fail
          go_ret
          exact ⟨ret_int hf.out.symm, below_drewN B2 _⟩
       ·have hlt' : ¬ (i : Int) < (X.bl.length : Int) := by omega
        have hGB : Kp (GB = true) := ⟨ATG.out.2 (fun j hj => by simpa using hd.out j (by omega))⟩
        obtain ⟨wo, hwo⟩ : ∃ wo : World, wo = wr := ⟨_, rfl⟩
        have hBo : Below wo.heap.size wo wr := by rw [hwo]; exact Below.refl _ _
        rw [← hwo] at hB
        clear hwo hd B2 ATG m2 LC
        go_wp2_with fail
        clear e0 e1 e2 e3 e4 e5 e6 e7 e8 f0 f1 f2 f3 f4
        go_loopw [14] (fun r wr => ∃ i : Nat, i ≤ X.args.length ∧ r = .int .i64 i ∧ Kp (∀ j, j < i → opB gs.length ts (X.args.getD j default) = true ∧ wanB fs ⟨name, link, params, res, blocks⟩ X j (X.args.getD j default).t = true) ∧ Below wo.heap.size wo wr) (fun r _ => X.args.length - (intOf r).toNat)
        case atStart => exact ⟨0, Nat.zero_le _, rfl, ⟨fun j hj => absurd hj (by omega)⟩, hBo⟩
        case round =>
         clear hBo
         obtain ⟨i, hi, rfl, hd, hBq⟩ := hrel
         have hB1 := bel_trans hB hBq
         have B2 := bel_trans B01 hB1
         obtain ⟨e0, e1, e2, e3, e4, e5, e6, e7, e8⟩ := IC.out _ hB1
         by_cases hlt : i < X.args.length
         ·obtain rfl := k2.out (by omega)
          have hlt' : (i : Int) < (X.args.length : Int) := by omega
          obtain ⟨f0, f1, f2, f3, f4⟩ := FC.out _ hB1
          obtain ⟨m0, m1⟩ := MC.out _ hB1
          obtain ⟨oq, hoq⟩ : ∃ oq, oq = X.args.getD i default := ⟨_, rfl⟩
          have hac := AC.out _ hB1 i hlt
          have COi := Kp.mk (fun W (hW : Below wr.heap.size wr W) => CO.out W (bel_trans hB1 hW) i hlt)
          have CWi := Kp.mk (fun W (hW : Below wr.heap.size wr W) => CW.out (by trivial) (by trivial) W (bel_trans hB1 hW) i hlt)
          rw [← hoq] at hac COi CWi
          obtain ⟨a0, a1', a2', a3'⟩ := hac
          replace hoq := Kp.mk hoq
          have ke0 := cell_regrown e0
          have ke1 := cell_regrown e1
          have ke2 := cell_regrown e2
          have ke3 := cell_regrown e3
          have ke4 := cell_regrown e4
          have ke5 := cell_regrown e5
          have ke6 := cell_regrown e6
          have ke7 := cell_regrown e7
          have ke8 := cell_regrown e8
          have kf0 := cell_regrown f0
          have kf1 := cell_regrown f1
          have kf2 := cell_regrown f2
          have kf3 := cell_regrown f3
          have kf4 := cell_regrown f4
          have km0 := cell_regrown m0
          have km1 := cell_regrown m1
          have ka0 := cell_regrown a0
          have ka1 := cell_regrown a1'
          have ka2 := cell_regrown a2'
          have ka3 := cell_regrown a3'
          cases ho : opB gs.length ts oq with
          | false =>
           have hf : Kp (R = 8) := ⟨by
            refine RR.out.f8 (by trivial) (by trivial) (by trivial) hGB.out ?_
            rw [Bool.eq_false_iff]
            intro t
            rw [hoq.out, (AAR.out.1 t i hlt).1] at ho
            cases ho⟩
           rw [ho] at COi
           clear ho hd CWi
           have IO2 : Kp (∀ d os, Calls Tryz.prog 90 _ (Go.Sort.grow (redrawn wr d) os) _) := ⟨fun d os => Calls.regrown_of (COi.out _ (below_regrown wr d os))⟩
           go_wp2_with fail
           refine wp_region_quiet_below (by kernel_rfl) (by kernel_rfl) ?_
           repeat (go_big_quiet_step (fail))
           go_big_quiet_step (exact IO2.out _ _)
           repeat (go_big_quiet_step (fail))
           refine wpQuiet_nil ?_
           intro _ hw'
           obtain ⟨⟨dq, osq⟩, hw''⟩ := hw'
           subst hw''
           have hq := below_regrown wr dq osq
           go_wp2_with fail
           go_ret
           exact ⟨ret_int hf.out.symm, bel_trans B2 hq⟩
          | true =>
           cases hwn : wanB fs ⟨name, link, params, res, blocks⟩ X i oq.t with
           | false =>
            have hf : Kp (R = 8) := ⟨by
             refine RR.out.f8 (by trivial) (by trivial) (by trivial) hGB.out ?_
             rw [Bool.eq_false_iff]
             intro t
             rw [hoq.out, (AAR.out.1 t i hlt).2] at hwn
             cases hwn⟩
            rw [ho] at COi
            rw [hwn] at CWi
            clear ho hd hwn
            have IO2 : Kp (∀ d os, Calls Tryz.prog 90 _ (Go.Sort.grow (redrawn wr d) os) _) := ⟨fun d os => Calls.regrown_of (COi.out _ (below_regrown wr d os))⟩
            have IW2 : Kp (∀ d os, Calls Tryz.prog 91 _ (Go.Sort.grow (redrawn wr d) os) _) := ⟨fun d os => Calls.regrown_of (CWi.out _ (below_regrown wr d os))⟩
            go_wp2_with fail
            refine wp_region_quiet_below (by kernel_rfl) (by kernel_rfl) ?_
            repeat (go_big_quiet_step (fail))
            go_big_quiet_step (exact IO2.out _ _)
            repeat (go_big_quiet_step (fail))
            go_big_quiet_step (exact IW2.out _ _)
            repeat (go_big_quiet_step (fail))
            refine wpQuiet_nil ?_
            intro _ hw'
            obtain ⟨⟨dq, osq⟩, hw''⟩ := hw'
            subst hw''
            have hq := below_regrown wr dq osq
            go_wp2_with fail
            go_ret
            exact ⟨ret_int hf.out.symm, bel_trans B2 hq⟩
           | true =>
            have hd' : Kp (∀ j, j < i + 1 → opB gs.length ts (X.args.getD j default) = true ∧ wanB fs ⟨name, link, params, res, blocks⟩ X j (X.args.getD j default).t = true) := ⟨fun j hj => by
             by_cases e : j = i
             ·rw [e, ← hoq.out]; exact ⟨ho, hwn⟩
             ·exact hd.out j (by omega)⟩
            rw [ho] at COi
            rw [hwn] at CWi
            clear ho hd hwn
            have IO2 : Kp (∀ d os, Calls Tryz.prog 90 _ (Go.Sort.grow (redrawn wr d) os) _) := ⟨fun d os => Calls.regrown_of (COi.out _ (below_regrown wr d os))⟩
            have IW2 : Kp (∀ d os, Calls Tryz.prog 91 _ (Go.Sort.grow (redrawn wr d) os) _) := ⟨fun d os => Calls.regrown_of (CWi.out _ (below_regrown wr d os))⟩
            go_wp2_with fail
            refine wp_region_quiet_below (by kernel_rfl) (by kernel_rfl) ?_
            repeat (go_big_quiet_step (fail))
            go_big_quiet_step (exact IO2.out _ _)
            repeat (go_big_quiet_step (fail))
            go_big_quiet_step (exact IW2.out _ _)
            repeat (go_big_quiet_step (fail))
            refine wpQuiet_nil ?_
            intro _ hw'
            obtain ⟨⟨dq, osq⟩, hw''⟩ := hw'
            subst hw''
            have hq := below_regrown wr dq osq
            go_wp2_with fail
            exact ⟨⟨i + 1, by omega, by go_num, hd', bel_trans hBq hq⟩, by simp [intOf]; omega⟩
         ·have hlt' : ¬ (i : Int) < (X.args.length : Int) := by omega
          have hAB : Kp (AB = true) := ⟨AAR.out.2 (fun j hj => hd.out j (by omega))⟩
          obtain ⟨wp, hwp⟩ : ∃ wp : World, wp = wr := ⟨_, rfl⟩
          have hBp : Below wp.heap.size wp wr := by rw [hwp]; exact Below.refl _ _
          rw [← hwp] at hB1
          clear hwp hBq hd B2 AAR CO CW
          go_wp2_with fail
          clear e0 e1 e2 e3 e4 e5 e6 e7 e8
          go_loopw [15] (fun r wr => ∃ i : Nat, i ≤ X.ws.length ∧ r = .int .i64 i ∧ Kp (∀ j, j < i → isW (X.args.getD 0 default).t (X.ws.getD j 0) = true) ∧ Below wp.heap.size wp wr) (fun r _ => X.ws.length - (intOf r).toNat)
          case atStart => exact ⟨0, Nat.zero_le _, rfl, ⟨fun j hj => absurd hj (by omega)⟩, hBp⟩
          case round =>
           clear hBp
           obtain ⟨i, hi, rfl, hd, hBq⟩ := hrel
           have hB2 := bel_trans hB1 hBq
           have B2 := bel_trans B01 hB2
           obtain ⟨e0, e1, e2, e3, e4, e5, e6, e7, e8⟩ := IC.out _ hB2
           by_cases hlt : i < X.ws.length
           ·obtain rfl := n2.out (by omega)
            have hlt' : (i : Int) < (X.ws.length : Int) := by omega
            have hap := WRD.out (by trivial) (by trivial) (by omega)
            obtain rfl := k2.out hap
            have hap' : (0 : Int) < (X.args.length : Int) := by omega
            have a1' := (AC.out _ hB2 0 hap).c1
            simp only [Nat.zero_mul, Nat.add_zero] at a1'
            have c0 := SC.out _ hB2 i hlt
            have CIi := Kp.mk (fun w => CI.out w i hlt)
            cases hv : isW (X.args.getD 0 default).t (X.ws.getD i 0) with
            | false =>
             have hf : Kp (R = 8) := ⟨by
              refine RR.out.f8s (by trivial) (by trivial) (by trivial) hGB.out hAB.out ?_
              rw [Bool.eq_false_iff]
              intro t
              rw [ACA.out.1 t i hlt] at hv
              cases hv⟩
             rw [hv] at CIi
             clear hv hd
             generalize X.ws.getD i 0 = u at *
             generalize (X.args.getD 0 default).t = v at *
             go_wp2_with fail
             go_quiet ((go_at_call 92; exact Calls.quiet_of_same (CIi.out _)))
             go_wp2_with fail
             go_ret
             exact ⟨ret_int hf.out.symm, below_drewN B2 _⟩
            | true =>
             have hd' : Kp (∀ j, j < i + 1 → isW (X.args.getD 0 default).t (X.ws.getD j 0) = true) := ⟨fun j hj => by
              by_cases e : j = i
              ·rw [e]; exact hv
              ·exact hd.out j (by omega)⟩
             rw [hv] at CIi
             clear hv hd
             obtain ⟨u, hu⟩ : ∃ u, u = X.ws.getD i 0 := ⟨_, rfl⟩
             rw [← hu] at c0 CIi
             obtain ⟨v, hv⟩ : ∃ v, v = (X.args.getD 0 default).t := ⟨_, rfl⟩
             rw [← hv] at a1' CIi
             replace hu := Kp.mk hu
             replace hv := Kp.mk hv
             go_wp2_with fail
             go_quiet ((go_at_call 92; exact Calls.quiet_of_same (CIi.out _)))
             go_wp2_with fail
             exact ⟨⟨i + 1, by omega, by go_num, hd', below_drewN hBq _⟩, by simp [intOf]; omega⟩
           ·have hlt' : ¬ (i : Int) < (X.ws.length : Int) := by omega
            have hSB : Kp (SB = true) := ⟨ACA.out.2 (fun j hj => hd.out j (by omega))⟩
            clear hd
            obtain ⟨wt, hwt⟩ : ∃ wt : World, wt = wr := ⟨_, rfl⟩
            have hBt : Below wt.heap.size wt wr := by rw [hwt]; exact Below.refl _ _
            rw [← hwt] at hB2 B2
            clear hwt hBq
            have n20 : (X.op == 20) = true := by rw [h20.out]; rfl
            go_wp2_with fail
            clear e0 e1 e2 e3 e4 e5 e6 e7 e8
            go_loopw [16] (fun r wr => ∃ i : Nat, i ≤ i0 ∧ r = .int .i64 i ∧ Kp (∀ j, j < i → (ys.getD j default).op = 20) ∧ Below wt.heap.size wt wr) (fun r _ => i0 - (intOf r).toNat)
            case atStart => exact ⟨0, Nat.zero_le _, rfl, ⟨fun j hj => absurd hj (by omega)⟩, hBt⟩
            case round =>
             clear hBt
             obtain ⟨i, hi, rfl, hd, hBq⟩ := hrel
             have hB3 := bel_trans hB2 hBq
             have B3 := bel_trans B2 hBq
             by_cases hlt : i < i0
             ·have hlt' : (i : Int) < (i0 : Int) := by omega
              have hii := hi0.out
              have hly : (i : Int) < (ys.length : Int) := by omega
              obtain ⟨f0, f1, f2, f3, f4⟩ := FC.out _ hB3
              have cv := CV.out _ hB3
              have c0 := OPW.out _ hB3 i (by omega)
              clear hii
              by_cases q : (ys.getD i default).op = 20
              ·have hd' : Kp (∀ j, j < i + 1 → (ys.getD j default).op = 20) := ⟨fun j hj => by
                by_cases e : j = i
                ·rw [e]; exact q
                ·exact hd.out j (by omega)⟩
               rw [q] at c0
               clear q hd
               go_wp2_with fail
               exact ⟨⟨i + 1, by omega, by go_num, hd', hBq⟩, by simp [intOf]; omega⟩
              ·have hf : Kp (R = 9) := ⟨by
                refine RR.out.f9 (by trivial) (by trivial) (by trivial) hGB.out hAB.out hSB.out ?_
                rw [decide_eq_true h20.out, Bool.true_and]
                cases hp : PB with
                | true => rfl
                | false => exact absurd (APH.out.1 hp i hlt) q⟩
               have q' := nbT q
               have q'' := nb q
               clear q hd
               generalize (ys.getD i default).op = u at *
               go_wp2_with fail
               go_ret
               exact ⟨ret_int hf.out.symm, B3⟩
             ·have hlt' : ¬ (i : Int) < (i0 : Int) := by omega
              have hf : Kp (R = 0) := ⟨by
               refine RR.out.f0 (by trivial) (by trivial) (by trivial) hGB.out hAB.out hSB.out ?_
               rw [APH.out.2 (fun j hj => hd.out j (by omega)), Bool.and_false]⟩
              clear hd
              go_wp2_with fail
              go_ret
              exact ⟨ret_int hf.out.symm, B3⟩
   ·obtain ⟨hA, hT, hC⟩ := HD21.out h20
    replace h20 := Kp.mk h20
    clear HD20 HD21
    have hA' : ¬ CA < 0 := by omega
    cases CB with
    | false =>
     have hf : Kp (R = 6) := ⟨RR.out.f6c rfl rfl rfl⟩
     by_cases z0 : (X.args.length : Int) = CA
     ·have z1 : ((X.args.length : Int) == CA) = true := by simp [z0]
      have z2 : ((X.args.length : Int) != CA) = false := by simp [z0]
      have z5 : ¬ (X.bl.length : Int) = CTT := by simp [z0] at hC; exact hC
      have z3 := nb z5
      have z4 := nbT z5
      replace z0 := Kp.mk z0
      replace hC := Kp.mk hC
      clear z5
      go_wp2_with fail
      go_ret
      exact ⟨ret_int hf.out.symm, B4⟩
     ·have z1 := nb z0
      have z2 := nbT z0
      replace hC := Kp.mk hC
      clear z0
      go_wp2_with fail
      go_ret
      exact ⟨ret_int hf.out.symm, B4⟩
    | true =>
     have z0 : (X.args.length : Int) = CA := by simp at hC; exact hC.1
     have z5 : (X.bl.length : Int) = CTT := by simp at hC; exact hC.2
     have z1 : ((X.args.length : Int) == CA) = true := by simp [z0]
     have z2 : ((X.args.length : Int) != CA) = false := by simp [z0]
     have z3 : ((X.bl.length : Int) == CTT) = true := by simp [z5]
     have z4 : ((X.bl.length : Int) != CTT) = false := by simp [z5]
     clear z0 z5 hC
     as_aux_lemma =>
      go_wp2_with fail
      go_loopw [13] (fun r wr => ∃ i : Nat, i ≤ X.bl.length ∧ r = .int .i64 i ∧ Kp (∀ j, j < i → 0 ≤ X.bl.getD j 0 ∧ X.bl.getD j 0 < blocks.length) ∧ Below W1.heap.size W1 wr) (fun r _ => X.bl.length - (intOf r).toNat)
      case atStart => exact ⟨0, Nat.zero_le _, rfl, ⟨fun j hj => absurd hj (by omega)⟩, hB4⟩
      case round =>
       clear e0 e1 e2 e3 e4 e5 e6 e7 e8 f0 f1 f2 f3 f4 m0 m1 k0 k1 hB4 hw4
       obtain ⟨i, hi, rfl, hd, hB⟩ := hrel
       have B2 := bel_trans B01 hB
       obtain ⟨e0, e1, e2, e3, e4, e5, e6, e7, e8⟩ := IC.out _ hB
       obtain ⟨f0, f1, f2, f3, f4⟩ := FC.out _ hB
       by_cases hlt : i < X.bl.length
       ·obtain rfl := m2.out (by omega)
        have hlt' : (i : Int) < (X.bl.length : Int) := by omega
        have c0 := LC.out _ hB i hlt
        by_cases q : 0 ≤ X.bl.getD i 0 ∧ X.bl.getD i 0 < blocks.length
        ·have hd' : Kp (∀ j, j < i + 1 → 0 ≤ X.bl.getD j 0 ∧ X.bl.getD j 0 < blocks.length) := ⟨fun j hj => by
          by_cases e : j = i
          ·rw [e]; exact q
          ·exact hd.out j (by omega)⟩
         obtain ⟨qa, qb⟩ := q
         clear hd
         generalize X.bl.getD i 0 = u at *
         have d1 : decide (u < 0) = false := decide_eq_false (by omega)
         have d2 : decide ((blocks.length : Int) ≤ u) = false := decide_eq_false (by omega)
         go_wp2_with fail
         go_quiet (fail)
         go_wp2_with fail
         exact ⟨⟨i + 1, by omega, by go_num, hd', below_drewN hB _⟩, by simp [intOf]; omega⟩
        ·have hf : Kp (R = 7) := ⟨by
          refine RR.out.f7 (by trivial) (by trivial) (by trivial) ?_
          rw [Bool.eq_false_iff]
          intro t
          exact q (by simpa using ATG.out.1 t i hlt)⟩
         clear hd
         generalize X.bl.getD i 0 = u at *
         by_cases qa : u < 0
         ·have d1 : decide (u < 0) = true := decide_eq_true qa
          clear q qa
          go_wp2_with fail
          go_quiet (fail)
          go_wp2_with fail
          go_ret
          exact ⟨ret_int hf.out.symm, below_drewN B2 _⟩
         ·have d1 : decide (u < 0) = false := decide_eq_false qa
          have d2 : decide ((blocks.length : Int) ≤ u) = true := decide_eq_true (by omega)
          clear q qa
          go_wp2_with fail
          go_quiet (fail)
          go_wp2_with fail
          go_ret
          exact ⟨ret_int hf.out.symm, below_drewN B2 _⟩
       ·have hlt' : ¬ (i : Int) < (X.bl.length : Int) := by omega
        have hGB : Kp (GB = true) := ⟨ATG.out.2 (fun j hj => by simpa using hd.out j (by omega))⟩
        obtain ⟨wo, hwo⟩ : ∃ wo : World, wo = wr := ⟨_, rfl⟩
        have hBo : Below wo.heap.size wo wr := by rw [hwo]; exact Below.refl _ _
        rw [← hwo] at hB
        clear hwo hd B2 ATG m2 LC
        go_wp2_with fail
        clear e0 e1 e2 e3 e4 e5 e6 e7 e8 f0 f1 f2 f3 f4
        go_loopw [14] (fun r wr => ∃ i : Nat, i ≤ X.args.length ∧ r = .int .i64 i ∧ Kp (∀ j, j < i → opB gs.length ts (X.args.getD j default) = true ∧ wanB fs ⟨name, link, params, res, blocks⟩ X j (X.args.getD j default).t = true) ∧ Below wo.heap.size wo wr) (fun r _ => X.args.length - (intOf r).toNat)
        case atStart => exact ⟨0, Nat.zero_le _, rfl, ⟨fun j hj => absurd hj (by omega)⟩, hBo⟩
        case round =>
         clear hBo
         obtain ⟨i, hi, rfl, hd, hBq⟩ := hrel
         have hB1 := bel_trans hB hBq
         have B2 := bel_trans B01 hB1
         obtain ⟨e0, e1, e2, e3, e4, e5, e6, e7, e8⟩ := IC.out _ hB1
         by_cases hlt : i < X.args.length
         ·obtain rfl := k2.out (by omega)
          have hlt' : (i : Int) < (X.args.length : Int) := by omega
          obtain ⟨f0, f1, f2, f3, f4⟩ := FC.out _ hB1
          obtain ⟨m0, m1⟩ := MC.out _ hB1
          obtain ⟨oq, hoq⟩ : ∃ oq, oq = X.args.getD i default := ⟨_, rfl⟩
          have hac := AC.out _ hB1 i hlt
          have COi := Kp.mk (fun W (hW : Below wr.heap.size wr W) => CO.out W (bel_trans hB1 hW) i hlt)
          have CWi := Kp.mk (fun W (hW : Below wr.heap.size wr W) => CW.out (by trivial) (by trivial) W (bel_trans hB1 hW) i hlt)
          rw [← hoq] at hac COi CWi
          obtain ⟨a0, a1', a2', a3'⟩ := hac
          replace hoq := Kp.mk hoq
          have ke0 := cell_regrown e0
          have ke1 := cell_regrown e1
          have ke2 := cell_regrown e2
          have ke3 := cell_regrown e3
          have ke4 := cell_regrown e4
          have ke5 := cell_regrown e5
          have ke6 := cell_regrown e6
          have ke7 := cell_regrown e7
          have ke8 := cell_regrown e8
          have kf0 := cell_regrown f0
          have kf1 := cell_regrown f1
          have kf2 := cell_regrown f2
          have kf3 := cell_regrown f3
          have kf4 := cell_regrown f4
          have km0 := cell_regrown m0
          have km1 := cell_regrown m1
          have ka0 := cell_regrown a0
          have ka1 := cell_regrown a1'
          have ka2 := cell_regrown a2'
          have ka3 := cell_regrown a3'
          cases ho : opB gs.length ts oq with
          | false =>
           have hf : Kp (R = 8) := ⟨by
            refine RR.out.f8 (by trivial) (by trivial) (by trivial) hGB.out ?_
            rw [Bool.eq_false_iff]
            intro t
            rw [hoq.out, (AAR.out.1 t i hlt).1] at ho
            cases ho⟩
           rw [ho] at COi
           clear ho hd CWi
           have IO2 : Kp (∀ d os, Calls Tryz.prog 90 _ (Go.Sort.grow (redrawn wr d) os) _) := ⟨fun d os => Calls.regrown_of (COi.out _ (below_regrown wr d os))⟩
           go_wp2_with fail
           refine wp_region_quiet_below (by kernel_rfl) (by kernel_rfl) ?_
           repeat (go_big_quiet_step (fail))
           go_big_quiet_step (exact IO2.out _ _)
           repeat (go_big_quiet_step (fail))
           refine wpQuiet_nil ?_
           intro _ hw'
           obtain ⟨⟨dq, osq⟩, hw''⟩ := hw'
           subst hw''
           have hq := below_regrown wr dq osq
           go_wp2_with fail
           go_ret
           exact ⟨ret_int hf.out.symm, bel_trans B2 hq⟩
          | true =>
           cases hwn : wanB fs ⟨name, link, params, res, blocks⟩ X i oq.t with
           | false =>
            have hf : Kp (R = 8) := ⟨by
             refine RR.out.f8 (by trivial) (by trivial) (by trivial) hGB.out ?_
             rw [Bool.eq_false_iff]
             intro t
             rw [hoq.out, (AAR.out.1 t i hlt).2] at hwn
             cases hwn⟩
            rw [ho] at COi
            rw [hwn] at CWi
            clear ho hd hwn
            have IO2 : Kp (∀ d os, Calls Tryz.prog 90 _ (Go.Sort.grow (redrawn wr d) os) _) := ⟨fun d os => Calls.regrown_of (COi.out _ (below_regrown wr d os))⟩
            have IW2 : Kp (∀ d os, Calls Tryz.prog 91 _ (Go.Sort.grow (redrawn wr d) os) _) := ⟨fun d os => Calls.regrown_of (CWi.out _ (below_regrown wr d os))⟩
            go_wp2_with fail
            refine wp_region_quiet_below (by kernel_rfl) (by kernel_rfl) ?_
            repeat (go_big_quiet_step (fail))
            go_big_quiet_step (exact IO2.out _ _)
            repeat (go_big_quiet_step (fail))
            go_big_quiet_step (exact IW2.out _ _)
            repeat (go_big_quiet_step (fail))
            refine wpQuiet_nil ?_
            intro _ hw'
            obtain ⟨⟨dq, osq⟩, hw''⟩ := hw'
            subst hw''
            have hq := below_regrown wr dq osq
            go_wp2_with fail
            go_ret
            exact ⟨ret_int hf.out.symm, bel_trans B2 hq⟩
           | true =>
            have hd' : Kp (∀ j, j < i + 1 → opB gs.length ts (X.args.getD j default) = true ∧ wanB fs ⟨name, link, params, res, blocks⟩ X j (X.args.getD j default).t = true) := ⟨fun j hj => by
             by_cases e : j = i
             ·rw [e, ← hoq.out]; exact ⟨ho, hwn⟩
             ·exact hd.out j (by omega)⟩
            rw [ho] at COi
            rw [hwn] at CWi
            clear ho hd hwn
            have IO2 : Kp (∀ d os, Calls Tryz.prog 90 _ (Go.Sort.grow (redrawn wr d) os) _) := ⟨fun d os => Calls.regrown_of (COi.out _ (below_regrown wr d os))⟩
            have IW2 : Kp (∀ d os, Calls Tryz.prog 91 _ (Go.Sort.grow (redrawn wr d) os) _) := ⟨fun d os => Calls.regrown_of (CWi.out _ (below_regrown wr d os))⟩
            go_wp2_with fail
            refine wp_region_quiet_below (by kernel_rfl) (by kernel_rfl) ?_
            repeat (go_big_quiet_step (fail))
            go_big_quiet_step (exact IO2.out _ _)
            repeat (go_big_quiet_step (fail))
            go_big_quiet_step (exact IW2.out _ _)
            repeat (go_big_quiet_step (fail))
            refine wpQuiet_nil ?_
            intro _ hw'
            obtain ⟨⟨dq, osq⟩, hw''⟩ := hw'
            subst hw''
            have hq := below_regrown wr dq osq
            go_wp2_with fail
            exact ⟨⟨i + 1, by omega, by go_num, hd', bel_trans hBq hq⟩, by simp [intOf]; omega⟩
         ·have hlt' : ¬ (i : Int) < (X.args.length : Int) := by omega
          have hAB : Kp (AB = true) := ⟨AAR.out.2 (fun j hj => hd.out j (by omega))⟩
          obtain ⟨wp, hwp⟩ : ∃ wp : World, wp = wr := ⟨_, rfl⟩
          have hBp : Below wp.heap.size wp wr := by rw [hwp]; exact Below.refl _ _
          rw [← hwp] at hB1
          clear hwp hBq hd B2 AAR CO CW
          go_wp2_with fail
          clear e0 e1 e2 e3 e4 e5 e6 e7 e8
          go_loopw [15] (fun r wr => ∃ i : Nat, i ≤ X.ws.length ∧ r = .int .i64 i ∧ Kp (∀ j, j < i → isW (X.args.getD 0 default).t (X.ws.getD j 0) = true) ∧ Below wp.heap.size wp wr) (fun r _ => X.ws.length - (intOf r).toNat)
          case atStart => exact ⟨0, Nat.zero_le _, rfl, ⟨fun j hj => absurd hj (by omega)⟩, hBp⟩
          case round =>
           clear hBp
           obtain ⟨i, hi, rfl, hd, hBq⟩ := hrel
           have hB2 := bel_trans hB1 hBq
           have B2 := bel_trans B01 hB2
           obtain ⟨e0, e1, e2, e3, e4, e5, e6, e7, e8⟩ := IC.out _ hB2
           by_cases hlt : i < X.ws.length
           ·obtain rfl := n2.out (by omega)
            have hlt' : (i : Int) < (X.ws.length : Int) := by omega
            have hap := WRD.out (by trivial) (by trivial) (by omega)
            obtain rfl := k2.out hap
            have hap' : (0 : Int) < (X.args.length : Int) := by omega
            have a1' := (AC.out _ hB2 0 hap).c1
            simp only [Nat.zero_mul, Nat.add_zero] at a1'
            have c0 := SC.out _ hB2 i hlt
            have CIi := Kp.mk (fun w => CI.out w i hlt)
            cases hv : isW (X.args.getD 0 default).t (X.ws.getD i 0) with
            | false =>
             have hf : Kp (R = 8) := ⟨by
              refine RR.out.f8s (by trivial) (by trivial) (by trivial) hGB.out hAB.out ?_
              rw [Bool.eq_false_iff]
              intro t
              rw [ACA.out.1 t i hlt] at hv
              cases hv⟩
             rw [hv] at CIi
             clear hv hd
             generalize X.ws.getD i 0 = u at *
             generalize (X.args.getD 0 default).t = v at *
             go_wp2_with fail
             go_quiet ((go_at_call 92; exact Calls.quiet_of_same (CIi.out _)))
             go_wp2_with fail
             go_ret
             exact ⟨ret_int hf.out.symm, below_drewN B2 _⟩
            | true =>
             have hd' : Kp (∀ j, j < i + 1 → isW (X.args.getD 0 default).t (X.ws.getD j 0) = true) := ⟨fun j hj => by
              by_cases e : j = i
              ·rw [e]; exact hv
              ·exact hd.out j (by omega)⟩
             rw [hv] at CIi
             clear hv hd
             obtain ⟨u, hu⟩ : ∃ u, u = X.ws.getD i 0 := ⟨_, rfl⟩
             rw [← hu] at c0 CIi
             obtain ⟨v, hv⟩ : ∃ v, v = (X.args.getD 0 default).t := ⟨_, rfl⟩
             rw [← hv] at a1' CIi
             replace hu := Kp.mk hu
             replace hv := Kp.mk hv
             go_wp2_with fail
             go_quiet ((go_at_call 92; exact Calls.quiet_of_same (CIi.out _)))
             go_wp2_with fail
             exact ⟨⟨i + 1, by omega, by go_num, hd', below_drewN hBq _⟩, by simp [intOf]; omega⟩
           ·have hlt' : ¬ (i : Int) < (X.ws.length : Int) := by omega
            have hSB : Kp (SB = true) := ⟨ACA.out.2 (fun j hj => hd.out j (by omega))⟩
            clear hd
            have hf : Kp (R = 0) := ⟨RR.out.f0 (by trivial) (by trivial) (by trivial) hGB.out hAB.out hSB.out (by rw [decide_eq_false h20.out]; rfl)⟩
            have n20 := nb h20.out
            go_wp2_with fail
            go_ret
            exact ⟨ret_int hf.out.symm, B2⟩
end Go.Proofs.YtgdcgjlmkmdklaaGreatDoor
