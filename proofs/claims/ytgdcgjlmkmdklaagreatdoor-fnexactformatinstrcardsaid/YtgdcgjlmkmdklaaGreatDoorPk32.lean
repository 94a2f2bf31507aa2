/- Texts of one claim. -/
import Derived.Test.YtgdcgjlmkmdklaaGreatDoorPk0
import Derived.Test.YtgdcgjlmkmdklaaGreatDoorPk28
import Derived.Test.YtgdcgjlmkmdklaaGreatDoorPk29
namespace Go.Proofs.YtgdcgjlmkmdklaaGreatDoor
open Go.ChangeShapes Go.WideShapes Go.ChangeAt Go.RowKit
set_option linter.unusedVariables false
set_option linter.unusedSimpArgs false
theorem jnB_pos {op : Int} {n m : Nat} (h : jnB op n m = true) (e : op = 20) : 1 ≤ n := by
 subst e
 unfold jnB at h
 simp at h
 omega
set_option maxRecDepth 100000 in
set_option maxHeartbeats 4000000 in
theorem fldIn (gs : List GlD) (fs : List FnD) (ts : List Int) (a1 a2 a3 a4 a5 : Option Addr) (params : List Int) (blocks : List (List InD)) (c1 c2 c3 c4 c5 : Nat) (name : ByteArray) (link res bk : Int) (op ty fl pr ca sz : Int) (aa al as' : Option Addr) (args : List OpD) (bl ws : List Int) (ca' cl cs : Nat) (w : World) {lo : Nat} (hm : MoAt lo w gs fs (.slice a1 gs.length c1) (.slice a2 fs.length c2)) (ha : Ops lo w (.slice aa args.length ca') args) (hl : Ints lo .i64 w (.slice al bl.length cl) bl) (hs : Ints lo .u64 w (.slice as' ws.length cs) ws) (hw : Wid w) (hn : args.length ≤ 1048576) (hnl : bl.length ≤ 1048576) (hns : ws.length ≤ 1048576) :
  Calls Tryz.prog 107 #[scV (.slice a1 gs.length c1) (.slice a2 fs.length c2) name link (.slice a3 params.length c3) res (.slice a4 blocks.length c4) (.slice a5 ts.length c5) bk, .agg #[.int .i64 op, .int .i64 ty, .int .i64 fl, .int .i64 pr, .int .i64 ca, .int .i64 sz, .slice aa args.length ca', .slice al bl.length cl, .slice as' ws.length cs], kIn op ty (.slice aa args.length ca') ca] w fun e w' => e = .returned (.bool (nmrB fl pr ca sz 0 0 ca 0 bl.length ws.length 0 0 && ((isIx ca fs.length) && ((isIx ca fs.length && decide (ty = (calD fs ca).res)) && decide (((if isIx ca fs.length = true then (calD fs ca).params else [])).length = args.length))))) ∧ Below w.heap.size w w' := by
 have hfl : fs.length ≤ 140737488355328 := by obtain ⟨_, _, q, _⟩ := hm.f.ex; exact q.le
 obtain ⟨W0, hW⟩ : ∃ W0, W0 = (w.alloc (scC (.slice a1 gs.length c1) (.slice a2 fs.length c2) name link (.slice a3 params.length c3) res (.slice a4 blocks.length c4) (.slice a5 ts.length c5) bk)).alloc (Go.Obj.cells #[.int .i64 op, .int .i64 ty, .int .i64 fl, .int .i64 pr, .int .i64 ca, .int .i64 sz, .slice aa args.length ca', .slice al bl.length cl, .slice as' ws.length cs] 73) := ⟨_, rfl⟩
 have B0 : Below w.heap.size w W0 := by rw [hW]; exact bel_trans (bel_alloc _ _) (bel_alloc _ _)
 have sC0 : W0.heap[w.heap.size]? = some (scC (.slice a1 gs.length c1) (.slice a2 fs.length c2) name link (.slice a3 params.length c3) res (.slice a4 blocks.length c4) (.slice a5 ts.length c5) bk) := by rw [hW]; exact kept_at (new_at w _) (bel_alloc _ _)
 have iC0 : W0.heap[w.heap.size + 1]? = some (Go.Obj.cells #[.int .i64 op, .int .i64 ty, .int .i64 fl, .int .i64 pr, .int .i64 ca, .int .i64 sz, .slice aa args.length ca', .slice al bl.length cl, .slice as' ws.length cs] 73) := by
  exact tl10
 have CF : Kp (∀ W, Below W0.heap.size W0 W → Calls Tryz.prog 141 #[kIn op ty (.slice aa args.length ca') ca] W fun e w' => (∃ av cv, e = .returned (.agg #[.int .i64 op, .int .i64 ty, .int .i64 0, .int .i64 0, .int .i64 ca, .int .i64 0, .slice av args.length cv, .slice none 0 0, .slice none 0 0])) ∧ Below W.heap.size W w') := ⟨fun W hB0 => have hB := bel_trans B0 hB0; (faceIn op ty ca (.slice aa args.length ca') args W (ha.keep hB) hn).mono (fun e w' ⟨va', e1, e2, e3⟩ => by
  exact tl78)⟩
 have CN : Kp (∀ W (av : Option Addr) (cv : Nat), Calls Tryz.prog 140 #[.agg #[.int .i64 op, .int .i64 ty, .int .i64 fl, .int .i64 pr, .int .i64 ca, .int .i64 sz, .slice aa args.length ca', .slice al bl.length cl, .slice as' ws.length cs], .agg #[.int .i64 op, .int .i64 ty, .int .i64 0, .int .i64 0, .int .i64 ca, .int .i64 0, .slice av args.length cv, .slice none 0 0, .slice none 0 0]] W fun e w' => e = .returned (.bool (nmrB fl pr ca sz 0 0 ca 0 bl.length ws.length 0 0)) ∧ Below W.heap.size W w') := ⟨fun W av cv => hasNM op ty fl pr ca sz op ty 0 0 ca 0 aa al as' av none none args.length bl.length ws.length args.length 0 0 ca' cl cs cv 0 0 W (by omega) (by omega) (by omega) (by omega)⟩
 have CW1 : Kp (∀ W, Below W0.heap.size W0 W → Calls Tryz.prog 219 #[.agg #[.int .i64 op, .int .i64 ty, (.slice aa args.length ca'), .int .i64 ca], scV (.slice a1 gs.length c1) (.slice a2 fs.length c2) name link (.slice a3 params.length c3) res (.slice a4 blocks.length c4) (.slice a5 ts.length c5) bk] W fun e w' => e = .returned (.bool (isIx ca fs.length)) ∧ Below W.heap.size W w') := ⟨fun W hB0 => have hB := bel_trans B0 hB0; inOwn op ty ca aa args.length ca' a1 a2 a3 a4 a5 gs.length fs.length params.length blocks.length ts.length c1 c2 c3 c4 c5 name link res bk W hfl⟩
 have CR : Kp (∀ W, Below W0.heap.size W0 W → Calls Tryz.prog 220 #[.agg #[.int .i64 op, .int .i64 ty, (.slice aa args.length ca'), .int .i64 ca], scV (.slice a1 gs.length c1) (.slice a2 fs.length c2) name link (.slice a3 params.length c3) res (.slice a4 blocks.length c4) (.slice a5 ts.length c5) bk] W fun e w' => e = .returned (.bool (isIx ca fs.length && decide (ty = (calD fs ca).res))) ∧ Below W.heap.size W w') := ⟨fun W hB0 => have hB := bel_trans B0 hB0; inRes op ty ca aa args.length ca' a1 a2 a3 a4 a5 gs.length params.length blocks.length ts.length c1 c2 c3 c4 c5 fs name link res bk W (hm.f.keep hB)⟩
 have CA : Kp (∀ W, Calls Tryz.prog 203 #[hdV op ty (.slice aa args.length ca')] W fun e w' => e = .returned (.slice aa args.length ca') ∧ Below W.heap.size W w') := ⟨fun W => hdArgs op ty aa args.length ca' W⟩
 have WA : Kp ((isIx ca fs.length) = true → ∀ W, Below W0.heap.size W0 W → Calls Tryz.prog 221 #[.agg #[.int .i64 op, .int .i64 ty, (.slice aa args.length ca'), .int .i64 ca], scV (.slice a1 gs.length c1) (.slice a2 fs.length c2) name link (.slice a3 params.length c3) res (.slice a4 blocks.length c4) (.slice a5 ts.length c5) bk] W fun e w' => (∃ aw cw, e = .returned (.slice aw ((if isIx ca fs.length = true then (calD fs ca).params else [])).length cw)) ∧ Below W.heap.size W w') := ⟨fun hj W hB0 => have hB := bel_trans B0 hB0; (inWan op ty ca aa args.length ca' a1 a2 a3 a4 a5 gs.length params.length blocks.length ts.length c1 c2 c3 c4 c5 fs name link res bk W (hm.f.keep hB)).mono (fun e w' ⟨v, e1, e2, e3⟩ => by
  obtain ⟨aw, cw, rfl⟩ := e2.shape
  exact ⟨⟨aw, cw, e1⟩, e3⟩)⟩
 have SK : Kp (∀ W, Below W0.heap.size W0 W → (fun W' => Below W0.heap.size W0 W' ∧ W'.cell? ⟨w.heap.size, 0, none⟩ = some (.slice a1 gs.length c1) ∧ W'.cell? ⟨w.heap.size, 1, none⟩ = some (.slice a2 fs.length c2) ∧ W'.cell? ⟨w.heap.size, 2, none⟩ = some (.string name) ∧ W'.cell? ⟨w.heap.size, 3, none⟩ = some (.int .i64 link) ∧ W'.cell? ⟨w.heap.size, 4, none⟩ = some (.slice a3 params.length c3) ∧ W'.cell? ⟨w.heap.size, 5, none⟩ = some (.int .i64 res) ∧ W'.cell? ⟨w.heap.size, 6, none⟩ = some (.slice a4 blocks.length c4) ∧ W'.cell? ⟨w.heap.size, 7, none⟩ = some (.slice a5 ts.length c5) ∧ W'.cell? ⟨w.heap.size, 8, none⟩ = some (.int .i64 bk) ∧ W'.cell? ⟨w.heap.size + 1, 0, none⟩ = some (.int .i64 op) ∧ W'.cell? ⟨w.heap.size + 1, 1, none⟩ = some (.int .i64 ty) ∧ W'.cell? ⟨w.heap.size + 1, 2, none⟩ = some (.int .i64 fl) ∧ W'.cell? ⟨w.heap.size + 1, 3, none⟩ = some (.int .i64 pr) ∧ W'.cell? ⟨w.heap.size + 1, 4, none⟩ = some (.int .i64 ca) ∧ W'.cell? ⟨w.heap.size + 1, 5, none⟩ = some (.int .i64 sz) ∧ W'.cell? ⟨w.heap.size + 1, 6, none⟩ = some (.slice aa args.length ca') ∧ W'.cell? ⟨w.heap.size + 1, 7, none⟩ = some (.slice al bl.length cl) ∧ W'.cell? ⟨w.heap.size + 1, 8, none⟩ = some (.slice as' ws.length cs)) W) := ⟨fun W hB => ⟨hB, cells_at (kept_at sC0 hB) rfl, cells_at (kept_at sC0 hB) rfl, cells_at (kept_at sC0 hB) rfl, cells_at (kept_at sC0 hB) rfl, cells_at (kept_at sC0 hB) rfl, cells_at (kept_at sC0 hB) rfl, cells_at (kept_at sC0 hB) rfl, cells_at (kept_at sC0 hB) rfl, cells_at (kept_at sC0 hB) rfl, cells_at (kept_at iC0 hB) rfl, cells_at (kept_at iC0 hB) rfl, cells_at (kept_at iC0 hB) rfl, cells_at (kept_at iC0 hB) rfl, cells_at (kept_at iC0 hB) rfl, cells_at (kept_at iC0 hB) rfl, cells_at (kept_at iC0 hB) rfl, cells_at (kept_at iC0 hB) rfl, cells_at (kept_at iC0 hB) rfl⟩⟩
 replace hW := Kp.mk hW
 obtain ⟨NMv, hNM⟩ : ∃ NMv, NMv = (nmrB fl pr ca sz 0 0 ca 0 bl.length ws.length 0 0) := ⟨_, rfl⟩
 rw [← hNM] at CN ⊢
 obtain ⟨wn, hwn⟩ : ∃ wn, wn = ((if isIx ca fs.length = true then (calD fs ca).params else [])).length := ⟨_, rfl⟩
 rw [← hwn] at WA ⊢
 obtain ⟨REv, hRE⟩ : ∃ REv, REv = (isIx ca fs.length && decide (ty = (calD fs ca).res)) := ⟨_, rfl⟩
 rw [← hRE] at CR ⊢
 obtain ⟨OWv, hOW⟩ : ∃ OWv, OWv = (isIx ca fs.length) := ⟨_, rfl⟩
 exact tl1
set_option maxRecDepth 100000 in
set_option maxHeartbeats 4000000 in
theorem fldJn (gs : List GlD) (fs : List FnD) (ts : List Int) (a1 a2 a3 a4 a5 : Option Addr) (params : List Int) (blocks : List (List InD)) (c1 c2 c3 c4 c5 : Nat) (name : ByteArray) (link res bk : Int) (op ty fl pr ca sz : Int) (aa al as' : Option Addr) (args : List OpD) (bl ws : List Int) (ca' cl cs : Nat) (w : World) {lo : Nat} (hm : MoAt lo w gs fs (.slice a1 gs.length c1) (.slice a2 fs.length c2)) (ha : Ops lo w (.slice aa args.length ca') args) (hl : Ints lo .i64 w (.slice al bl.length cl) bl) (hs : Ints lo .u64 w (.slice as' ws.length cs) ws) (hw : Wid w) (hn : args.length ≤ 1048576) (hnl : bl.length ≤ 1048576) (hns : ws.length ≤ 1048576) :
  Calls Tryz.prog 107 #[scV (.slice a1 gs.length c1) (.slice a2 fs.length c2) name link (.slice a3 params.length c3) res (.slice a4 blocks.length c4) (.slice a5 ts.length c5) bk, .agg #[.int .i64 op, .int .i64 ty, .int .i64 fl, .int .i64 pr, .int .i64 ca, .int .i64 sz, .slice aa args.length ca', .slice al bl.length cl, .slice as' ws.length cs], kJn op ty (.slice aa args.length ca') (.slice al bl.length cl)] w fun e w' => e = .returned (.bool (nmrB fl pr ca sz 0 0 0 0 bl.length ws.length bl.length 0 && ((jnB op args.length bl.length) && ((resB op ty) && decide ((wanJ op ty args.length).length = args.length))))) ∧ Below w.heap.size w w' := by
 have hfl : fs.length ≤ 140737488355328 := by obtain ⟨_, _, q, _⟩ := hm.f.ex; exact q.le
 obtain ⟨W0, hW⟩ : ∃ W0, W0 = (w.alloc (scC (.slice a1 gs.length c1) (.slice a2 fs.length c2) name link (.slice a3 params.length c3) res (.slice a4 blocks.length c4) (.slice a5 ts.length c5) bk)).alloc (Go.Obj.cells #[.int .i64 op, .int .i64 ty, .int .i64 fl, .int .i64 pr, .int .i64 ca, .int .i64 sz, .slice aa args.length ca', .slice al bl.length cl, .slice as' ws.length cs] 73) := ⟨_, rfl⟩
 have B0 : Below w.heap.size w W0 := by rw [hW]; exact bel_trans (bel_alloc _ _) (bel_alloc _ _)
 have sC0 : W0.heap[w.heap.size]? = some (scC (.slice a1 gs.length c1) (.slice a2 fs.length c2) name link (.slice a3 params.length c3) res (.slice a4 blocks.length c4) (.slice a5 ts.length c5) bk) := by rw [hW]; exact kept_at (new_at w _) (bel_alloc _ _)
 have iC0 : W0.heap[w.heap.size + 1]? = some (Go.Obj.cells #[.int .i64 op, .int .i64 ty, .int .i64 fl, .int .i64 pr, .int .i64 ca, .int .i64 sz, .slice aa args.length ca', .slice al bl.length cl, .slice as' ws.length cs] 73) := by
  exact tl10
 have CF : Kp (∀ W, Below W0.heap.size W0 W → Calls Tryz.prog 141 #[kJn op ty (.slice aa args.length ca') (.slice al bl.length cl)] W fun e w' => (∃ av cv alv clv, e = .returned (.agg #[.int .i64 op, .int .i64 ty, .int .i64 0, .int .i64 0, .int .i64 0, .int .i64 0, .slice av args.length cv, .slice alv bl.length clv, .slice none 0 0])) ∧ Below W.heap.size W w') := ⟨fun W hB0 => have hB := bel_trans B0 hB0; (faceJn op ty (.slice aa args.length ca') (.slice al bl.length cl) args bl W (ha.keep hB) (hl.keep hB) hn hnl).mono (fun e w' ⟨va', vl', e1, e2, e3, e4⟩ => by
  obtain ⟨av, cv, rfl⟩ := ops_shape e2
  obtain ⟨alv, clv, rfl⟩ := e3.shape
  exact ⟨⟨av, cv, alv, clv, e1⟩, e4⟩)⟩
 have CN : Kp (∀ W (av : Option Addr) (cv : Nat) (alv : Option Addr) (clv : Nat), Calls Tryz.prog 140 #[.agg #[.int .i64 op, .int .i64 ty, .int .i64 fl, .int .i64 pr, .int .i64 ca, .int .i64 sz, .slice aa args.length ca', .slice al bl.length cl, .slice as' ws.length cs], .agg #[.int .i64 op, .int .i64 ty, .int .i64 0, .int .i64 0, .int .i64 0, .int .i64 0, .slice av args.length cv, .slice alv bl.length clv, .slice none 0 0]] W fun e w' => e = .returned (.bool (nmrB fl pr ca sz 0 0 0 0 bl.length ws.length bl.length 0)) ∧ Below W.heap.size W w') := ⟨fun W av cv alv clv => hasNM op ty fl pr ca sz op ty 0 0 0 0 aa al as' av alv none args.length bl.length ws.length args.length bl.length 0 ca' cl cs cv clv 0 W (by omega) (by omega) (by omega) (by omega)⟩
 have CW1 : Kp (∀ W, Below W0.heap.size W0 W → Calls Tryz.prog 222 #[.agg #[.int .i64 op, .int .i64 ty, (.slice aa args.length ca'), (.slice al bl.length cl)], scV (.slice a1 gs.length c1) (.slice a2 fs.length c2) name link (.slice a3 params.length c3) res (.slice a4 blocks.length c4) (.slice a5 ts.length c5) bk] W fun e w' => e = .returned (.bool (jnB op args.length bl.length)) ∧ Below W.heap.size W w') := ⟨fun W hB0 => have hB := bel_trans B0 hB0; jnOwn op ty aa al args.length ca' bl.length cl a1 a2 a3 a4 a5 gs.length fs.length params.length blocks.length ts.length c1 c2 c3 c4 c5 name link res bk W (by omega) (by omega)⟩
 have CR : Kp (∀ W, Below W0.heap.size W0 W → Calls Tryz.prog 207 #[.agg #[.int .i64 op, .int .i64 ty, (.slice aa args.length ca')], scV (.slice a1 gs.length c1) (.slice a2 fs.length c2) name link (.slice a3 params.length c3) res (.slice a4 blocks.length c4) (.slice a5 ts.length c5) bk] W fun e w' => e = .returned (.bool (resB op ty)) ∧ Below W.heap.size W w') := ⟨fun W hB0 => have hB := bel_trans B0 hB0; hdRes op ty aa args.length ca' a1 a2 a3 a4 a5 gs.length fs.length params.length blocks.length ts.length c1 c2 c3 c4 c5 name link res bk W (hw.below hB)⟩
 have CA : Kp (∀ W, Calls Tryz.prog 203 #[hdV op ty (.slice aa args.length ca')] W fun e w' => e = .returned (.slice aa args.length ca') ∧ Below W.heap.size W w') := ⟨fun W => hdArgs op ty aa args.length ca' W⟩
 have WA : Kp ((jnB op args.length bl.length) = true → ∀ W, Below W0.heap.size W0 W → Calls Tryz.prog 224 #[.agg #[.int .i64 op, .int .i64 ty, (.slice aa args.length ca'), (.slice al bl.length cl)], scV (.slice a1 gs.length c1) (.slice a2 fs.length c2) name link (.slice a3 params.length c3) res (.slice a4 blocks.length c4) (.slice a5 ts.length c5) bk] W fun e w' => (∃ aw cw, e = .returned (.slice aw (wanJ op ty args.length).length cw)) ∧ Below W.heap.size W w') := ⟨fun hj W hB0 => have hB := bel_trans B0 hB0; (jnWan op ty aa al args.length ca' bl.length cl a1 a2 a3 a4 a5 gs.length fs.length params.length blocks.length ts.length c1 c2 c3 c4 c5 name link res bk W (jnB_pos hj) hn).mono (fun e w' ⟨v, e1, e2, e3⟩ => by
  obtain ⟨aw, cw, rfl⟩ := e2.shape
  exact ⟨⟨aw, cw, e1⟩, e3⟩)⟩
 have SK : Kp (∀ W, Below W0.heap.size W0 W → (fun W' => Below W0.heap.size W0 W' ∧ W'.cell? ⟨w.heap.size, 0, none⟩ = some (.slice a1 gs.length c1) ∧ W'.cell? ⟨w.heap.size, 1, none⟩ = some (.slice a2 fs.length c2) ∧ W'.cell? ⟨w.heap.size, 2, none⟩ = some (.string name) ∧ W'.cell? ⟨w.heap.size, 3, none⟩ = some (.int .i64 link) ∧ W'.cell? ⟨w.heap.size, 4, none⟩ = some (.slice a3 params.length c3) ∧ W'.cell? ⟨w.heap.size, 5, none⟩ = some (.int .i64 res) ∧ W'.cell? ⟨w.heap.size, 6, none⟩ = some (.slice a4 blocks.length c4) ∧ W'.cell? ⟨w.heap.size, 7, none⟩ = some (.slice a5 ts.length c5) ∧ W'.cell? ⟨w.heap.size, 8, none⟩ = some (.int .i64 bk) ∧ W'.cell? ⟨w.heap.size + 1, 0, none⟩ = some (.int .i64 op) ∧ W'.cell? ⟨w.heap.size + 1, 1, none⟩ = some (.int .i64 ty) ∧ W'.cell? ⟨w.heap.size + 1, 2, none⟩ = some (.int .i64 fl) ∧ W'.cell? ⟨w.heap.size + 1, 3, none⟩ = some (.int .i64 pr) ∧ W'.cell? ⟨w.heap.size + 1, 4, none⟩ = some (.int .i64 ca) ∧ W'.cell? ⟨w.heap.size + 1, 5, none⟩ = some (.int .i64 sz) ∧ W'.cell? ⟨w.heap.size + 1, 6, none⟩ = some (.slice aa args.length ca') ∧ W'.cell? ⟨w.heap.size + 1, 7, none⟩ = some (.slice al bl.length cl) ∧ W'.cell? ⟨w.heap.size + 1, 8, none⟩ = some (.slice as' ws.length cs)) W) := ⟨fun W hB => ⟨hB, cells_at (kept_at sC0 hB) rfl, cells_at (kept_at sC0 hB) rfl, cells_at (kept_at sC0 hB) rfl, cells_at (kept_at sC0 hB) rfl, cells_at (kept_at sC0 hB) rfl, cells_at (kept_at sC0 hB) rfl, cells_at (kept_at sC0 hB) rfl, cells_at (kept_at sC0 hB) rfl, cells_at (kept_at sC0 hB) rfl, cells_at (kept_at iC0 hB) rfl, cells_at (kept_at iC0 hB) rfl, cells_at (kept_at iC0 hB) rfl, cells_at (kept_at iC0 hB) rfl, cells_at (kept_at iC0 hB) rfl, cells_at (kept_at iC0 hB) rfl, cells_at (kept_at iC0 hB) rfl, cells_at (kept_at iC0 hB) rfl, cells_at (kept_at iC0 hB) rfl⟩⟩
 replace hW := Kp.mk hW
 obtain ⟨NMv, hNM⟩ : ∃ NMv, NMv = (nmrB fl pr ca sz 0 0 0 0 bl.length ws.length bl.length 0) := ⟨_, rfl⟩
 rw [← hNM] at CN ⊢
 obtain ⟨wn, hwn⟩ : ∃ wn, wn = (wanJ op ty args.length).length := ⟨_, rfl⟩
 rw [← hwn] at WA ⊢
 obtain ⟨REv, hRE⟩ : ∃ REv, REv = (resB op ty) := ⟨_, rfl⟩
 rw [← hRE] at CR ⊢
 obtain ⟨OWv, hOW⟩ : ∃ OWv, OWv = (jnB op args.length bl.length) := ⟨_, rfl⟩
 rw [← hOW] at CW1 WA ⊢
 have hb0 := (Below.refl W0.heap.size W0).drew
 have R0 := Kp.mk (fun {ops : Array Oper} {Q : Exit → Act → World → Prop} {id : Nat} {a : Act} hm h => wp_region_held_drew (P := Tryz.prog) (ops := ops) (Q := Q) (id := id) (a := a) (w := W0) (S := (fun W' => Below W0.heap.size W0 W' ∧ W'.cell? ⟨w.heap.size, 0, none⟩ = some (.slice a1 gs.length c1) ∧ W'.cell? ⟨w.heap.size, 1, none⟩ = some (.slice a2 fs.length c2) ∧ W'.cell? ⟨w.heap.size, 2, none⟩ = some (.string name) ∧ W'.cell? ⟨w.heap.size, 3, none⟩ = some (.int .i64 link) ∧ W'.cell? ⟨w.heap.size, 4, none⟩ = some (.slice a3 params.length c3) ∧ W'.cell? ⟨w.heap.size, 5, none⟩ = some (.int .i64 res) ∧ W'.cell? ⟨w.heap.size, 6, none⟩ = some (.slice a4 blocks.length c4) ∧ W'.cell? ⟨w.heap.size, 7, none⟩ = some (.slice a5 ts.length c5) ∧ W'.cell? ⟨w.heap.size, 8, none⟩ = some (.int .i64 bk) ∧ W'.cell? ⟨w.heap.size + 1, 0, none⟩ = some (.int .i64 op) ∧ W'.cell? ⟨w.heap.size + 1, 1, none⟩ = some (.int .i64 ty) ∧ W'.cell? ⟨w.heap.size + 1, 2, none⟩ = some (.int .i64 fl) ∧ W'.cell? ⟨w.heap.size + 1, 3, none⟩ = some (.int .i64 pr) ∧ W'.cell? ⟨w.heap.size + 1, 4, none⟩ = some (.int .i64 ca) ∧ W'.cell? ⟨w.heap.size + 1, 5, none⟩ = some (.int .i64 sz) ∧ W'.cell? ⟨w.heap.size + 1, 6, none⟩ = some (.slice aa args.length ca') ∧ W'.cell? ⟨w.heap.size + 1, 7, none⟩ = some (.slice al bl.length cl) ∧ W'.cell? ⟨w.heap.size + 1, 8, none⟩ = some (.slice as' ws.length cs))) hm (SK.out _ hb0) h)
 clear hNM hOW hRE hwn sC0 iC0 ha hl hs hm hw
 cases NMv with
 | false =>
  clear CW1 CR CA WA
  go_enter Tryz.func107, Tryz.ntmps107
  go_upto_region 1 with fail
  rw [← hW.out]
  refine R0.out (by kernel_rfl) (fun hHeld => ?_)
  refine tks 2 [0, 1] hHeld ?_
  try simp only [tkP]
  refine rdy 2 fun K hK => ?_
  go_simp
  refine (CF.out _ hb0).mono ?_
  rintro e w1 ⟨⟨av, cv, alv, clv, rfl⟩, hb⟩
  have hb1 := hb0.trans hb
  clear hb
  refine hK.out _ _ (SK.out _ hb1) (fun hHeld => ?_)
  clear hK K
  try simp only [tkP]
  refine rdy 3 fun K hK => ?_
  go_simp
  refine (CN.out _ _ _ _ _).mono ?_
  exact tl139
 | true =>
  cases OWv with
  | false =>
   clear CR CA WA
   go_enter Tryz.func107, Tryz.ntmps107
   go_upto_region 1 with fail
   rw [← hW.out]
   refine R0.out (by kernel_rfl) (fun hHeld => ?_)
   refine tks 2 [0, 1] hHeld ?_
   try simp only [tkP]
   refine rdy 2 fun K hK => ?_
   go_simp
   refine (CF.out _ hb0).mono ?_
   rintro e w1 ⟨⟨av, cv, alv, clv, rfl⟩, hb⟩
   have hb1 := hb0.trans hb
   clear hb
   refine hK.out _ _ (SK.out _ hb1) (fun hHeld => ?_)
   clear hK K
   try simp only [tkP]
   refine rdy 3 fun K hK => ?_
   go_simp
   refine (CN.out _ _ _ _ _).mono ?_
   exact tl138
  | true =>
   have WA' := Kp.mk (WA.out rfl)
   clear WA
   cases REv with
   | false =>
    clear CA WA'
    go_enter Tryz.func107, Tryz.ntmps107
    go_upto_region 1 with fail
    rw [← hW.out]
    refine R0.out (by kernel_rfl) (fun hHeld => ?_)
    refine tks 2 [0, 1] hHeld ?_
    try simp only [tkP]
    refine rdy 2 fun K hK => ?_
    go_simp
    refine (CF.out _ hb0).mono ?_
    rintro e w1 ⟨⟨av, cv, alv, clv, rfl⟩, hb⟩
    have hb1 := hb0.trans hb
    clear hb
    refine hK.out _ _ (SK.out _ hb1) (fun hHeld => ?_)
    clear hK K
    try simp only [tkP]
    refine rdy 3 fun K hK => ?_
    go_simp
    refine (CN.out _ _ _ _ _).mono ?_
    exact tl137
   | true =>
    by_cases hlen : wn = args.length
    ·have m1 : ((wn : Int) == (args.length : Int)) = true := by simp [hlen]
     rw [show decide (wn = args.length) = true from decide_eq_true hlen]
     replace hlen := Kp.mk hlen
     exact tl8
    ·have m1 : ((wn : Int) == (args.length : Int)) = false := nb (by omega)
     rw [show decide (wn = args.length) = false from decide_eq_false hlen]
     clear hlen
     exact tl8
end Go.Proofs.YtgdcgjlmkmdklaaGreatDoor
