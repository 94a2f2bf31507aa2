/- Texts of one claim. -/
import Derived.Test.YtgdcgjlmkmdklaaGreatDoorPk27
import Derived.Lib.SmallJoins
import Derived.Outline
namespace Go.Proofs.YtgdcgjlmkmdklaaGreatDoor
open Go.ChangeShapes Go.WideShapes Go.ChangeAt Go.RowKit Go.Lib
set_option linter.unusedVariables false
set_option linter.unusedSimpArgs false
@[go_sem] theorem asHd_Ar (v : Value) (w : World) : (Instr.typeAssert (.iface 179 v) 149 191 true).run Tryz.prog w = .ok (.tuple #[.agg #[.int .i64 0, .int .i64 0, .slice none 0 0, .int .i64 0], .bool false]) w := by kernel_rfl
@[go_sem] theorem asHd_Cm (v : Value) (w : World) : (Instr.typeAssert (.iface 179 v) 149 181 true).run Tryz.prog w = .ok (.tuple #[.agg #[.int .i64 0, .int .i64 0, .slice none 0 0, .int .i64 0], .bool false]) w := by kernel_rfl
@[go_sem] theorem asHd_Al (v : Value) (w : World) : (Instr.typeAssert (.iface 179 v) 149 183 true).run Tryz.prog w = .ok (.tuple #[.agg #[.int .i64 0, .int .i64 0, .slice none 0 0, .int .i64 0], .bool false]) w := by kernel_rfl
@[go_sem] theorem asHd_In (v : Value) (w : World) : (Instr.typeAssert (.iface 179 v) 149 185 true).run Tryz.prog w = .ok (.tuple #[.agg #[.int .i64 0, .int .i64 0, .slice none 0 0, .int .i64 0], .bool false]) w := by kernel_rfl
@[go_sem] theorem asHd_Jn (v : Value) (w : World) : (Instr.typeAssert (.iface 179 v) 149 187 true).run Tryz.prog w = .ok (.tuple #[.agg #[.int .i64 0, .int .i64 0, .slice none 0 0, .slice none 0 0], .bool false]) w := by kernel_rfl
@[go_sem] theorem asHd_Di (v : Value) (w : World) : (Instr.typeAssert (.iface 179 v) 149 189 true).run Tryz.prog w = .ok (.tuple #[.agg #[.int .i64 0, .int .i64 0, .slice none 0 0, .slice none 0 0, .slice none 0 0], .bool false]) w := by kernel_rfl
@[go_sem] theorem asAr_Ar (v : Value) (w : World) : (Instr.typeAssert (.iface 191 v) 149 191 true).run Tryz.prog w = .ok (.tuple #[v, .bool true]) w := by kernel_rfl
@[go_sem] theorem asAr_Cm (v : Value) (w : World) : (Instr.typeAssert (.iface 191 v) 149 181 true).run Tryz.prog w = .ok (.tuple #[.agg #[.int .i64 0, .int .i64 0, .slice none 0 0, .int .i64 0], .bool false]) w := by kernel_rfl
@[go_sem] theorem asAr_Al (v : Value) (w : World) : (Instr.typeAssert (.iface 191 v) 149 183 true).run Tryz.prog w = .ok (.tuple #[.agg #[.int .i64 0, .int .i64 0, .slice none 0 0, .int .i64 0], .bool false]) w := by kernel_rfl
@[go_sem] theorem asAr_In (v : Value) (w : World) : (Instr.typeAssert (.iface 191 v) 149 185 true).run Tryz.prog w = .ok (.tuple #[.agg #[.int .i64 0, .int .i64 0, .slice none 0 0, .int .i64 0], .bool false]) w := by kernel_rfl
@[go_sem] theorem asAr_Jn (v : Value) (w : World) : (Instr.typeAssert (.iface 191 v) 149 187 true).run Tryz.prog w = .ok (.tuple #[.agg #[.int .i64 0, .int .i64 0, .slice none 0 0, .slice none 0 0], .bool false]) w := by kernel_rfl
@[go_sem] theorem asAr_Di (v : Value) (w : World) : (Instr.typeAssert (.iface 191 v) 149 189 true).run Tryz.prog w = .ok (.tuple #[.agg #[.int .i64 0, .int .i64 0, .slice none 0 0, .slice none 0 0, .slice none 0 0], .bool false]) w := by kernel_rfl
@[go_sem] theorem asCm_Ar (v : Value) (w : World) : (Instr.typeAssert (.iface 181 v) 149 191 true).run Tryz.prog w = .ok (.tuple #[.agg #[.int .i64 0, .int .i64 0, .slice none 0 0, .int .i64 0], .bool false]) w := by kernel_rfl
@[go_sem] theorem asCm_Cm (v : Value) (w : World) : (Instr.typeAssert (.iface 181 v) 149 181 true).run Tryz.prog w = .ok (.tuple #[v, .bool true]) w := by kernel_rfl
@[go_sem] theorem asCm_Al (v : Value) (w : World) : (Instr.typeAssert (.iface 181 v) 149 183 true).run Tryz.prog w = .ok (.tuple #[.agg #[.int .i64 0, .int .i64 0, .slice none 0 0, .int .i64 0], .bool false]) w := by kernel_rfl
@[go_sem] theorem asCm_In (v : Value) (w : World) : (Instr.typeAssert (.iface 181 v) 149 185 true).run Tryz.prog w = .ok (.tuple #[.agg #[.int .i64 0, .int .i64 0, .slice none 0 0, .int .i64 0], .bool false]) w := by kernel_rfl
@[go_sem] theorem asCm_Jn (v : Value) (w : World) : (Instr.typeAssert (.iface 181 v) 149 187 true).run Tryz.prog w = .ok (.tuple #[.agg #[.int .i64 0, .int .i64 0, .slice none 0 0, .slice none 0 0], .bool false]) w := by kernel_rfl
@[go_sem] theorem asCm_Di (v : Value) (w : World) : (Instr.typeAssert (.iface 181 v) 149 189 true).run Tryz.prog w = .ok (.tuple #[.agg #[.int .i64 0, .int .i64 0, .slice none 0 0, .slice none 0 0, .slice none 0 0], .bool false]) w := by kernel_rfl
@[go_sem] theorem asAl_Ar (v : Value) (w : World) : (Instr.typeAssert (.iface 183 v) 149 191 true).run Tryz.prog w = .ok (.tuple #[.agg #[.int .i64 0, .int .i64 0, .slice none 0 0, .int .i64 0], .bool false]) w := by kernel_rfl
@[go_sem] theorem asAl_Cm (v : Value) (w : World) : (Instr.typeAssert (.iface 183 v) 149 181 true).run Tryz.prog w = .ok (.tuple #[.agg #[.int .i64 0, .int .i64 0, .slice none 0 0, .int .i64 0], .bool false]) w := by kernel_rfl
@[go_sem] theorem asAl_Al (v : Value) (w : World) : (Instr.typeAssert (.iface 183 v) 149 183 true).run Tryz.prog w = .ok (.tuple #[v, .bool true]) w := by kernel_rfl
@[go_sem] theorem asAl_In (v : Value) (w : World) : (Instr.typeAssert (.iface 183 v) 149 185 true).run Tryz.prog w = .ok (.tuple #[.agg #[.int .i64 0, .int .i64 0, .slice none 0 0, .int .i64 0], .bool false]) w := by kernel_rfl
@[go_sem] theorem asAl_Jn (v : Value) (w : World) : (Instr.typeAssert (.iface 183 v) 149 187 true).run Tryz.prog w = .ok (.tuple #[.agg #[.int .i64 0, .int .i64 0, .slice none 0 0, .slice none 0 0], .bool false]) w := by kernel_rfl
@[go_sem] theorem asAl_Di (v : Value) (w : World) : (Instr.typeAssert (.iface 183 v) 149 189 true).run Tryz.prog w = .ok (.tuple #[.agg #[.int .i64 0, .int .i64 0, .slice none 0 0, .slice none 0 0, .slice none 0 0], .bool false]) w := by kernel_rfl
@[go_sem] theorem asIn_Ar (v : Value) (w : World) : (Instr.typeAssert (.iface 185 v) 149 191 true).run Tryz.prog w = .ok (.tuple #[.agg #[.int .i64 0, .int .i64 0, .slice none 0 0, .int .i64 0], .bool false]) w := by kernel_rfl
@[go_sem] theorem asIn_Cm (v : Value) (w : World) : (Instr.typeAssert (.iface 185 v) 149 181 true).run Tryz.prog w = .ok (.tuple #[.agg #[.int .i64 0, .int .i64 0, .slice none 0 0, .int .i64 0], .bool false]) w := by kernel_rfl
@[go_sem] theorem asIn_Al (v : Value) (w : World) : (Instr.typeAssert (.iface 185 v) 149 183 true).run Tryz.prog w = .ok (.tuple #[.agg #[.int .i64 0, .int .i64 0, .slice none 0 0, .int .i64 0], .bool false]) w := by kernel_rfl
@[go_sem] theorem asIn_In (v : Value) (w : World) : (Instr.typeAssert (.iface 185 v) 149 185 true).run Tryz.prog w = .ok (.tuple #[v, .bool true]) w := by kernel_rfl
@[go_sem] theorem asIn_Jn (v : Value) (w : World) : (Instr.typeAssert (.iface 185 v) 149 187 true).run Tryz.prog w = .ok (.tuple #[.agg #[.int .i64 0, .int .i64 0, .slice none 0 0, .slice none 0 0], .bool false]) w := by kernel_rfl
@[go_sem] theorem asIn_Di (v : Value) (w : World) : (Instr.typeAssert (.iface 185 v) 149 189 true).run Tryz.prog w = .ok (.tuple #[.agg #[.int .i64 0, .int .i64 0, .slice none 0 0, .slice none 0 0, .slice none 0 0], .bool false]) w := by kernel_rfl
@[go_sem] theorem asJn_Ar (v : Value) (w : World) : (Instr.typeAssert (.iface 187 v) 149 191 true).run Tryz.prog w = .ok (.tuple #[.agg #[.int .i64 0, .int .i64 0, .slice none 0 0, .int .i64 0], .bool false]) w := by kernel_rfl
@[go_sem] theorem asJn_Cm (v : Value) (w : World) : (Instr.typeAssert (.iface 187 v) 149 181 true).run Tryz.prog w = .ok (.tuple #[.agg #[.int .i64 0, .int .i64 0, .slice none 0 0, .int .i64 0], .bool false]) w := by kernel_rfl
@[go_sem] theorem asJn_Al (v : Value) (w : World) : (Instr.typeAssert (.iface 187 v) 149 183 true).run Tryz.prog w = .ok (.tuple #[.agg #[.int .i64 0, .int .i64 0, .slice none 0 0, .int .i64 0], .bool false]) w := by kernel_rfl
@[go_sem] theorem asJn_In (v : Value) (w : World) : (Instr.typeAssert (.iface 187 v) 149 185 true).run Tryz.prog w = .ok (.tuple #[.agg #[.int .i64 0, .int .i64 0, .slice none 0 0, .int .i64 0], .bool false]) w := by kernel_rfl
@[go_sem] theorem asJn_Jn (v : Value) (w : World) : (Instr.typeAssert (.iface 187 v) 149 187 true).run Tryz.prog w = .ok (.tuple #[v, .bool true]) w := by kernel_rfl
@[go_sem] theorem asJn_Di (v : Value) (w : World) : (Instr.typeAssert (.iface 187 v) 149 189 true).run Tryz.prog w = .ok (.tuple #[.agg #[.int .i64 0, .int .i64 0, .slice none 0 0, .slice none 0 0, .slice none 0 0], .bool false]) w := by kernel_rfl
@[go_sem] theorem asDi_Ar (v : Value) (w : World) : (Instr.typeAssert (.iface 189 v) 149 191 true).run Tryz.prog w = .ok (.tuple #[.agg #[.int .i64 0, .int .i64 0, .slice none 0 0, .int .i64 0], .bool false]) w := by kernel_rfl
@[go_sem] theorem asDi_Cm (v : Value) (w : World) : (Instr.typeAssert (.iface 189 v) 149 181 true).run Tryz.prog w = .ok (.tuple #[.agg #[.int .i64 0, .int .i64 0, .slice none 0 0, .int .i64 0], .bool false]) w := by kernel_rfl
@[go_sem] theorem asDi_Al (v : Value) (w : World) : (Instr.typeAssert (.iface 189 v) 149 183 true).run Tryz.prog w = .ok (.tuple #[.agg #[.int .i64 0, .int .i64 0, .slice none 0 0, .int .i64 0], .bool false]) w := by kernel_rfl
@[go_sem] theorem asDi_In (v : Value) (w : World) : (Instr.typeAssert (.iface 189 v) 149 185 true).run Tryz.prog w = .ok (.tuple #[.agg #[.int .i64 0, .int .i64 0, .slice none 0 0, .int .i64 0], .bool false]) w := by kernel_rfl
@[go_sem] theorem asDi_Jn (v : Value) (w : World) : (Instr.typeAssert (.iface 189 v) 149 187 true).run Tryz.prog w = .ok (.tuple #[.agg #[.int .i64 0, .int .i64 0, .slice none 0 0, .slice none 0 0], .bool false]) w := by kernel_rfl
@[go_sem] theorem asDi_Di (v : Value) (w : World) : (Instr.typeAssert (.iface 189 v) 149 189 true).run Tryz.prog w = .ok (.tuple #[v, .bool true]) w := by kernel_rfl
def nmrB (fl pr ca sz fl' pr' ca' sz' : Int) (m k m' k' : Nat) : Bool := decide (fl = fl') && (decide (pr = pr') && (decide (ca = ca') && (decide (sz = sz') && (decide (m = m') && decide (k = k')))))
set_option maxRecDepth 100000 in
set_option maxHeartbeats 4000000 in
theorem hasNM (op ty fl pr ca sz op' ty' fl' pr' ca' sz' : Int) (a1 a2 a3 b1 b2 b3 : Option Addr) (n m k n' m' k' c1 c2 c3 d1 d2 d3 : Nat) (w : World) (hm : m ≤ 140737488355328) (hk : k ≤ 140737488355328) (hm' : m' ≤ 140737488355328) (hk' : k' ≤ 140737488355328) :
  Calls Tryz.prog 140 #[.agg #[.int .i64 op, .int .i64 ty, .int .i64 fl, .int .i64 pr, .int .i64 ca, .int .i64 sz, .slice a1 n c1, .slice a2 m c2, .slice a3 k c3], .agg #[.int .i64 op', .int .i64 ty', .int .i64 fl', .int .i64 pr', .int .i64 ca', .int .i64 sz', .slice b1 n' d1, .slice b2 m' d2, .slice b3 k' d3]] w fun e w' => e = .returned (.bool (nmrB fl pr ca sz fl' pr' ca' sz' m k m' k')) ∧ Below w.heap.size w w' := by
 obtain ⟨R, hR⟩ : ∃ R, R = nmrB fl pr ca sz fl' pr' ca' sz' m k m' k' := ⟨_, rfl⟩
 rw [← hR]
 have hRK : Kp (R = (decide (fl = fl') && (decide (pr = pr') && (decide (ca = ca') && (decide (sz = sz') && (((m : Int) == m') && ((k : Int) == k'))))))) := ⟨by
  rw [hR]
  unfold nmrB
  rw [Bool.eq_iff_iff]
  simp
  intros
  constructor <;> rintro ⟨a, b⟩ <;> exact ⟨by omega, by omega⟩⟩
 clear hR
 go_enter Tryz.func140, Tryz.ntmps140
 go_wp2_with fail
 all_goals
  go_ret
  refine ⟨ret_bool ?_, bel_trans (bel_alloc _ _) (bel_alloc _ _)⟩
  rw [hRK.out]
  simp_all
theorem setI {w : World} {g i : Nat} {cs ds : Array Value} {t : TypeId} (h : w.heap[g]? = some (Go.Obj.cells cs t (0, 0))) (v : Value) (hd : cs.setIfInBounds i v = ds) : (w.setCell ⟨g, i, none⟩ v).heap[g]? = some (Go.Obj.cells ds t (0, 0)) := by
 rw [← hd]
 exact Joins.block_setCell h v
theorem setO {w : World} {g g' i : Nat} {o : Obj} (h : w.heap[g]? = some o) (v : Value) (hn : g ≠ g') : (w.setCell ⟨g', i, none⟩ v).heap[g]? = some o := (Below.heap_setCell _ _ _ _ hn).trans h
set_option maxRecDepth 100000 in
set_option maxHeartbeats 1000000 in
theorem faceHd (op ty : Int) (va : Value) (args : List OpD) (w : World) {lo : Nat} (h : Ops lo w va args) (hn : args.length ≤ 1048576) :
  Calls Tryz.prog 141 #[kHd op ty va] w fun e w' => ∃ va', e = .returned (.agg #[.int .i64 op, .int .i64 ty, .int .i64 0, .int .i64 0, .int .i64 0, .int .i64 0, va', .slice none 0 0, .slice none 0 0]) ∧ Ops w.heap.size w' va' args ∧ Below w.heap.size w w' := by
 obtain ⟨aa, ca', rfl⟩ := ops_shape h
 have CF : Kp (∀ W, Below w.heap.size w W → Calls Tryz.prog 205 #[hdV op ty (.slice aa args.length ca')] W fun e w' => ∃ va', e = .returned (.agg #[.int .i64 op, .int .i64 ty, .int .i64 0, .int .i64 0, .int .i64 0, .int .i64 0, va', .slice none 0 0, .slice none 0 0]) ∧ Ops W.heap.size w' va' args ∧ Below W.heap.size W w') := ⟨fun W hB => hdFace op ty _ args W (h.keep hB) hn⟩
 obtain ⟨W0, hW⟩ : ∃ W0, W0 = w.alloc (Go.Obj.cells #[.int .i64 0, .int .i64 0, .int .i64 0, .int .i64 0, .int .i64 0, .int .i64 0, .slice none 0 0, .slice none 0 0, .slice none 0 0] 73) := ⟨_, rfl⟩
 have B0 : Below w.heap.size w W0 := by rw [hW]; exact bel_alloc _ _
 have hz0 : Kp (W0.heap.size = w.heap.size + 1) := ⟨by rw [hW]; simp⟩
 have r0 : W0.heap[w.heap.size]? = some (Go.Obj.cells #[.int .i64 0, .int .i64 0, .int .i64 0, .int .i64 0, .int .i64 0, .int .i64 0, .slice none 0 0, .slice none 0 0, .slice none 0 0] 73) := by rw [hW]; exact new_at w _
 replace hW := Kp.mk hW
 clear h
 go_enter Tryz.func141, Tryz.ntmps141
 go_upto_region 1 with fail
 rw [← hW.out]
 go_wp2_with fail
 refine (CF.out _ B0).mono ?_
 rintro e w1 ⟨va', rfl, hO, hb1⟩
 obtain ⟨av, cv, rfl⟩ := ops_shape hO
 go_upto_region 2 with fail
 obtain ⟨w2, hw2⟩ : ∃ w2, w2 = w1.alloc (Go.Obj.cells #[.int .i64 op, .int .i64 ty, .int .i64 0, .int .i64 0, .int .i64 0, .int .i64 0, .slice av args.length cv, .slice none 0 0, .slice none 0 0] 73) := ⟨_, rfl⟩
 have b2 : Below w1.heap.size w1 w2 := by rw [hw2]; exact bel_alloc _ _
 have hz2 : Kp (w2.heap.size = w1.heap.size + 1) := ⟨by rw [hw2]; simp⟩
 have i2 : w2.heap[w1.heap.size]? = some (Go.Obj.cells #[.int .i64 op, .int .i64 ty, .int .i64 0, .int .i64 0, .int .i64 0, .int .i64 0, .slice av args.length cv, .slice none 0 0, .slice none 0 0] 73) := by rw [hw2]; exact new_at w1 _
 rw [← hw2]
 replace hw2 := Kp.mk hw2
 have r2 := kept_at (kept_at r0 hb1) b2
 have l1 : w.heap.size < w1.heap.size := by have := hb1.size; have := hz0.out; omega
 have hB2 := bel_trans B0 (bel_trans hb1 b2)
 have hO2 := hO.keep b2
 have hN : Nine w w.heap.size w2 := ⟨rw_nine r2, hB2, Nat.le_refl _, rw_cells r2⟩
 obtain ⟨p0, p1, p2, p3, p4, p5, p6, p7, p8⟩ := putNine hN.r (.int .i64 op) (.int .i64 ty) (.int .i64 0) (.int .i64 0) (.int .i64 0) (.int .i64 0) (.slice av args.length cv) (.slice none 0 0) (.slice none 0 0)
 have hF := Kp.mk (belNine hN.b hN.l (.int .i64 op) (.int .i64 ty) (.int .i64 0) (.int .i64 0) (.int .i64 0) (.int .i64 0) (.slice av args.length cv) (.slice none 0 0) (.slice none 0 0))
 have hOF : Kp (Ops w.heap.size (set9 w2 w.heap.size (.int .i64 op) (.int .i64 ty) (.int .i64 0) (.int .i64 0) (.int .i64 0) (.int .i64 0) (.slice av args.length cv) (.slice none 0 0) (.slice none 0 0)) (.slice av args.length cv) args) := ⟨hO2.mono (by have := hz0.out; omega) (keepsNine (by have := hz0.out; omega) _ _ _ _ _ _ _ _ _)⟩
 have fz := hN.fz
 have u0 := fz 0
 have u1 := fz 1
 have u2 := fz 2
 have u3 := fz 3
 have u4 := fz 4
 have u5 := fz 5
 have u6 := fz 6
 have u7 := fz 7
 have u8 := fz 8
 have z0 : At w2 w.heap.size 0 _ := cells_at r2 rfl
 have z1 : At w2 w.heap.size 1 _ := cells_at r2 rfl
 have z2 : At w2 w.heap.size 2 _ := cells_at r2 rfl
 have z3 : At w2 w.heap.size 3 _ := cells_at r2 rfl
 have z4 : At w2 w.heap.size 4 _ := cells_at r2 rfl
 have z5 : At w2 w.heap.size 5 _ := cells_at r2 rfl
 have z6 : At w2 w.heap.size 6 _ := cells_at r2 rfl
 have z7 : At w2 w.heap.size 7 _ := cells_at r2 rfl
 have z8 : At w2 w.heap.size 8 _ := cells_at r2 rfl
 have y0 : At w2 w1.heap.size 0 _ := cells_at i2 rfl
 have y1 : At w2 w1.heap.size 1 _ := cells_at i2 rfl
 have y2 : At w2 w1.heap.size 2 _ := cells_at i2 rfl
 have y3 : At w2 w1.heap.size 3 _ := cells_at i2 rfl
 have y4 : At w2 w1.heap.size 4 _ := cells_at i2 rfl
 have y5 : At w2 w1.heap.size 5 _ := cells_at i2 rfl
 have y6 : At w2 w1.heap.size 6 _ := cells_at i2 rfl
 have y7 : At w2 w1.heap.size 7 _ := cells_at i2 rfl
 have y8 : At w2 w1.heap.size 8 _ := cells_at i2 rfl
 replace hN := Kp.mk hN
 replace hO := Kp.mk hO
 clear fz r0 r2 i2
 go_wp2_with fail
 refine bodyPost_ret (v := .agg #[.int .i64 op, .int .i64 ty, .int .i64 0, .int .i64 0, .int .i64 0, .int .i64 0, .slice av args.length cv, .slice none 0 0, .slice none 0 0]) ?_ rfl ⟨_, rfl, hOF.out, hF.out⟩
 simp [results, Tryz.results141, go_sem, p0, p1, p2, p3, p4, p5, p6, p7, p8]
set_option maxRecDepth 100000 in
set_option maxHeartbeats 1000000 in
theorem faceAr (op ty fl : Int) (va : Value) (args : List OpD) (w : World) {lo : Nat} (h : Ops lo w va args) (hn : args.length ≤ 1048576) :
  Calls Tryz.prog 141 #[kAr op ty va fl] w fun e w' => ∃ va', e = .returned (.agg #[.int .i64 op, .int .i64 ty, .int .i64 fl, .int .i64 0, .int .i64 0, .int .i64 0, va', .slice none 0 0, .slice none 0 0]) ∧ Ops w.heap.size w' va' args ∧ Below w.heap.size w w' := by
 obtain ⟨aa, ca', rfl⟩ := ops_shape h
 have CF : Kp (∀ W, Below w.heap.size w W → Calls Tryz.prog 205 #[hdV op ty (.slice aa args.length ca')] W fun e w' => ∃ va', e = .returned (.agg #[.int .i64 op, .int .i64 ty, .int .i64 0, .int .i64 0, .int .i64 0, .int .i64 0, va', .slice none 0 0, .slice none 0 0]) ∧ Ops W.heap.size w' va' args ∧ Below W.heap.size W w') := ⟨fun W hB => hdFace op ty _ args W (h.keep hB) hn⟩
 obtain ⟨W0, hW⟩ : ∃ W0, W0 = w.alloc (Go.Obj.cells #[.int .i64 0, .int .i64 0, .int .i64 0, .int .i64 0, .int .i64 0, .int .i64 0, .slice none 0 0, .slice none 0 0, .slice none 0 0] 73) := ⟨_, rfl⟩
 have B0 : Below w.heap.size w W0 := by rw [hW]; exact bel_alloc _ _
 have hz0 : Kp (W0.heap.size = w.heap.size + 1) := ⟨by rw [hW]; simp⟩
 have r0 : W0.heap[w.heap.size]? = some (Go.Obj.cells #[.int .i64 0, .int .i64 0, .int .i64 0, .int .i64 0, .int .i64 0, .int .i64 0, .slice none 0 0, .slice none 0 0, .slice none 0 0] 73) := by rw [hW]; exact new_at w _
 replace hW := Kp.mk hW
 clear h
 go_enter Tryz.func141, Tryz.ntmps141
 go_upto_region 1 with fail
 rw [← hW.out]
 go_wp2_with fail
 refine (CF.out _ B0).mono ?_
 rintro e w1 ⟨va', rfl, hO, hb1⟩
 obtain ⟨av, cv, rfl⟩ := ops_shape hO
 go_upto_region 2 with fail
 obtain ⟨w2, hw2⟩ : ∃ w2, w2 = w1.alloc (Go.Obj.cells #[.int .i64 op, .int .i64 ty, .int .i64 0, .int .i64 0, .int .i64 0, .int .i64 0, .slice av args.length cv, .slice none 0 0, .slice none 0 0] 73) := ⟨_, rfl⟩
 have b2 : Below w1.heap.size w1 w2 := by rw [hw2]; exact bel_alloc _ _
 have hz2 : Kp (w2.heap.size = w1.heap.size + 1) := ⟨by rw [hw2]; simp⟩
 have i2 : w2.heap[w1.heap.size]? = some (Go.Obj.cells #[.int .i64 op, .int .i64 ty, .int .i64 0, .int .i64 0, .int .i64 0, .int .i64 0, .slice av args.length cv, .slice none 0 0, .slice none 0 0] 73) := by rw [hw2]; exact new_at w1 _
 rw [← hw2]
 replace hw2 := Kp.mk hw2
 have r2 := kept_at (kept_at r0 hb1) b2
 have l1 : w.heap.size < w1.heap.size := by have := hb1.size; have := hz0.out; omega
 have hB2 := bel_trans B0 (bel_trans hb1 b2)
 obtain ⟨w3, hw3⟩ : ∃ w3, w3 = w2.alloc (Go.Obj.cells #[.int .i64 op, .int .i64 ty, .slice aa args.length ca', .int .i64 fl] 191) := ⟨_, rfl⟩
 have b3 : Below w2.heap.size w2 w3 := by rw [hw3]; exact bel_alloc _ _
 have x3 : w3.heap[w2.heap.size]? = some (Go.Obj.cells #[.int .i64 op, .int .i64 ty, .slice aa args.length ca', .int .i64 fl] 191) := by rw [hw3]; exact new_at w2 _
 have i3 := kept_at i2 b3
 have r3 := kept_at r2 b3
 have hB3 := bel_trans hB2 b3
 have i4 := setI (ds := #[.int .i64 op, .int .i64 ty, .int .i64 fl, .int .i64 0, .int .i64 0, .int .i64 0, .slice av args.length cv, .slice none 0 0, .slice none 0 0]) i3 (i := 2) (.int .i64 fl) rfl
 have r4 := setO (i := 2) r3 (.int .i64 fl) (show w.heap.size ≠ w1.heap.size by omega)
 have hB4 := bel_set (b := w1.heap.size) (k := 2) hB3 (by omega) (.int .i64 fl)
 have hO4 : Ops W0.heap.size (w3.setCell ⟨w1.heap.size, 2, none⟩ (.int .i64 fl)) (.slice av args.length cv) args := hO.mono (Nat.le_refl _) (fun b o v _ q => set_other (at_keep (at_keep q b2) b3) (.inl (by have l : b < w1.heap.size := Lib.lt_of_cell q; omega)))
 obtain ⟨w4, hw4⟩ : ∃ w4, w4 = w3.setCell ⟨w1.heap.size, 2, none⟩ (.int .i64 fl) := ⟨_, rfl⟩
 rw [← hw4] at i4 r4 hB4 hO4
 have l1' := l1
 have hN : Nine w w.heap.size w4 := ⟨rw_nine r4, hB4, Nat.le_refl _, rw_cells r4⟩
 obtain ⟨p0, p1, p2, p3, p4, p5, p6, p7, p8⟩ := putNine hN.r (.int .i64 op) (.int .i64 ty) (.int .i64 fl) (.int .i64 0) (.int .i64 0) (.int .i64 0) (.slice av args.length cv) (.slice none 0 0) (.slice none 0 0)
 have hF := Kp.mk (belNine hN.b hN.l (.int .i64 op) (.int .i64 ty) (.int .i64 fl) (.int .i64 0) (.int .i64 0) (.int .i64 0) (.slice av args.length cv) (.slice none 0 0) (.slice none 0 0))
 have hOF : Kp (Ops w.heap.size (set9 w4 w.heap.size (.int .i64 op) (.int .i64 ty) (.int .i64 fl) (.int .i64 0) (.int .i64 0) (.int .i64 0) (.slice av args.length cv) (.slice none 0 0) (.slice none 0 0)) (.slice av args.length cv) args) := ⟨hO4.mono (by have := hz0.out; omega) (keepsNine (by have := hz0.out; omega) _ _ _ _ _ _ _ _ _)⟩
 have fz := hN.fz
 have u0 := fz 0
 have u1 := fz 1
 have u2 := fz 2
 have u3 := fz 3
 have u4 := fz 4
 have u5 := fz 5
 have u6 := fz 6
 have u7 := fz 7
 have u8 := fz 8
 have z0 : At w4 w.heap.size 0 _ := cells_at r4 rfl
 have z1 : At w4 w.heap.size 1 _ := cells_at r4 rfl
 have z2 : At w4 w.heap.size 2 _ := cells_at r4 rfl
 have z3 : At w4 w.heap.size 3 _ := cells_at r4 rfl
 have z4 : At w4 w.heap.size 4 _ := cells_at r4 rfl
 have z5 : At w4 w.heap.size 5 _ := cells_at r4 rfl
 have z6 : At w4 w.heap.size 6 _ := cells_at r4 rfl
 have z7 : At w4 w.heap.size 7 _ := cells_at r4 rfl
 have z8 : At w4 w.heap.size 8 _ := cells_at r4 rfl
 have y0 : At w4 w1.heap.size 0 _ := cells_at i4 rfl
 have y1 : At w4 w1.heap.size 1 _ := cells_at i4 rfl
 have y2 : At w4 w1.heap.size 2 _ := cells_at i4 rfl
 have y3 : At w4 w1.heap.size 3 _ := cells_at i4 rfl
 have y4 : At w4 w1.heap.size 4 _ := cells_at i4 rfl
 have y5 : At w4 w1.heap.size 5 _ := cells_at i4 rfl
 have y6 : At w4 w1.heap.size 6 _ := cells_at i4 rfl
 have y7 : At w4 w1.heap.size 7 _ := cells_at i4 rfl
 have y8 : At w4 w1.heap.size 8 _ := cells_at i4 rfl
 replace hN := Kp.mk hN
 replace hO := Kp.mk hO
 clear fz r0 r2 i2
 have ky : At w3 w2.heap.size 3 _ := cells_at x3 rfl
 have k2 : At w3 w1.heap.size 2 _ := cells_at i3 rfl
 have fk := rw_cells i3 2
 clear i3 r3 x3 i4 r4
 replace hw3 := Kp.mk hw3
 replace hw4 := Kp.mk hw4
 go_upto_region 5 with fail
 rw [← hw3.out]
 go_upto_region 22 with fail
 rw [← hw4.out]
 go_wp2_with fail
 refine bodyPost_ret (v := .agg #[.int .i64 op, .int .i64 ty, .int .i64 fl, .int .i64 0, .int .i64 0, .int .i64 0, .slice av args.length cv, .slice none 0 0, .slice none 0 0]) ?_ rfl ⟨_, rfl, hOF.out, hF.out⟩
 simp [results, Tryz.results141, go_sem, p0, p1, p2, p3, p4, p5, p6, p7, p8]
set_option maxRecDepth 100000 in
set_option maxHeartbeats 1000000 in
theorem faceCm (op ty pr : Int) (va : Value) (args : List OpD) (w : World) {lo : Nat} (h : Ops lo w va args) (hn : args.length ≤ 1048576) :
  Calls Tryz.prog 141 #[kCm op ty va pr] w fun e w' => ∃ va', e = .returned (.agg #[.int .i64 op, .int .i64 ty, .int .i64 0, .int .i64 pr, .int .i64 0, .int .i64 0, va', .slice none 0 0, .slice none 0 0]) ∧ Ops w.heap.size w' va' args ∧ Below w.heap.size w w' := by
 obtain ⟨aa, ca', rfl⟩ := ops_shape h
 have CF : Kp (∀ W, Below w.heap.size w W → Calls Tryz.prog 205 #[hdV op ty (.slice aa args.length ca')] W fun e w' => ∃ va', e = .returned (.agg #[.int .i64 op, .int .i64 ty, .int .i64 0, .int .i64 0, .int .i64 0, .int .i64 0, va', .slice none 0 0, .slice none 0 0]) ∧ Ops W.heap.size w' va' args ∧ Below W.heap.size W w') := ⟨fun W hB => hdFace op ty _ args W (h.keep hB) hn⟩
 obtain ⟨W0, hW⟩ : ∃ W0, W0 = w.alloc (Go.Obj.cells #[.int .i64 0, .int .i64 0, .int .i64 0, .int .i64 0, .int .i64 0, .int .i64 0, .slice none 0 0, .slice none 0 0, .slice none 0 0] 73) := ⟨_, rfl⟩
 have B0 : Below w.heap.size w W0 := by rw [hW]; exact bel_alloc _ _
 have hz0 : Kp (W0.heap.size = w.heap.size + 1) := ⟨by rw [hW]; simp⟩
 have r0 : W0.heap[w.heap.size]? = some (Go.Obj.cells #[.int .i64 0, .int .i64 0, .int .i64 0, .int .i64 0, .int .i64 0, .int .i64 0, .slice none 0 0, .slice none 0 0, .slice none 0 0] 73) := by rw [hW]; exact new_at w _
 replace hW := Kp.mk hW
 clear h
 go_enter Tryz.func141, Tryz.ntmps141
 go_upto_region 1 with fail
 rw [← hW.out]
 go_wp2_with fail
 refine (CF.out _ B0).mono ?_
 rintro e w1 ⟨va', rfl, hO, hb1⟩
 obtain ⟨av, cv, rfl⟩ := ops_shape hO
 go_upto_region 2 with fail
 obtain ⟨w2, hw2⟩ : ∃ w2, w2 = w1.alloc (Go.Obj.cells #[.int .i64 op, .int .i64 ty, .int .i64 0, .int .i64 0, .int .i64 0, .int .i64 0, .slice av args.length cv, .slice none 0 0, .slice none 0 0] 73) := ⟨_, rfl⟩
 have b2 : Below w1.heap.size w1 w2 := by rw [hw2]; exact bel_alloc _ _
 have hz2 : Kp (w2.heap.size = w1.heap.size + 1) := ⟨by rw [hw2]; simp⟩
 have i2 : w2.heap[w1.heap.size]? = some (Go.Obj.cells #[.int .i64 op, .int .i64 ty, .int .i64 0, .int .i64 0, .int .i64 0, .int .i64 0, .slice av args.length cv, .slice none 0 0, .slice none 0 0] 73) := by rw [hw2]; exact new_at w1 _
 rw [← hw2]
 replace hw2 := Kp.mk hw2
 have r2 := kept_at (kept_at r0 hb1) b2
 have l1 : w.heap.size < w1.heap.size := by have := hb1.size; have := hz0.out; omega
 have hB2 := bel_trans B0 (bel_trans hb1 b2)
 obtain ⟨w3, hw3⟩ : ∃ w3, w3 = w2.alloc (Go.Obj.cells #[.int .i64 op, .int .i64 ty, .slice aa args.length ca', .int .i64 pr] 181) := ⟨_, rfl⟩
 have b3 : Below w2.heap.size w2 w3 := by rw [hw3]; exact bel_alloc _ _
 have x3 : w3.heap[w2.heap.size]? = some (Go.Obj.cells #[.int .i64 op, .int .i64 ty, .slice aa args.length ca', .int .i64 pr] 181) := by rw [hw3]; exact new_at w2 _
 have i3 := kept_at i2 b3
 have r3 := kept_at r2 b3
 have hB3 := bel_trans hB2 b3
 have i4 := setI (ds := #[.int .i64 op, .int .i64 ty, .int .i64 0, .int .i64 pr, .int .i64 0, .int .i64 0, .slice av args.length cv, .slice none 0 0, .slice none 0 0]) i3 (i := 3) (.int .i64 pr) rfl
 have r4 := setO (i := 3) r3 (.int .i64 pr) (show w.heap.size ≠ w1.heap.size by omega)
 have hB4 := bel_set (b := w1.heap.size) (k := 3) hB3 (by omega) (.int .i64 pr)
 have hO4 : Ops W0.heap.size (w3.setCell ⟨w1.heap.size, 3, none⟩ (.int .i64 pr)) (.slice av args.length cv) args := hO.mono (Nat.le_refl _) (fun b o v _ q => set_other (at_keep (at_keep q b2) b3) (.inl (by have l : b < w1.heap.size := Lib.lt_of_cell q; omega)))
 obtain ⟨w4, hw4⟩ : ∃ w4, w4 = w3.setCell ⟨w1.heap.size, 3, none⟩ (.int .i64 pr) := ⟨_, rfl⟩
 rw [← hw4] at i4 r4 hB4 hO4
 have l1' := l1
 have hN : Nine w w.heap.size w4 := ⟨rw_nine r4, hB4, Nat.le_refl _, rw_cells r4⟩
 obtain ⟨p0, p1, p2, p3, p4, p5, p6, p7, p8⟩ := putNine hN.r (.int .i64 op) (.int .i64 ty) (.int .i64 0) (.int .i64 pr) (.int .i64 0) (.int .i64 0) (.slice av args.length cv) (.slice none 0 0) (.slice none 0 0)
 have hF := Kp.mk (belNine hN.b hN.l (.int .i64 op) (.int .i64 ty) (.int .i64 0) (.int .i64 pr) (.int .i64 0) (.int .i64 0) (.slice av args.length cv) (.slice none 0 0) (.slice none 0 0))
 have hOF : Kp (Ops w.heap.size (set9 w4 w.heap.size (.int .i64 op) (.int .i64 ty) (.int .i64 0) (.int .i64 pr) (.int .i64 0) (.int .i64 0) (.slice av args.length cv) (.slice none 0 0) (.slice none 0 0)) (.slice av args.length cv) args) := ⟨hO4.mono (by have := hz0.out; omega) (keepsNine (by have := hz0.out; omega) _ _ _ _ _ _ _ _ _)⟩
 have fz := hN.fz
 have u0 := fz 0
 have u1 := fz 1
 have u2 := fz 2
 have u3 := fz 3
 have u4 := fz 4
 have u5 := fz 5
 have u6 := fz 6
 have u7 := fz 7
 have u8 := fz 8
 have z0 : At w4 w.heap.size 0 _ := cells_at r4 rfl
 have z1 : At w4 w.heap.size 1 _ := cells_at r4 rfl
 have z2 : At w4 w.heap.size 2 _ := cells_at r4 rfl
 have z3 : At w4 w.heap.size 3 _ := cells_at r4 rfl
 have z4 : At w4 w.heap.size 4 _ := cells_at r4 rfl
 have z5 : At w4 w.heap.size 5 _ := cells_at r4 rfl
 have z6 : At w4 w.heap.size 6 _ := cells_at r4 rfl
 have z7 : At w4 w.heap.size 7 _ := cells_at r4 rfl
 have z8 : At w4 w.heap.size 8 _ := cells_at r4 rfl
 have y0 : At w4 w1.heap.size 0 _ := cells_at i4 rfl
 have y1 : At w4 w1.heap.size 1 _ := cells_at i4 rfl
 have y2 : At w4 w1.heap.size 2 _ := cells_at i4 rfl
 have y3 : At w4 w1.heap.size 3 _ := cells_at i4 rfl
 have y4 : At w4 w1.heap.size 4 _ := cells_at i4 rfl
 have y5 : At w4 w1.heap.size 5 _ := cells_at i4 rfl
 have y6 : At w4 w1.heap.size 6 _ := cells_at i4 rfl
 have y7 : At w4 w1.heap.size 7 _ := cells_at i4 rfl
 have y8 : At w4 w1.heap.size 8 _ := cells_at i4 rfl
 replace hN := Kp.mk hN
 replace hO := Kp.mk hO
 clear fz r0 r2 i2
 have ky : At w3 w2.heap.size 3 _ := cells_at x3 rfl
 have k3 : At w3 w1.heap.size 3 _ := cells_at i3 rfl
 have fk := rw_cells i3 3
 clear i3 r3 x3 i4 r4
 replace hw3 := Kp.mk hw3
 replace hw4 := Kp.mk hw4
 go_upto_region 8 with fail
 rw [← hw3.out]
 go_upto_region 22 with fail
 rw [← hw4.out]
 go_wp2_with fail
 refine bodyPost_ret (v := .agg #[.int .i64 op, .int .i64 ty, .int .i64 0, .int .i64 pr, .int .i64 0, .int .i64 0, .slice av args.length cv, .slice none 0 0, .slice none 0 0]) ?_ rfl ⟨_, rfl, hOF.out, hF.out⟩
 simp [results, Tryz.results141, go_sem, p0, p1, p2, p3, p4, p5, p6, p7, p8]
set_option maxRecDepth 100000 in
set_option maxHeartbeats 1000000 in
theorem faceAl (op ty sz : Int) (va : Value) (args : List OpD) (w : World) {lo : Nat} (h : Ops lo w va args) (hn : args.length ≤ 1048576) :
  Calls Tryz.prog 141 #[kAl op ty va sz] w fun e w' => ∃ va', e = .returned (.agg #[.int .i64 op, .int .i64 ty, .int .i64 0, .int .i64 0, .int .i64 0, .int .i64 sz, va', .slice none 0 0, .slice none 0 0]) ∧ Ops w.heap.size w' va' args ∧ Below w.heap.size w w' := by
 obtain ⟨aa, ca', rfl⟩ := ops_shape h
 have CF : Kp (∀ W, Below w.heap.size w W → Calls Tryz.prog 205 #[hdV op ty (.slice aa args.length ca')] W fun e w' => ∃ va', e = .returned (.agg #[.int .i64 op, .int .i64 ty, .int .i64 0, .int .i64 0, .int .i64 0, .int .i64 0, va', .slice none 0 0, .slice none 0 0]) ∧ Ops W.heap.size w' va' args ∧ Below W.heap.size W w') := ⟨fun W hB => hdFace op ty _ args W (h.keep hB) hn⟩
 obtain ⟨W0, hW⟩ : ∃ W0, W0 = w.alloc (Go.Obj.cells #[.int .i64 0, .int .i64 0, .int .i64 0, .int .i64 0, .int .i64 0, .int .i64 0, .slice none 0 0, .slice none 0 0, .slice none 0 0] 73) := ⟨_, rfl⟩
 have B0 : Below w.heap.size w W0 := by rw [hW]; exact bel_alloc _ _
 have hz0 : Kp (W0.heap.size = w.heap.size + 1) := ⟨by rw [hW]; simp⟩
 have r0 : W0.heap[w.heap.size]? = some (Go.Obj.cells #[.int .i64 0, .int .i64 0, .int .i64 0, .int .i64 0, .int .i64 0, .int .i64 0, .slice none 0 0, .slice none 0 0, .slice none 0 0] 73) := by rw [hW]; exact new_at w _
 replace hW := Kp.mk hW
 clear h
 go_enter Tryz.func141, Tryz.ntmps141
 go_upto_region 1 with fail
 rw [← hW.out]
 go_wp2_with fail
 refine (CF.out _ B0).mono ?_
 rintro e w1 ⟨va', rfl, hO, hb1⟩
 obtain ⟨av, cv, rfl⟩ := ops_shape hO
 go_upto_region 2 with fail
 obtain ⟨w2, hw2⟩ : ∃ w2, w2 = w1.alloc (Go.Obj.cells #[.int .i64 op, .int .i64 ty, .int .i64 0, .int .i64 0, .int .i64 0, .int .i64 0, .slice av args.length cv, .slice none 0 0, .slice none 0 0] 73) := ⟨_, rfl⟩
 have b2 : Below w1.heap.size w1 w2 := by rw [hw2]; exact bel_alloc _ _
 have hz2 : Kp (w2.heap.size = w1.heap.size + 1) := ⟨by rw [hw2]; simp⟩
 have i2 : w2.heap[w1.heap.size]? = some (Go.Obj.cells #[.int .i64 op, .int .i64 ty, .int .i64 0, .int .i64 0, .int .i64 0, .int .i64 0, .slice av args.length cv, .slice none 0 0, .slice none 0 0] 73) := by rw [hw2]; exact new_at w1 _
 rw [← hw2]
 replace hw2 := Kp.mk hw2
 have r2 := kept_at (kept_at r0 hb1) b2
 have l1 : w.heap.size < w1.heap.size := by have := hb1.size; have := hz0.out; omega
 have hB2 := bel_trans B0 (bel_trans hb1 b2)
 obtain ⟨w3, hw3⟩ : ∃ w3, w3 = w2.alloc (Go.Obj.cells #[.int .i64 op, .int .i64 ty, .slice aa args.length ca', .int .i64 sz] 183) := ⟨_, rfl⟩
 have b3 : Below w2.heap.size w2 w3 := by rw [hw3]; exact bel_alloc _ _
 have x3 : w3.heap[w2.heap.size]? = some (Go.Obj.cells #[.int .i64 op, .int .i64 ty, .slice aa args.length ca', .int .i64 sz] 183) := by rw [hw3]; exact new_at w2 _
 have i3 := kept_at i2 b3
 have r3 := kept_at r2 b3
 have hB3 := bel_trans hB2 b3
 have i4 := setI (ds := #[.int .i64 op, .int .i64 ty, .int .i64 0, .int .i64 0, .int .i64 0, .int .i64 sz, .slice av args.length cv, .slice none 0 0, .slice none 0 0]) i3 (i := 5) (.int .i64 sz) rfl
 have r4 := setO (i := 5) r3 (.int .i64 sz) (show w.heap.size ≠ w1.heap.size by omega)
 have hB4 := bel_set (b := w1.heap.size) (k := 5) hB3 (by omega) (.int .i64 sz)
 have hO4 : Ops W0.heap.size (w3.setCell ⟨w1.heap.size, 5, none⟩ (.int .i64 sz)) (.slice av args.length cv) args := hO.mono (Nat.le_refl _) (fun b o v _ q => set_other (at_keep (at_keep q b2) b3) (.inl (by have l : b < w1.heap.size := Lib.lt_of_cell q; omega)))
 obtain ⟨w4, hw4⟩ : ∃ w4, w4 = w3.setCell ⟨w1.heap.size, 5, none⟩ (.int .i64 sz) := ⟨_, rfl⟩
 rw [← hw4] at i4 r4 hB4 hO4
 have l1' := l1
 have hN : Nine w w.heap.size w4 := ⟨rw_nine r4, hB4, Nat.le_refl _, rw_cells r4⟩
 obtain ⟨p0, p1, p2, p3, p4, p5, p6, p7, p8⟩ := putNine hN.r (.int .i64 op) (.int .i64 ty) (.int .i64 0) (.int .i64 0) (.int .i64 0) (.int .i64 sz) (.slice av args.length cv) (.slice none 0 0) (.slice none 0 0)
 have hF := Kp.mk (belNine hN.b hN.l (.int .i64 op) (.int .i64 ty) (.int .i64 0) (.int .i64 0) (.int .i64 0) (.int .i64 sz) (.slice av args.length cv) (.slice none 0 0) (.slice none 0 0))
 have hOF : Kp (Ops w.heap.size (set9 w4 w.heap.size (.int .i64 op) (.int .i64 ty) (.int .i64 0) (.int .i64 0) (.int .i64 0) (.int .i64 sz) (.slice av args.length cv) (.slice none 0 0) (.slice none 0 0)) (.slice av args.length cv) args) := ⟨hO4.mono (by have := hz0.out; omega) (keepsNine (by have := hz0.out; omega) _ _ _ _ _ _ _ _ _)⟩
 have fz := hN.fz
 have u0 := fz 0
 have u1 := fz 1
 have u2 := fz 2
 have u3 := fz 3
 have u4 := fz 4
 have u5 := fz 5
 have u6 := fz 6
 have u7 := fz 7
 have u8 := fz 8
 have z0 : At w4 w.heap.size 0 _ := cells_at r4 rfl
 have z1 : At w4 w.heap.size 1 _ := cells_at r4 rfl
 have z2 : At w4 w.heap.size 2 _ := cells_at r4 rfl
 have z3 : At w4 w.heap.size 3 _ := cells_at r4 rfl
 have z4 : At w4 w.heap.size 4 _ := cells_at r4 rfl
 have z5 : At w4 w.heap.size 5 _ := cells_at r4 rfl
 have z6 : At w4 w.heap.size 6 _ := cells_at r4 rfl
 have z7 : At w4 w.heap.size 7 _ := cells_at r4 rfl
 have z8 : At w4 w.heap.size 8 _ := cells_at r4 rfl
 have y0 : At w4 w1.heap.size 0 _ := cells_at i4 rfl
 have y1 : At w4 w1.heap.size 1 _ := cells_at i4 rfl
 have y2 : At w4 w1.heap.size 2 _ := cells_at i4 rfl
 have y3 : At w4 w1.heap.size 3 _ := cells_at i4 rfl
 have y4 : At w4 w1.heap.size 4 _ := cells_at i4 rfl
 have y5 : At w4 w1.heap.size 5 _ := cells_at i4 rfl
 have y6 : At w4 w1.heap.size 6 _ := cells_at i4 rfl
 have y7 : At w4 w1.heap.size 7 _ := cells_at i4 rfl
 have y8 : At w4 w1.heap.size 8 _ := cells_at i4 rfl
 replace hN := Kp.mk hN
 replace hO := Kp.mk hO
 clear fz r0 r2 i2
 have ky : At w3 w2.heap.size 3 _ := cells_at x3 rfl
 have k5 : At w3 w1.heap.size 5 _ := cells_at i3 rfl
 have fk := rw_cells i3 5
 clear i3 r3 x3 i4 r4
 replace hw3 := Kp.mk hw3
 replace hw4 := Kp.mk hw4
 go_upto_region 11 with fail
 rw [← hw3.out]
 go_upto_region 22 with fail
 rw [← hw4.out]
 go_wp2_with fail
 refine bodyPost_ret (v := .agg #[.int .i64 op, .int .i64 ty, .int .i64 0, .int .i64 0, .int .i64 0, .int .i64 sz, .slice av args.length cv, .slice none 0 0, .slice none 0 0]) ?_ rfl ⟨_, rfl, hOF.out, hF.out⟩
 simp [results, Tryz.results141, go_sem, p0, p1, p2, p3, p4, p5, p6, p7, p8]
set_option maxRecDepth 100000 in
set_option maxHeartbeats 1000000 in
theorem faceIn (op ty ca : Int) (va : Value) (args : List OpD) (w : World) {lo : Nat} (h : Ops lo w va args) (hn : args.length ≤ 1048576) :
  Calls Tryz.prog 141 #[kIn op ty va ca] w fun e w' => ∃ va', e = .returned (.agg #[.int .i64 op, .int .i64 ty, .int .i64 0, .int .i64 0, .int .i64 ca, .int .i64 0, va', .slice none 0 0, .slice none 0 0]) ∧ Ops w.heap.size w' va' args ∧ Below w.heap.size w w' := by
 obtain ⟨aa, ca', rfl⟩ := ops_shape h
 have CF : Kp (∀ W, Below w.heap.size w W → Calls Tryz.prog 205 #[hdV op ty (.slice aa args.length ca')] W fun e w' => ∃ va', e = .returned (.agg #[.int .i64 op, .int .i64 ty, .int .i64 0, .int .i64 0, .int .i64 0, .int .i64 0, va', .slice none 0 0, .slice none 0 0]) ∧ Ops W.heap.size w' va' args ∧ Below W.heap.size W w') := ⟨fun W hB => hdFace op ty _ args W (h.keep hB) hn⟩
 obtain ⟨W0, hW⟩ : ∃ W0, W0 = w.alloc (Go.Obj.cells #[.int .i64 0, .int .i64 0, .int .i64 0, .int .i64 0, .int .i64 0, .int .i64 0, .slice none 0 0, .slice none 0 0, .slice none 0 0] 73) := ⟨_, rfl⟩
 have B0 : Below w.heap.size w W0 := by rw [hW]; exact bel_alloc _ _
 have hz0 : Kp (W0.heap.size = w.heap.size + 1) := ⟨by rw [hW]; simp⟩
 have r0 : W0.heap[w.heap.size]? = some (Go.Obj.cells #[.int .i64 0, .int .i64 0, .int .i64 0, .int .i64 0, .int .i64 0, .int .i64 0, .slice none 0 0, .slice none 0 0, .slice none 0 0] 73) := by rw [hW]; exact new_at w _
 replace hW := Kp.mk hW
 clear h
 go_enter Tryz.func141, Tryz.ntmps141
 go_upto_region 1 with fail
 rw [← hW.out]
 go_wp2_with fail
 refine (CF.out _ B0).mono ?_
 rintro e w1 ⟨va', rfl, hO, hb1⟩
 obtain ⟨av, cv, rfl⟩ := ops_shape hO
 go_upto_region 2 with fail
 obtain ⟨w2, hw2⟩ : ∃ w2, w2 = w1.alloc (Go.Obj.cells #[.int .i64 op, .int .i64 ty, .int .i64 0, .int .i64 0, .int .i64 0, .int .i64 0, .slice av args.length cv, .slice none 0 0, .slice none 0 0] 73) := ⟨_, rfl⟩
 have b2 : Below w1.heap.size w1 w2 := by rw [hw2]; exact bel_alloc _ _
 have hz2 : Kp (w2.heap.size = w1.heap.size + 1) := ⟨by rw [hw2]; simp⟩
 have i2 : w2.heap[w1.heap.size]? = some (Go.Obj.cells #[.int .i64 op, .int .i64 ty, .int .i64 0, .int .i64 0, .int .i64 0, .int .i64 0, .slice av args.length cv, .slice none 0 0, .slice none 0 0] 73) := by rw [hw2]; exact new_at w1 _
 rw [← hw2]
 replace hw2 := Kp.mk hw2
 have r2 := kept_at (kept_at r0 hb1) b2
 have l1 : w.heap.size < w1.heap.size := by have := hb1.size; have := hz0.out; omega
 have hB2 := bel_trans B0 (bel_trans hb1 b2)
 obtain ⟨w3, hw3⟩ : ∃ w3, w3 = w2.alloc (Go.Obj.cells #[.int .i64 op, .int .i64 ty, .slice aa args.length ca', .int .i64 ca] 185) := ⟨_, rfl⟩
 have b3 : Below w2.heap.size w2 w3 := by rw [hw3]; exact bel_alloc _ _
 have x3 : w3.heap[w2.heap.size]? = some (Go.Obj.cells #[.int .i64 op, .int .i64 ty, .slice aa args.length ca', .int .i64 ca] 185) := by rw [hw3]; exact new_at w2 _
 have i3 := kept_at i2 b3
 have r3 := kept_at r2 b3
 have hB3 := bel_trans hB2 b3
 have i4 := setI (ds := #[.int .i64 op, .int .i64 ty, .int .i64 0, .int .i64 0, .int .i64 ca, .int .i64 0, .slice av args.length cv, .slice none 0 0, .slice none 0 0]) i3 (i := 4) (.int .i64 ca) rfl
 have r4 := setO (i := 4) r3 (.int .i64 ca) (show w.heap.size ≠ w1.heap.size by omega)
 have hB4 := bel_set (b := w1.heap.size) (k := 4) hB3 (by omega) (.int .i64 ca)
 have hO4 : Ops W0.heap.size (w3.setCell ⟨w1.heap.size, 4, none⟩ (.int .i64 ca)) (.slice av args.length cv) args := hO.mono (Nat.le_refl _) (fun b o v _ q => set_other (at_keep (at_keep q b2) b3) (.inl (by have l : b < w1.heap.size := Lib.lt_of_cell q; omega)))
 obtain ⟨w4, hw4⟩ : ∃ w4, w4 = w3.setCell ⟨w1.heap.size, 4, none⟩ (.int .i64 ca) := ⟨_, rfl⟩
 rw [← hw4] at i4 r4 hB4 hO4
 have l1' := l1
 have hN : Nine w w.heap.size w4 := ⟨rw_nine r4, hB4, Nat.le_refl _, rw_cells r4⟩
 obtain ⟨p0, p1, p2, p3, p4, p5, p6, p7, p8⟩ := putNine hN.r (.int .i64 op) (.int .i64 ty) (.int .i64 0) (.int .i64 0) (.int .i64 ca) (.int .i64 0) (.slice av args.length cv) (.slice none 0 0) (.slice none 0 0)
 have hF := Kp.mk (belNine hN.b hN.l (.int .i64 op) (.int .i64 ty) (.int .i64 0) (.int .i64 0) (.int .i64 ca) (.int .i64 0) (.slice av args.length cv) (.slice none 0 0) (.slice none 0 0))
 have hOF : Kp (Ops w.heap.size (set9 w4 w.heap.size (.int .i64 op) (.int .i64 ty) (.int .i64 0) (.int .i64 0) (.int .i64 ca) (.int .i64 0) (.slice av args.length cv) (.slice none 0 0) (.slice none 0 0)) (.slice av args.length cv) args) := ⟨hO4.mono (by have := hz0.out; omega) (keepsNine (by have := hz0.out; omega) _ _ _ _ _ _ _ _ _)⟩
 have fz := hN.fz
 have u0 := fz 0
 have u1 := fz 1
 have u2 := fz 2
 have u3 := fz 3
 have u4 := fz 4
 have u5 := fz 5
 have u6 := fz 6
 have u7 := fz 7
 have u8 := fz 8
 have z0 : At w4 w.heap.size 0 _ := cells_at r4 rfl
 have z1 : At w4 w.heap.size 1 _ := cells_at r4 rfl
 have z2 : At w4 w.heap.size 2 _ := cells_at r4 rfl
 have z3 : At w4 w.heap.size 3 _ := cells_at r4 rfl
 have z4 : At w4 w.heap.size 4 _ := cells_at r4 rfl
 have z5 : At w4 w.heap.size 5 _ := cells_at r4 rfl
 have z6 : At w4 w.heap.size 6 _ := cells_at r4 rfl
 have z7 : At w4 w.heap.size 7 _ := cells_at r4 rfl
 have z8 : At w4 w.heap.size 8 _ := cells_at r4 rfl
 have y0 : At w4 w1.heap.size 0 _ := cells_at i4 rfl
 have y1 : At w4 w1.heap.size 1 _ := cells_at i4 rfl
 have y2 : At w4 w1.heap.size 2 _ := cells_at i4 rfl
 have y3 : At w4 w1.heap.size 3 _ := cells_at i4 rfl
 have y4 : At w4 w1.heap.size 4 _ := cells_at i4 rfl
 have y5 : At w4 w1.heap.size 5 _ := cells_at i4 rfl
 have y6 : At w4 w1.heap.size 6 _ := cells_at i4 rfl
 have y7 : At w4 w1.heap.size 7 _ := cells_at i4 rfl
 have y8 : At w4 w1.heap.size 8 _ := cells_at i4 rfl
 replace hN := Kp.mk hN
 replace hO := Kp.mk hO
 clear fz r0 r2 i2
 have ky : At w3 w2.heap.size 3 _ := cells_at x3 rfl
 have k4 : At w3 w1.heap.size 4 _ := cells_at i3 rfl
 have fk := rw_cells i3 4
 clear i3 r3 x3 i4 r4
 replace hw3 := Kp.mk hw3
 replace hw4 := Kp.mk hw4
 go_upto_region 14 with fail
 rw [← hw3.out]
 go_upto_region 22 with fail
 rw [← hw4.out]
 go_wp2_with fail
 refine bodyPost_ret (v := .agg #[.int .i64 op, .int .i64 ty, .int .i64 0, .int .i64 0, .int .i64 ca, .int .i64 0, .slice av args.length cv, .slice none 0 0, .slice none 0 0]) ?_ rfl ⟨_, rfl, hOF.out, hF.out⟩
 simp [results, Tryz.results141, go_sem, p0, p1, p2, p3, p4, p5, p6, p7, p8]
set_option maxRecDepth 100000 in
set_option maxHeartbeats 2000000 in
theorem faceJn (op ty : Int) (va vl : Value) (args : List OpD) (bl : List Int) (w : World) {lo : Nat} (h : Ops lo w va args) (hl : Ints lo .i64 w vl bl) (hn : args.length ≤ 1048576) (hnl : bl.length ≤ 1048576) :
  Calls Tryz.prog 141 #[kJn op ty va vl] w fun e w' => ∃ va' vl', e = .returned (.agg #[.int .i64 op, .int .i64 ty, .int .i64 0, .int .i64 0, .int .i64 0, .int .i64 0, va', vl', .slice none 0 0]) ∧ Ops w.heap.size w' va' args ∧ Ints w.heap.size .i64 w' vl' bl ∧ Below w.heap.size w w' := by
 obtain ⟨aa, ca', rfl⟩ := ops_shape h
 obtain ⟨al, cl, rfl⟩ := hl.shape
 have CF : Kp (∀ W, Below w.heap.size w W → Calls Tryz.prog 205 #[hdV op ty (.slice aa args.length ca')] W fun e w' => ∃ va', e = .returned (.agg #[.int .i64 op, .int .i64 ty, .int .i64 0, .int .i64 0, .int .i64 0, .int .i64 0, va', .slice none 0 0, .slice none 0 0]) ∧ Ops W.heap.size w' va' args ∧ Below W.heap.size W w') := ⟨fun W hB => hdFace op ty _ args W (h.keep hB) hn⟩
 have CL : Kp (∀ W, Below w.heap.size w W → Calls Tryz.prog 103 #[.slice al bl.length cl] W fun e w' => ∃ v', e = .returned v' ∧ Ints W.heap.size .i64 w' v' bl ∧ Below W.heap.size W w') := ⟨fun W hB => (cloneI _ bl W (hl.keep hB) hnl).mono (fun e w' ⟨v', e1, e2, e3⟩ => ⟨v', e1, OwnI.ints ⟨e2⟩ hnl, e3⟩)⟩
 obtain ⟨W0, hW⟩ : ∃ W0, W0 = w.alloc (Go.Obj.cells #[.int .i64 0, .int .i64 0, .int .i64 0, .int .i64 0, .int .i64 0, .int .i64 0, .slice none 0 0, .slice none 0 0, .slice none 0 0] 73) := ⟨_, rfl⟩
 have B0 : Below w.heap.size w W0 := by rw [hW]; exact bel_alloc _ _
 have hz0 : Kp (W0.heap.size = w.heap.size + 1) := ⟨by rw [hW]; simp⟩
 have r0 : W0.heap[w.heap.size]? = some (Go.Obj.cells #[.int .i64 0, .int .i64 0, .int .i64 0, .int .i64 0, .int .i64 0, .int .i64 0, .slice none 0 0, .slice none 0 0, .slice none 0 0] 73) := by rw [hW]; exact new_at w _
 replace hW := Kp.mk hW
 clear h hl
 go_enter Tryz.func141, Tryz.ntmps141
 go_upto_region 1 with fail
 rw [← hW.out]
 go_wp2_with fail
 refine (CF.out _ B0).mono ?_
 rintro e w1 ⟨va', rfl, hO, hb1⟩
 obtain ⟨av, cv, rfl⟩ := ops_shape hO
 go_upto_region 2 with fail
 obtain ⟨w2, hw2⟩ : ∃ w2, w2 = w1.alloc (Go.Obj.cells #[.int .i64 op, .int .i64 ty, .int .i64 0, .int .i64 0, .int .i64 0, .int .i64 0, .slice av args.length cv, .slice none 0 0, .slice none 0 0] 73) := ⟨_, rfl⟩
 have b2 : Below w1.heap.size w1 w2 := by rw [hw2]; exact bel_alloc _ _
 have i2 : w2.heap[w1.heap.size]? = some (Go.Obj.cells #[.int .i64 op, .int .i64 ty, .int .i64 0, .int .i64 0, .int .i64 0, .int .i64 0, .slice av args.length cv, .slice none 0 0, .slice none 0 0] 73) := by rw [hw2]; exact new_at w1 _
 rw [← hw2]
 replace hw2 := Kp.mk hw2
 have r2 := kept_at (kept_at r0 hb1) b2
 have l1 : w.heap.size < w1.heap.size := by have := hb1.size; have := hz0.out; omega
 have hB2 := bel_trans B0 (bel_trans hb1 b2)
 go_upto_region 17 with fail
 obtain ⟨w3, hw3⟩ : ∃ w3, w3 = w2.alloc (Go.Obj.cells #[.int .i64 op, .int .i64 ty, .slice aa args.length ca', .slice al bl.length cl] 187) := ⟨_, rfl⟩
 have b3 : Below w2.heap.size w2 w3 := by rw [hw3]; exact bel_alloc _ _
 have x3 : w3.heap[w2.heap.size]? = some (Go.Obj.cells #[.int .i64 op, .int .i64 ty, .slice aa args.length ca', .slice al bl.length cl] 187) := by rw [hw3]; exact new_at w2 _
 rw [← hw3]
 replace hw3 := Kp.mk hw3
 have i3 := kept_at i2 b3
 have r3 := kept_at r2 b3
 have hB3 := bel_trans hB2 b3
 have k3 : At w3 w2.heap.size 3 _ := cells_at x3 rfl
 go_wp2_with fail
 refine (CL.out _ hB3).mono ?_
 rintro e w4 ⟨vl', rfl, hL, hb4⟩
 obtain ⟨alv, clv, rfl⟩ := hL.shape
 have i4 := kept_at i3 hb4
 have r4 := kept_at r3 hb4
 have hB4 := bel_trans hB3 hb4
 have l4 : w1.heap.size < w3.heap.size := by have := b2.size; have := b3.size; have := hb4.size; have := (Array.getElem?_eq_some_iff.1 i3).1; omega
 have k7 : At w4 w1.heap.size 7 _ := cells_at i4 rfl
 have f7 := rw_cells i4 7
 have i5 := setI (ds := #[.int .i64 op, .int .i64 ty, .int .i64 0, .int .i64 0, .int .i64 0, .int .i64 0, .slice av args.length cv, .slice alv bl.length clv, .slice none 0 0]) i4 (i := 7) (.slice alv bl.length clv) rfl
 have r5 := setO (i := 7) r4 (.slice alv bl.length clv) (show w.heap.size ≠ w1.heap.size by omega)
 have hB5 := bel_set (b := w1.heap.size) (k := 7) hB4 (by omega) (.slice alv bl.length clv)
 have hO5 : Ops W0.heap.size (w4.setCell ⟨w1.heap.size, 7, none⟩ (.slice alv bl.length clv)) (.slice av args.length cv) args := hO.mono (Nat.le_refl _) (fun b o v _ q => set_other (at_keep (at_keep (at_keep q b2) b3) hb4) (.inl (by have l : b < w1.heap.size := Lib.lt_of_cell q; omega)))
 have hL5 : Ints W0.heap.size .i64 (w4.setCell ⟨w1.heap.size, 7, none⟩ (.slice alv bl.length clv)) (.slice alv bl.length clv) bl := hL.mono (by have := hb1.size; have := b2.size; have := b3.size; omega) (keeps_set l4)
 obtain ⟨w5, hw5⟩ : ∃ w5, w5 = w4.setCell ⟨w1.heap.size, 7, none⟩ (.slice alv bl.length clv) := ⟨_, rfl⟩
 have X5 : Kp (w5.heap[w2.heap.size]? = some (Go.Obj.cells #[.int .i64 op, .int .i64 ty, .slice aa args.length ca', .slice al bl.length cl] 187)) := ⟨by rw [hw5]; exact setO (kept_at x3 hb4) _ (by have := (Array.getElem?_eq_some_iff.1 i2).1; omega)⟩
 rw [← hw5] at i5 r5 hB5 hO5 hL5
 replace hO := Kp.mk hO
 replace hL := Kp.mk hL
 replace hw5 := Kp.mk hw5
 clear r0 i2 r2 x3 i3 r3 i4 r4
 clear k3
 go_upto_region 22 with fail
 rw [← hw5.out]
 clear k7 f7
 have hN : Nine w w.heap.size w5 := ⟨rw_nine r5, hB5, Nat.le_refl _, rw_cells r5⟩
 obtain ⟨p0, p1, p2, p3, p4, p5, p6, p7, p8⟩ := putNine hN.r (.int .i64 op) (.int .i64 ty) (.int .i64 0) (.int .i64 0) (.int .i64 0) (.int .i64 0) (.slice av args.length cv) (.slice alv bl.length clv) (.slice none 0 0)
 have hF := Kp.mk (belNine hN.b hN.l (.int .i64 op) (.int .i64 ty) (.int .i64 0) (.int .i64 0) (.int .i64 0) (.int .i64 0) (.slice av args.length cv) (.slice alv bl.length clv) (.slice none 0 0))
 have hKN := keepsNine (lo := W0.heap.size) (C := w.heap.size) (W := w5) (by have := hz0.out; omega) (.int .i64 op) (.int .i64 ty) (.int .i64 0) (.int .i64 0) (.int .i64 0) (.int .i64 0) (.slice av args.length cv) (.slice alv bl.length clv) (.slice none 0 0)
 have hO5F : Kp (Ops w.heap.size (set9 w5 w.heap.size (.int .i64 op) (.int .i64 ty) (.int .i64 0) (.int .i64 0) (.int .i64 0) (.int .i64 0) (.slice av args.length cv) (.slice alv bl.length clv) (.slice none 0 0)) (.slice av args.length cv) args) := ⟨hO5.mono (by have := hz0.out; omega) hKN⟩
 have hL5F : Kp (Ints w.heap.size .i64 (set9 w5 w.heap.size (.int .i64 op) (.int .i64 ty) (.int .i64 0) (.int .i64 0) (.int .i64 0) (.int .i64 0) (.slice av args.length cv) (.slice alv bl.length clv) (.slice none 0 0)) (.slice alv bl.length clv) bl) := ⟨hL5.mono (by have := hz0.out; omega) hKN⟩
 have fz := hN.fz
 have u0 := fz 0
 have u1 := fz 1
 have u2 := fz 2
 have u3 := fz 3
 have u4 := fz 4
 have u5 := fz 5
 have u6 := fz 6
 have u7 := fz 7
 have u8 := fz 8
 have z0 : At w5 w.heap.size 0 _ := cells_at r5 rfl
 have z1 : At w5 w.heap.size 1 _ := cells_at r5 rfl
 have z2 : At w5 w.heap.size 2 _ := cells_at r5 rfl
 have z3 : At w5 w.heap.size 3 _ := cells_at r5 rfl
 have z4 : At w5 w.heap.size 4 _ := cells_at r5 rfl
 have z5 : At w5 w.heap.size 5 _ := cells_at r5 rfl
 have z6 : At w5 w.heap.size 6 _ := cells_at r5 rfl
 have z7 : At w5 w.heap.size 7 _ := cells_at r5 rfl
 have z8 : At w5 w.heap.size 8 _ := cells_at r5 rfl
 have y0 : At w5 w1.heap.size 0 _ := cells_at i5 rfl
 have y1 : At w5 w1.heap.size 1 _ := cells_at i5 rfl
 have y2 : At w5 w1.heap.size 2 _ := cells_at i5 rfl
 have y3 : At w5 w1.heap.size 3 _ := cells_at i5 rfl
 have y4 : At w5 w1.heap.size 4 _ := cells_at i5 rfl
 have y5 : At w5 w1.heap.size 5 _ := cells_at i5 rfl
 have y6 : At w5 w1.heap.size 6 _ := cells_at i5 rfl
 have y7 : At w5 w1.heap.size 7 _ := cells_at i5 rfl
 have y8 : At w5 w1.heap.size 8 _ := cells_at i5 rfl
 replace hN := Kp.mk hN
 replace hKN := Kp.mk hKN
 clear fz
 go_wp2_with fail
 refine bodyPost_ret (v := .agg #[.int .i64 op, .int .i64 ty, .int .i64 0, .int .i64 0, .int .i64 0, .int .i64 0, .slice av args.length cv, .slice alv bl.length clv, .slice none 0 0]) ?_ rfl ⟨_, _, rfl, hO5F.out, hL5F.out, hF.out⟩
 simp [results, Tryz.results141, go_sem, p0, p1, p2, p3, p4, p5, p6, p7, p8]
set_option maxRecDepth 100000 in
set_option maxHeartbeats 2000000 in
theorem faceDi (op ty : Int) (va vl vs : Value) (args : List OpD) (bl ws : List Int) (w : World) {lo : Nat} (h : Ops lo w va args) (hl : Ints lo .i64 w vl bl) (hs : Ints lo .u64 w vs ws) (hn : args.length ≤ 1048576) (hnl : bl.length ≤ 1048576) (hns : ws.length ≤ 1048576) :
  Calls Tryz.prog 141 #[kDi op ty va vl vs] w fun e w' => ∃ va' vl' vs', e = .returned (.agg #[.int .i64 op, .int .i64 ty, .int .i64 0, .int .i64 0, .int .i64 0, .int .i64 0, va', vl', vs']) ∧ Ops w.heap.size w' va' args ∧ Ints w.heap.size .i64 w' vl' bl ∧ Ints w.heap.size .u64 w' vs' ws ∧ Below w.heap.size w w' := by
 obtain ⟨aa, ca', rfl⟩ := ops_shape h
 obtain ⟨al, cl, rfl⟩ := hl.shape
 obtain ⟨as', cs, rfl⟩ := hs.shape
 have CF : Kp (∀ W, Below w.heap.size w W → Calls Tryz.prog 205 #[hdV op ty (.slice aa args.length ca')] W fun e w' => ∃ va', e = .returned (.agg #[.int .i64 op, .int .i64 ty, .int .i64 0, .int .i64 0, .int .i64 0, .int .i64 0, va', .slice none 0 0, .slice none 0 0]) ∧ Ops W.heap.size w' va' args ∧ Below W.heap.size W w') := ⟨fun W hB => hdFace op ty _ args W (h.keep hB) hn⟩
 have CL : Kp (∀ W, Below w.heap.size w W → Calls Tryz.prog 103 #[.slice al bl.length cl] W fun e w' => ∃ v', e = .returned v' ∧ Ints W.heap.size .i64 w' v' bl ∧ Below W.heap.size W w') := ⟨fun W hB => (cloneI _ bl W (hl.keep hB) hnl).mono (fun e w' ⟨v', e1, e2, e3⟩ => ⟨v', e1, OwnI.ints ⟨e2⟩ hnl, e3⟩)⟩
 have CWd : Kp (∀ W, Below w.heap.size w W → Calls Tryz.prog 154 #[.slice as' ws.length cs] W fun e w' => ∃ v', e = .returned v' ∧ Ints W.heap.size .u64 w' v' ws ∧ Below W.heap.size W w') := ⟨fun W hB => cloneW _ ws W (hs.keep hB) hns⟩
 obtain ⟨W0, hW⟩ : ∃ W0, W0 = w.alloc (Go.Obj.cells #[.int .i64 0, .int .i64 0, .int .i64 0, .int .i64 0, .int .i64 0, .int .i64 0, .slice none 0 0, .slice none 0 0, .slice none 0 0] 73) := ⟨_, rfl⟩
 have B0 : Below w.heap.size w W0 := by rw [hW]; exact bel_alloc _ _
 have hz0 : Kp (W0.heap.size = w.heap.size + 1) := ⟨by rw [hW]; simp⟩
 have r0 : W0.heap[w.heap.size]? = some (Go.Obj.cells #[.int .i64 0, .int .i64 0, .int .i64 0, .int .i64 0, .int .i64 0, .int .i64 0, .slice none 0 0, .slice none 0 0, .slice none 0 0] 73) := by rw [hW]; exact new_at w _
 replace hW := Kp.mk hW
 clear h hl hs
 go_enter Tryz.func141, Tryz.ntmps141
 go_upto_region 1 with fail
 rw [← hW.out]
 go_wp2_with fail
 refine (CF.out _ B0).mono ?_
 rintro e w1 ⟨va', rfl, hO, hb1⟩
 obtain ⟨av, cv, rfl⟩ := ops_shape hO
 go_upto_region 2 with fail
 obtain ⟨w2, hw2⟩ : ∃ w2, w2 = w1.alloc (Go.Obj.cells #[.int .i64 op, .int .i64 ty, .int .i64 0, .int .i64 0, .int .i64 0, .int .i64 0, .slice av args.length cv, .slice none 0 0, .slice none 0 0] 73) := ⟨_, rfl⟩
 have b2 : Below w1.heap.size w1 w2 := by rw [hw2]; exact bel_alloc _ _
 have i2 : w2.heap[w1.heap.size]? = some (Go.Obj.cells #[.int .i64 op, .int .i64 ty, .int .i64 0, .int .i64 0, .int .i64 0, .int .i64 0, .slice av args.length cv, .slice none 0 0, .slice none 0 0] 73) := by rw [hw2]; exact new_at w1 _
 rw [← hw2]
 replace hw2 := Kp.mk hw2
 have r2 := kept_at (kept_at r0 hb1) b2
 have l1 : w.heap.size < w1.heap.size := by have := hb1.size; have := hz0.out; omega
 have hB2 := bel_trans B0 (bel_trans hb1 b2)
 go_upto_region 20 with fail
 obtain ⟨w3, hw3⟩ : ∃ w3, w3 = w2.alloc (Go.Obj.cells #[.int .i64 op, .int .i64 ty, .slice aa args.length ca', .slice al bl.length cl, .slice as' ws.length cs] 189) := ⟨_, rfl⟩
 have b3 : Below w2.heap.size w2 w3 := by rw [hw3]; exact bel_alloc _ _
 have x3 : w3.heap[w2.heap.size]? = some (Go.Obj.cells #[.int .i64 op, .int .i64 ty, .slice aa args.length ca', .slice al bl.length cl, .slice as' ws.length cs] 189) := by rw [hw3]; exact new_at w2 _
 rw [← hw3]
 replace hw3 := Kp.mk hw3
 have i3 := kept_at i2 b3
 have r3 := kept_at r2 b3
 have hB3 := bel_trans hB2 b3
 have k3 : At w3 w2.heap.size 3 _ := cells_at x3 rfl
 go_wp2_with fail
 refine (CL.out _ hB3).mono ?_
 rintro e w4 ⟨vl', rfl, hL, hb4⟩
 obtain ⟨alv, clv, rfl⟩ := hL.shape
 have i4 := kept_at i3 hb4
 have r4 := kept_at r3 hb4
 have hB4 := bel_trans hB3 hb4
 have l4 : w1.heap.size < w3.heap.size := by have := b2.size; have := b3.size; have := hb4.size; have := (Array.getElem?_eq_some_iff.1 i3).1; omega
 have k7 : At w4 w1.heap.size 7 _ := cells_at i4 rfl
 have f7 := rw_cells i4 7
 have i5 := setI (ds := #[.int .i64 op, .int .i64 ty, .int .i64 0, .int .i64 0, .int .i64 0, .int .i64 0, .slice av args.length cv, .slice alv bl.length clv, .slice none 0 0]) i4 (i := 7) (.slice alv bl.length clv) rfl
 have r5 := setO (i := 7) r4 (.slice alv bl.length clv) (show w.heap.size ≠ w1.heap.size by omega)
 have hB5 := bel_set (b := w1.heap.size) (k := 7) hB4 (by omega) (.slice alv bl.length clv)
 have hO5 : Ops W0.heap.size (w4.setCell ⟨w1.heap.size, 7, none⟩ (.slice alv bl.length clv)) (.slice av args.length cv) args := hO.mono (Nat.le_refl _) (fun b o v _ q => set_other (at_keep (at_keep (at_keep q b2) b3) hb4) (.inl (by have l : b < w1.heap.size := Lib.lt_of_cell q; omega)))
 have hL5 : Ints W0.heap.size .i64 (w4.setCell ⟨w1.heap.size, 7, none⟩ (.slice alv bl.length clv)) (.slice alv bl.length clv) bl := hL.mono (by have := hb1.size; have := b2.size; have := b3.size; omega) (keeps_set l4)
 obtain ⟨w5, hw5⟩ : ∃ w5, w5 = w4.setCell ⟨w1.heap.size, 7, none⟩ (.slice alv bl.length clv) := ⟨_, rfl⟩
 have X5 : Kp (w5.heap[w2.heap.size]? = some (Go.Obj.cells #[.int .i64 op, .int .i64 ty, .slice aa args.length ca', .slice al bl.length cl, .slice as' ws.length cs] 189)) := ⟨by rw [hw5]; exact setO (kept_at x3 hb4) _ (by have := (Array.getElem?_eq_some_iff.1 i2).1; omega)⟩
 rw [← hw5] at i5 r5 hB5 hO5 hL5
 replace hO := Kp.mk hO
 replace hL := Kp.mk hL
 replace hw5 := Kp.mk hw5
 clear r0 i2 r2 x3 i3 r3 i4 r4
 clear k3
 go_upto_region 21 with fail
 rw [← hw5.out]
 clear k7 f7
 have k4 : At w5 w2.heap.size 4 _ := cells_at X5.out rfl
 go_wp2_with fail
 refine (CWd.out _ hB5).mono ?_
 rintro e w6 ⟨vs', rfl, hS, hb6⟩
 obtain ⟨asv, csv, rfl⟩ := hS.shape
 clear k4
 have i6 := kept_at i5 hb6
 have r6 := kept_at r5 hb6
 have hB6 := bel_trans hB5 hb6
 have l6 : w1.heap.size < w5.heap.size := (Array.getElem?_eq_some_iff.1 i5).1
 have k8 : At w6 w1.heap.size 8 _ := cells_at i6 rfl
 have f8 := rw_cells i6 8
 have i7 := setI (ds := #[.int .i64 op, .int .i64 ty, .int .i64 0, .int .i64 0, .int .i64 0, .int .i64 0, .slice av args.length cv, .slice alv bl.length clv, .slice asv ws.length csv]) i6 (i := 8) (.slice asv ws.length csv) rfl
 have r7 := setO (i := 8) r6 (.slice asv ws.length csv) (show w.heap.size ≠ w1.heap.size by omega)
 have hB7 := bel_set (b := w1.heap.size) (k := 8) hB6 (by omega) (.slice asv ws.length csv)
 have hO7 : Ops W0.heap.size (w6.setCell ⟨w1.heap.size, 8, none⟩ (.slice asv ws.length csv)) (.slice av args.length cv) args := hO.out.mono (Nat.le_refl _) (fun b o v _ q => set_other (at_keep (by rw [hw5.out]; exact set_other (at_keep (at_keep (at_keep q b2) b3) hb4) (.inl (by have l : b < w1.heap.size := Lib.lt_of_cell q; omega))) hb6) (.inl (by have l : b < w1.heap.size := Lib.lt_of_cell q; omega)))
 have hL7 : Ints W0.heap.size .i64 (w6.setCell ⟨w1.heap.size, 8, none⟩ (.slice asv ws.length csv)) (.slice alv bl.length clv) bl := hL.out.mono (by have := hb1.size; have := b2.size; have := b3.size; omega) (fun b o v lb q => set_other (at_keep (by rw [hw5.out]; exact set_other q (.inl (by omega))) hb6) (.inl (by omega)))
 have hS7 : Ints W0.heap.size .u64 (w6.setCell ⟨w1.heap.size, 8, none⟩ (.slice asv ws.length csv)) (.slice asv ws.length csv) ws := hS.mono (by have := hb1.size; omega) (keeps_set l6)
 obtain ⟨w7, hw7⟩ : ∃ w7, w7 = w6.setCell ⟨w1.heap.size, 8, none⟩ (.slice asv ws.length csv) := ⟨_, rfl⟩
 rw [← hw7] at i7 r7 hB7 hO7 hL7 hS7
 replace hw7 := Kp.mk hw7
 replace hS := Kp.mk hS
 clear i6 r6 i5 r5
 go_upto_region 22 with fail
 rw [← hw7.out]
 clear k8 f8
 have hN : Nine w w.heap.size w7 := ⟨rw_nine r7, hB7, Nat.le_refl _, rw_cells r7⟩
 obtain ⟨p0, p1, p2, p3, p4, p5, p6, p7, p8⟩ := putNine hN.r (.int .i64 op) (.int .i64 ty) (.int .i64 0) (.int .i64 0) (.int .i64 0) (.int .i64 0) (.slice av args.length cv) (.slice alv bl.length clv) (.slice asv ws.length csv)
 have hF := Kp.mk (belNine hN.b hN.l (.int .i64 op) (.int .i64 ty) (.int .i64 0) (.int .i64 0) (.int .i64 0) (.int .i64 0) (.slice av args.length cv) (.slice alv bl.length clv) (.slice asv ws.length csv))
 have hKN := keepsNine (lo := W0.heap.size) (C := w.heap.size) (W := w7) (by have := hz0.out; omega) (.int .i64 op) (.int .i64 ty) (.int .i64 0) (.int .i64 0) (.int .i64 0) (.int .i64 0) (.slice av args.length cv) (.slice alv bl.length clv) (.slice asv ws.length csv)
 have hO7F : Kp (Ops w.heap.size (set9 w7 w.heap.size (.int .i64 op) (.int .i64 ty) (.int .i64 0) (.int .i64 0) (.int .i64 0) (.int .i64 0) (.slice av args.length cv) (.slice alv bl.length clv) (.slice asv ws.length csv)) (.slice av args.length cv) args) := ⟨hO7.mono (by have := hz0.out; omega) hKN⟩
 have hL7F : Kp (Ints w.heap.size .i64 (set9 w7 w.heap.size (.int .i64 op) (.int .i64 ty) (.int .i64 0) (.int .i64 0) (.int .i64 0) (.int .i64 0) (.slice av args.length cv) (.slice alv bl.length clv) (.slice asv ws.length csv)) (.slice alv bl.length clv) bl) := ⟨hL7.mono (by have := hz0.out; omega) hKN⟩
 have hS7F : Kp (Ints w.heap.size .u64 (set9 w7 w.heap.size (.int .i64 op) (.int .i64 ty) (.int .i64 0) (.int .i64 0) (.int .i64 0) (.int .i64 0) (.slice av args.length cv) (.slice alv bl.length clv) (.slice asv ws.length csv)) (.slice asv ws.length csv) ws) := ⟨hS7.mono (by have := hz0.out; omega) hKN⟩
 have fz := hN.fz
 have u0 := fz 0
 have u1 := fz 1
 have u2 := fz 2
 have u3 := fz 3
 have u4 := fz 4
 have u5 := fz 5
 have u6 := fz 6
 have u7 := fz 7
 have u8 := fz 8
 have z0 : At w7 w.heap.size 0 _ := cells_at r7 rfl
 have z1 : At w7 w.heap.size 1 _ := cells_at r7 rfl
 have z2 : At w7 w.heap.size 2 _ := cells_at r7 rfl
 have z3 : At w7 w.heap.size 3 _ := cells_at r7 rfl
 have z4 : At w7 w.heap.size 4 _ := cells_at r7 rfl
 have z5 : At w7 w.heap.size 5 _ := cells_at r7 rfl
 have z6 : At w7 w.heap.size 6 _ := cells_at r7 rfl
 have z7 : At w7 w.heap.size 7 _ := cells_at r7 rfl
 have z8 : At w7 w.heap.size 8 _ := cells_at r7 rfl
 have y0 : At w7 w1.heap.size 0 _ := cells_at i7 rfl
 have y1 : At w7 w1.heap.size 1 _ := cells_at i7 rfl
 have y2 : At w7 w1.heap.size 2 _ := cells_at i7 rfl
 have y3 : At w7 w1.heap.size 3 _ := cells_at i7 rfl
 have y4 : At w7 w1.heap.size 4 _ := cells_at i7 rfl
 have y5 : At w7 w1.heap.size 5 _ := cells_at i7 rfl
 have y6 : At w7 w1.heap.size 6 _ := cells_at i7 rfl
 have y7 : At w7 w1.heap.size 7 _ := cells_at i7 rfl
 have y8 : At w7 w1.heap.size 8 _ := cells_at i7 rfl
 replace hN := Kp.mk hN
 replace hKN := Kp.mk hKN
 clear fz
 go_wp2_with fail
 refine bodyPost_ret (v := .agg #[.int .i64 op, .int .i64 ty, .int .i64 0, .int .i64 0, .int .i64 0, .int .i64 0, .slice av args.length cv, .slice alv bl.length clv, .slice asv ws.length csv]) ?_ rfl ⟨_, _, _, rfl, hO7F.out, hL7F.out, hS7F.out, hF.out⟩
 simp [results, Tryz.results141, go_sem, p0, p1, p2, p3, p4, p5, p6, p7, p8]
end Go.Proofs.YtgdcgjlmkmdklaaGreatDoor
