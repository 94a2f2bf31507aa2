/- Texts of one claim. -/
import Derived.Test.YtgdcgjlmkmdklaaGreatDoorPk0
import Derived.Test.YtgdcgjlmkmdklaaGreatDoorPk38
import Derived.Deep.RegionHeld3
namespace Go.Proofs.YtgdcgjlmkmdklaaGreatDoor
open Go.ChangeShapes Go.WideShapes Go.ChangeAt Go.RowKit
open Go.Lib
set_option linter.unusedVariables false
set_option linter.unusedSimpArgs false
theorem MoAt.shapes {lo : Nat} {w : World} {gs : List GlD} {fs : List FnD} {vg vf : Value} (h : MoAt lo w gs fs vg vf) : (∃ a c, vg = .slice a gs.length c) ∧ ∃ a c, vf = .slice a fs.length c := ⟨h.g.shape, h.f.shape⟩
theorem moN_small {gs : List GlD} {fs : List FnD} (h : 0 ≤ less 1048576 (moN gs fs)) : moN gs fs ≤ 1048576 := by
 unfold less at h
 split at h <;> omega
set_option maxRecDepth 100000 in
set_option maxHeartbeats 1000000 in
theorem eqFt (a b c d : Int) (w : World) :
  Calls Tryz.prog 10 #[.agg #[.int .i64 a, .int .i64 b, .int .i64 c, .int .i64 d], .agg #[.int .i64 a, .int .i64 b, .int .i64 c, .int .i64 d]] w fun e w' => e = .returned (.bool true) ∧ Below w.heap.size w w' := by
 go_enter Tryz.func10, Tryz.ntmps10
 go_wp2_with fail
 all_goals
  go_ret
  exact ⟨rfl, bel_trans (bel_alloc _ _) (bel_alloc _ _)⟩
set_option maxRecDepth 100000 in
set_option maxHeartbeats 8000000 in
theorem shape_law (gs : List GlD) (fs : List FnD) (vg vf : Value) (W : World) (hL : Wid W) (h : MoAt 0 W gs fs vg vf) (hB : MoB gs fs) :
  Calls Tryz.prog 3 #[moV vg vf] W fun e w' => e = .returned (.bool true) ∧ Below W.heap.size W w' := by
 have C1 : Kp (∀ w, MoAt 0 w gs fs vg vf → Calls Tryz.prog 6 _ w _) := ⟨fun w h => szMo gs fs vg vf 1048576 w h (by decide) (by decide)⟩
 have hnm := @moN_small gs fs
 have H := Kp.mk h
 have HL := Kp.mk hL
 by_cases hq : less 1048576 (moN gs fs) < 0
 ·obtain ⟨⟨a1, c1, rfl⟩, ⟨a2, c2, rfl⟩⟩ := h.shapes
  clear h hnm hL hB
  generalize less 1048576 (moN gs fs) = r at *
  go_enter Tryz.func3, Tryz.ntmps3
  go_wp2_with fail
  refine (C1.out _ (H.out.keep (bel_alloc _ _))).mono ?_
  exact tl47
 have hn := hnm (by omega)
 have C2 : Kp (∀ w, MoAt 0 w gs fs vg vf → Calls Tryz.prog 8 _ w _) := ⟨fun w h => toMo gs fs vg vf w h hn⟩
 have C3 : Kp (∀ w l p r, MoAt l w gs fs p r → Calls Tryz.prog 7 #[.agg #[p, r]] w fun e w' => e = .returned (ftV (shF gs fs)) ∧ Below w.heap.size w w') := ⟨fun w l p r h => shapeS gs fs p r w h hn hB⟩
 have C4 : Kp (∀ w l p r, MoAt l w gs fs p r → Wid w → Calls Tryz.prog 9 #[.agg #[p, r]] w fun e w' => e = .returned (ftV (shF gs fs)) ∧ Below w.heap.size w w') := ⟨fun w l p r h hL => shapeI gs fs p r w h hn hB hL⟩
 have C5 : Kp (∀ w l l2 p r p2 r2, MoAt l w gs fs p r → MoAt l2 w gs fs p2 r2 → Calls Tryz.prog 11 _ w _) := ⟨fun w l l2 p r p2 r2 h k => eqMo gs fs p r p2 r2 w h k hn⟩
 generalize shF gs fs = S at *
 obtain ⟨f1, f2, f3, f4⟩ := S
 obtain ⟨⟨a1, c1, rfl⟩, ⟨a2, c2, rfl⟩⟩ := h.shapes
 clear h hnm hn hL hB
 dsimp only [moV, ftV] at *
 generalize less 1048576 (moN gs fs) = r at *
 go_enter Tryz.func3, Tryz.ntmps3
 go_wp2_with fail
 have BA := bel_alloc W (Go.Obj.cells #[.slice a1 gs.length c1, .slice a2 fs.length c2] 25)
 refine (C1.out _ (H.out.keep BA)).mono ?_
 rintro e w1 ⟨rfl, hb1⟩
 have B1 := bel_trans BA hb1
 have H1 := H.out.keep B1
 have m1 := kept_at (new_at W (Go.Obj.cells #[.slice a1 gs.length c1, .slice a2 fs.length c2] 25)) hb1
 have M1 : Kp (∀ w', Below w1.heap.size w1 w' → MoAt 0 w' gs fs (.slice a1 gs.length c1) (.slice a2 fs.length c2)) := ⟨fun w' h => H1.keep h⟩
 have MC : Kp (∀ w', Below w1.heap.size w1 w' → MoC w' W.heap.size (.slice a1 gs.length c1) (.slice a2 fs.length c2)) := ⟨fun w' h => moC_of (kept_at m1 h)⟩
 obtain ⟨a0, a1'⟩ := MC.out w1 (Below.refl _ _)
 clear hb1 BA m1
 go_wp2_with fail
 refine (C2.out _ (M1.out _ (Below.refl _ _))).mono ?_
 rintro e w2 ⟨vg2, vf2, rfl, H2, hb2, -⟩
 obtain ⟨⟨e2, k2, rfl⟩, ⟨g2, j2, rfl⟩⟩ := H2.shapes
 replace H2 := Kp.mk H2
 go_wp2_with fail
 refine (C3.out _ _ _ _ H2.out).mono ?_
 rintro e w3 ⟨rfl, hb3⟩
 have b13 := bel_trans hb2 hb3
 clear a0 a1'
 go_upto_region 6 with fail
 obtain ⟨w4, hw4⟩ : ∃ w4, w4 = w3.alloc (Go.Obj.cells #[.int .i64 f1, .int .i64 f2, .int .i64 f3, .int .i64 f4] 28) := ⟨_, rfl⟩
 rw [← hw4]
 have b34 : Below w3.heap.size w3 w4 := by rw [hw4]; exact bel_alloc _ _
 have q4 : w4.heap[w3.heap.size]? = some (Go.Obj.cells #[.int .i64 f1, .int .i64 f2, .int .i64 f3, .int .i64 f4] 28) := by rw [hw4]; exact new_at w3 _
 replace hw4 := Kp.mk hw4
 have b14 := bel_trans b13 b34
 obtain ⟨a0, a1'⟩ := MC.out w4 b14
 go_wp2_with fail
 refine (C2.out _ (M1.out _ b14)).mono ?_
 rintro e w5 ⟨vg5, vf5, rfl, H5, hb5, -⟩
 obtain ⟨⟨e5, k5, rfl⟩, ⟨g5, j5, rfl⟩⟩ := H5.shapes
 clear a0 a1'
 go_upto_region 7 with fail
 obtain ⟨w6, hw6⟩ : ∃ w6, w6 = w5.alloc (Go.Obj.cells #[.slice e5 gs.length k5, .slice g5 fs.length j5] 33) := ⟨_, rfl⟩
 rw [← hw6]
 have b56 : Below w5.heap.size w5 w6 := by rw [hw6]; exact bel_alloc _ _
 have q6 : w6.heap[w5.heap.size]? = some (Go.Obj.cells #[.slice e5 gs.length k5, .slice g5 fs.length j5] 33) := by rw [hw6]; exact new_at w5 _
 replace hw6 := Kp.mk hw6
 have b46 := bel_trans hb5 b56
 have b16 := bel_trans b14 b46
 have H6 := H5.keep b56
 have H6K : Kp (∀ w', Below w6.heap.size w6 w' → MoAt _ w' gs fs (.slice e5 gs.length k5) (.slice g5 fs.length j5)) := ⟨fun w' h => H6.keep h⟩
 have x0 : At w6 w5.heap.size 0 _ := cells_at q6 rfl
 have x1 : At w6 w5.heap.size 1 _ := cells_at q6 rfl
 clear H5 H6 H2
 go_wp2_with fail
 refine (C4.out _ _ _ _ (H6K.out _ (Below.refl _ _)) (HL.out.below (bel_trans B1 b16))).mono ?_
 rintro e w7 ⟨rfl, hb7⟩
 clear x0 x1
 go_upto_region 8 with fail
 obtain ⟨w8, hw8⟩ : ∃ w8, w8 = w7.alloc (Go.Obj.cells #[.int .i64 f1, .int .i64 f2, .int .i64 f3, .int .i64 f4] 28) := ⟨_, rfl⟩
 rw [← hw8]
 have b78 : Below w7.heap.size w7 w8 := by rw [hw8]; exact bel_alloc _ _
 have q8 : w8.heap[w7.heap.size]? = some (Go.Obj.cells #[.int .i64 f1, .int .i64 f2, .int .i64 f3, .int .i64 f4] 28) := by rw [hw8]; exact new_at w7 _
 replace hw8 := Kp.mk hw8
 have b68 := bel_trans hb7 b78
 have q48 := kept_at (kept_at q4 b46) b68
 have g0 : At w8 w7.heap.size 0 _ := cells_at q8 rfl
 have g1 : At w8 w7.heap.size 1 _ := cells_at q8 rfl
 have g2' : At w8 w7.heap.size 2 _ := cells_at q8 rfl
 have g3 : At w8 w7.heap.size 3 _ := cells_at q8 rfl
 have s0 : At w8 w3.heap.size 0 _ := cells_at q48 rfl
 have s1 : At w8 w3.heap.size 1 _ := cells_at q48 rfl
 have s2 : At w8 w3.heap.size 2 _ := cells_at q48 rfl
 have s3 : At w8 w3.heap.size 3 _ := cells_at q48 rfl
 have EF := Kp.mk (fun w => eqFt f1 f2 f3 f4 w)
 go_wp2_with fail
 refine (EF.out _).mono ?_
 rintro e w9 ⟨rfl, hb9⟩
 clear g0 g1 g2' g3 s0 s1 s2 s3 q48 q8 q4
 have b69 := bel_trans b68 hb9
 have b19 := bel_trans b16 b69
 have B9 := bel_trans B1 b19
 have q69 := kept_at q6 b69
 have H9 : Kp (∀ w', Below w9.heap.size w9 w' → MoAt _ w' gs fs (.slice e5 gs.length k5) (.slice g5 fs.length j5)) := ⟨fun w' h => H6K.out _ (bel_trans b69 h)⟩
 have M9 : Kp (∀ w', Below w9.heap.size w9 w' → MoAt 0 w' gs fs (.slice a1 gs.length c1) (.slice a2 fs.length c2)) := ⟨fun w' h => M1.out _ (bel_trans b19 h)⟩
 have ZK : Kp (∀ w', Below w9.heap.size w9 w' → w'.heap[w5.heap.size]? = _) := ⟨fun w' h => kept_at q69 h⟩
 obtain ⟨a0, a1'⟩ := MC.out w9 b19
 have x0 : At w9 w5.heap.size 0 _ := cells_at q69 rfl
 have x1 : At w9 w5.heap.size 1 _ := cells_at q69 rfl
 clear q69 q6
 go_wp2_with fail
 exact tl52
end Go.Proofs.YtgdcgjlmkmdklaaGreatDoor
