/- Texts of one claim. -/
import Derived.Test.YtgdcgjlmkmdklaaGreatDoorPk25
import Derived.Laws.Tables
namespace Go.Proofs.YtgdcgjlmkmdklaaGreatDoor
open Go.ChangeShapes Go.WideShapes Go.ChangeAt Go.RowKit
set_option linter.unusedVariables false
set_option linter.unusedSimpArgs false
abbrev set9 (W : World) (C : Nat) (a0 a1 a2 a3 a4 a5 a6 a7 a8 : Value) : World := (((((((((W.setCell ⟨C, 0, none⟩ a0).setCell ⟨C, 1, none⟩ a1).setCell ⟨C, 2, none⟩ a2).setCell ⟨C, 3, none⟩ a3).setCell ⟨C, 4, none⟩ a4).setCell ⟨C, 5, none⟩ a5).setCell ⟨C, 6, none⟩ a6).setCell ⟨C, 7, none⟩ a7).setCell ⟨C, 8, none⟩ a8)
theorem putNine {W : World} {C : Nat} (r : Rw W C 9) (a0 a1 a2 a3 a4 a5 a6 a7 a8 : Value) :
  At (set9 W C a0 a1 a2 a3 a4 a5 a6 a7 a8) C 0 a0 ∧ At (set9 W C a0 a1 a2 a3 a4 a5 a6 a7 a8) C 1 a1 ∧ At (set9 W C a0 a1 a2 a3 a4 a5 a6 a7 a8) C 2 a2 ∧ At (set9 W C a0 a1 a2 a3 a4 a5 a6 a7 a8) C 3 a3 ∧ At (set9 W C a0 a1 a2 a3 a4 a5 a6 a7 a8) C 4 a4 ∧ At (set9 W C a0 a1 a2 a3 a4 a5 a6 a7 a8) C 5 a5 ∧ At (set9 W C a0 a1 a2 a3 a4 a5 a6 a7 a8) C 6 a6 ∧ At (set9 W C a0 a1 a2 a3 a4 a5 a6 a7 a8) C 7 a7 ∧ At (set9 W C a0 a1 a2 a3 a4 a5 a6 a7 a8) C 8 a8 :=
 ⟨set_other (set_other (set_other (set_other (set_other (set_other (set_other (set_other (set_same r (by omega) a0) (.inr (by omega))) (.inr (by omega))) (.inr (by omega))) (.inr (by omega))) (.inr (by omega))) (.inr (by omega))) (.inr (by omega))) (.inr (by omega)),
  set_other (set_other (set_other (set_other (set_other (set_other (set_other (set_same (r.set _ _) (by omega) a1) (.inr (by omega))) (.inr (by omega))) (.inr (by omega))) (.inr (by omega))) (.inr (by omega))) (.inr (by omega))) (.inr (by omega)),
  set_other (set_other (set_other (set_other (set_other (set_other (set_same ((r.set _ _).set _ _) (by omega) a2) (.inr (by omega))) (.inr (by omega))) (.inr (by omega))) (.inr (by omega))) (.inr (by omega))) (.inr (by omega)),
  set_other (set_other (set_other (set_other (set_other (set_same (((r.set _ _).set _ _).set _ _) (by omega) a3) (.inr (by omega))) (.inr (by omega))) (.inr (by omega))) (.inr (by omega))) (.inr (by omega)),
  set_other (set_other (set_other (set_other (set_same ((((r.set _ _).set _ _).set _ _).set _ _) (by omega) a4) (.inr (by omega))) (.inr (by omega))) (.inr (by omega))) (.inr (by omega)),
  set_other (set_other (set_other (set_same (((((r.set _ _).set _ _).set _ _).set _ _).set _ _) (by omega) a5) (.inr (by omega))) (.inr (by omega))) (.inr (by omega)),
  set_other (set_other (set_same ((((((r.set _ _).set _ _).set _ _).set _ _).set _ _).set _ _) (by omega) a6) (.inr (by omega))) (.inr (by omega)),
  set_other (set_same (((((((r.set _ _).set _ _).set _ _).set _ _).set _ _).set _ _).set _ _) (by omega) a7) (.inr (by omega)),
  set_same ((((((((r.set _ _).set _ _).set _ _).set _ _).set _ _).set _ _).set _ _).set _ _) (by omega) a8⟩
theorem belNine {H C : Nat} {w W : World} (h : Below H w W) (l : H ≤ C) (a0 a1 a2 a3 a4 a5 a6 a7 a8 : Value) : Below H w (set9 W C a0 a1 a2 a3 a4 a5 a6 a7 a8) :=
 bel_set (bel_set (bel_set (bel_set (bel_set (bel_set (bel_set (bel_set (bel_set h l _) l _) l _) l _) l _) l _) l _) l _) l _
theorem keepsNine {lo C : Nat} {W : World} (h : C < lo) (a0 a1 a2 a3 a4 a5 a6 a7 a8 : Value) : Keeps lo W (set9 W C a0 a1 a2 a3 a4 a5 a6 a7 a8) :=
 (((((((((keeps_set h).trans (keeps_set h)).trans (keeps_set h)).trans (keeps_set h)).trans (keeps_set h)).trans (keeps_set h)).trans (keeps_set h)).trans (keeps_set h)).trans (keeps_set h))
structure Nine (w : World) (C : Nat) (W : World) : Prop where
 r : Rw W C 9
 b : Below w.heap.size w W
 l : w.heap.size ≤ C
 fz : ∀ j, W.frozen? ⟨C, j, none⟩ = false
theorem rw_nine {W : World} {C : Nat} {x0 x1 x2 x3 x4 x5 x6 x7 x8 : Value} {T : TypeId} (h : W.heap[C]? = some (Go.Obj.cells #[x0, x1, x2, x3, x4, x5, x6, x7, x8] T (0, 0))) : Rw W C 9 :=
 ⟨T, fun j => (#[x0, x1, x2, x3, x4, x5, x6, x7, x8] : Array Value).getD j undef, #[x0, x1, x2, x3, x4, x5, x6, x7, x8], h, rfl, fun i hi => by
  rcases (show i = 0 ∨ i = 1 ∨ i = 2 ∨ i = 3 ∨ i = 4 ∨ i = 5 ∨ i = 6 ∨ i = 7 ∨ i = 8 by omega) with rfl | rfl | rfl | rfl | rfl | rfl | rfl | rfl | rfl <;> rfl⟩
theorem ops_shape {lo : Nat} {w : World} {v : Value} {xs : List OpD} (h : Ops lo w v xs) : ∃ a c, v = .slice a xs.length c := by
 obtain ⟨_, _, ⟨⟨a, c, e, _⟩, _⟩, _⟩ := h.ex
 exact ⟨a, c, e⟩
@[local go_sem] theorem bldI (op ty : Int) (a : Option Addr) (n c : Nat) (w : World) : (Instr.build 73 #[(0, .int .i64 op), (1, .int .i64 ty), (6, .slice a n c)]).run Tryz.prog w = .ok (.agg #[.int .i64 op, .int .i64 ty, .int .i64 0, .int .i64 0, .int .i64 0, .int .i64 0, .slice a n c, .slice none 0 0, .slice none 0 0]) w := run_build w 73 _ _ (by kernel_rfl)
set_option maxRecDepth 100000 in
set_option maxHeartbeats 4000000 in
theorem hdFace (op ty : Int) (va : Value) (args : List OpD) (w : World) {lo : Nat} (h : Ops lo w va args) (hn : args.length ≤ 1048576) :
  Calls Tryz.prog 205 #[hdV op ty va] w fun e w' => ∃ va', e = .returned (.agg #[.int .i64 op, .int .i64 ty, .int .i64 0, .int .i64 0, .int .i64 0, .int .i64 0, va', .slice none 0 0, .slice none 0 0]) ∧ Ops w.heap.size w' va' args ∧ Below w.heap.size w w' := by
 obtain ⟨aa, ca, rfl⟩ : ∃ a c, va = .slice a args.length c := by
  obtain ⟨_, _, ⟨⟨a, c, e, _⟩, _⟩, _⟩ := h.ex
  exact ⟨a, c, e⟩
 obtain ⟨W0, hW⟩ : ∃ W0, W0 = (w.alloc (Go.Obj.cells #[.int .i64 op, .int .i64 ty, .slice aa args.length ca] 179)).alloc (Go.Obj.cells #[.int .i64 0, .int .i64 0, .int .i64 0, .int .i64 0, .int .i64 0, .int .i64 0, .slice none 0 0, .slice none 0 0, .slice none 0 0] 73) := ⟨_, rfl⟩
 have B0 : Below w.heap.size w W0 := by rw [hW]; exact bel_trans (bel_alloc _ _) (bel_alloc _ _)
 have hz0 : W0.heap.size = w.heap.size + 1 + 1 := by rw [hW]; simp
 have hC0 : W0.heap[w.heap.size]? = some (Go.Obj.cells #[.int .i64 op, .int .i64 ty, .slice aa args.length ca] 179) := by rw [hW]; exact kept_at (new_at w _) (bel_alloc _ _)
 have rC0 : W0.heap[w.heap.size + 1]? = some (Go.Obj.cells #[.int .i64 0, .int .i64 0, .int .i64 0, .int .i64 0, .int .i64 0, .int .i64 0, .slice none 0 0, .slice none 0 0, .slice none 0 0] 73) := by
  rw [hW]
  have := new_at (w.alloc (Go.Obj.cells #[.int .i64 op, .int .i64 ty, .slice aa args.length ca] 179)) (Go.Obj.cells #[.int .i64 0, .int .i64 0, .int .i64 0, .int .i64 0, .int .i64 0, .int .i64 0, .slice none 0 0, .slice none 0 0, .slice none 0 0] 73)
  rwa [World.size_alloc] at this
 have CO : Kp (∀ (W : World) (hB : Below W0.heap.size W0 W), Calls Tryz.prog 210 #[.slice aa args.length ca] W fun e w' => ∃ v', e = .returned v' ∧ Ops W.heap.size w' v' args ∧ Below W.heap.size W w') := ⟨fun W hB => cloneO (.slice aa args.length ca) args W (h.keep (bel_trans B0 hB)) hn⟩
 have HC : Kp (∀ W, Below W0.heap.size W0 W → At W w.heap.size 0 (.int .i64 op) ∧ At W w.heap.size 1 (.int .i64 ty) ∧ At W w.heap.size 2 (.slice aa args.length ca)) := ⟨fun W hB => ⟨cells_at (kept_at hC0 hB) rfl, cells_at (kept_at hC0 hB) rfl, cells_at (kept_at hC0 hB) rfl⟩⟩
 have NI : Kp (∀ W, Below W0.heap.size W0 W → Nine w (w.heap.size + 1) W) := ⟨fun W hB => ⟨rw_nine (kept_at rC0 hB), bel_trans B0 hB, by omega, rw_cells (kept_at rC0 hB)⟩⟩
 have RC : Kp (∀ W, Below W0.heap.size W0 W → W.heap[w.heap.size + 1]? = some (Go.Obj.cells #[.int .i64 0, .int .i64 0, .int .i64 0, .int .i64 0, .int .i64 0, .int .i64 0, .slice none 0 0, .slice none 0 0, .slice none 0 0] 73)) := ⟨fun W hB => kept_at rC0 hB⟩
 obtain ⟨j0, j1, j2⟩ := HC.out W0 (Below.refl _ _)
 have hlt : Kp (w.heap.size + 1 < W0.heap.size) := ⟨by omega⟩
 replace hW := Kp.mk hW
 clear hC0 rC0 h B0 hz0
 go_enter Tryz.func205, Tryz.ntmps205
 go_upto_region 1 with fail
 rw [← hW.out]
 have hBD := (Below.refl W0.heap.size W0).drew
 go_region_with (go_at_call 210; refine (CO.out _ hBD).mono ?_; rintro e w1 ⟨v', rfl, hO, hb0⟩; have hb1 := hBD.trans hb0; obtain ⟨av, cv, rfl⟩ := ops_shape hO; obtain ⟨i0, i1, i2⟩ := HC.out w1 hb1; have hx := RC.out w1 hb1; have fz := rw_cells hx; have q0 := fz 0; have q1 := fz 1; have q2 := fz 2; have q3 := fz 3; have q4 := fz 4; have q5 := fz 5; have q6 := fz 6; have q7 := fz 7; have q8 := fz 8; clear fz; have z0 : At w1 (w.heap.size + 1) 0 _ := cells_at hx rfl; have z1 : At w1 (w.heap.size + 1) 1 _ := cells_at hx rfl; have z2 : At w1 (w.heap.size + 1) 2 _ := cells_at hx rfl; have z3 : At w1 (w.heap.size + 1) 3 _ := cells_at hx rfl; have z4 : At w1 (w.heap.size + 1) 4 _ := cells_at hx rfl; have z5 : At w1 (w.heap.size + 1) 5 _ := cells_at hx rfl; have z6 : At w1 (w.heap.size + 1) 6 _ := cells_at hx rfl; have z7 : At w1 (w.heap.size + 1) 7 _ := cells_at hx rfl; have z8 : At w1 (w.heap.size + 1) 8 _ := cells_at hx rfl; clear hx)
 all_goals
  have hN := NI.out w1 hb1
  obtain ⟨p0, p1, p2, p3, p4, p5, p6, p7, p8⟩ := putNine hN.r (.int .i64 op) (.int .i64 ty) (.int .i64 0) (.int .i64 0) (.int .i64 0) (.int .i64 0) (.slice av args.length cv) (.slice none 0 0) (.slice none 0 0)
  have hF := belNine hN.b hN.l (.int .i64 op) (.int .i64 ty) (.int .i64 0) (.int .i64 0) (.int .i64 0) (.int .i64 0) (.slice av args.length cv) (.slice none 0 0) (.slice none 0 0)
  have hO2 : Ops w.heap.size (set9 w1 (w.heap.size + 1) (.int .i64 op) (.int .i64 ty) (.int .i64 0) (.int .i64 0) (.int .i64 0) (.int .i64 0) (.slice av args.length cv) (.slice none 0 0) (.slice none 0 0)) (.slice av args.length cv) args := hO.mono (by have := hlt.out; show _ ≤ W0.heap.size; omega) (keepsNine (by have := hlt.out; show _ < W0.heap.size; omega) _ _ _ _ _ _ _ _ _)
  replace hF := Kp.mk hF
  replace hO2 := Kp.mk hO2
  replace hO := Kp.mk hO
  replace hN := Kp.mk hN
  go_wp2_with fail
  refine bodyPost_ret (v := .agg #[.int .i64 op, .int .i64 ty, .int .i64 0, .int .i64 0, .int .i64 0, .int .i64 0, .slice av args.length cv, .slice none 0 0, .slice none 0 0]) ?_ rfl ⟨_, rfl, hO2.out, hF.out⟩
  simp [results, Tryz.results205, go_sem, p0, p1, p2, p3, p4, p5, p6, p7, p8]
end Go.Proofs.YtgdcgjlmkmdklaaGreatDoor
