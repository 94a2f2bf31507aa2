/- Texts of one claim. -/
import Derived.Test.YtgdcgjlmkmdklaaGreatDoorPk0
import Derived.Test.YtgdcgjlmkmdklaaGreatDoorPk1
import Derived.Deep.DeepCutAuto
namespace Go.Proofs.YtgdcgjlmkmdklaaGreatDoor
open Go.ChangeShapes Go.WideShapes Go.ChangeAt Go.RowKit
set_option linter.unusedVariables false
set_option linter.unusedSimpArgs false
theorem al_at (w : World) (arr : Array Value) (t : TypeId) {j : Nat} {v : Value} (h : arr[j]? = some v) : At (w.alloc (.cells arr t)) w.heap.size j v := by
 obtain ⟨hj, e⟩ := Array.getElem?_eq_some_iff.1 h
 have r := World.rowIs_alloc w arr t (fun j => arr.getD j undef) (fun j hj => by simp [Array.getD, hj])
 have c := r.cell hj
 simp only [Array.getD, hj, dif_pos] at c
 rw [← e]
 exact c
theorem bel_set {H b k : Nat} {w W : World} (h : Below H w W) (l : H ≤ b) (x : Value) : Below H w (W.setCell ⟨b, k, none⟩ x) := h.setCell l x
abbrev W9 (w : World) (B i : Nat) (x0 x1 x2 x3 x4 x5 x6 x7 x8 : Value) : World := (((((((((w.setCell ⟨B, i, none⟩ x0).setCell ⟨B, i + 1, none⟩ x1).setCell ⟨B, i + 2, none⟩ x2).setCell ⟨B, i + 3, none⟩ x3).setCell ⟨B, i + 4, none⟩ x4).setCell ⟨B, i + 5, none⟩ x5).setCell ⟨B, i + 6, none⟩ x6).setCell ⟨B, i + 7, none⟩ x7).setCell ⟨B, i + 8, none⟩ x8)
theorem put9 {w : World} {B n i : Nat} (h : Rw w B n) (hi : i + 8 < n) (x0 x1 x2 x3 x4 x5 x6 x7 x8 : Value) :
  (At (W9 w B i x0 x1 x2 x3 x4 x5 x6 x7 x8) B i x0 ∧ At (W9 w B i x0 x1 x2 x3 x4 x5 x6 x7 x8) B (i + 1) x1 ∧ At (W9 w B i x0 x1 x2 x3 x4 x5 x6 x7 x8) B (i + 2) x2 ∧ At (W9 w B i x0 x1 x2 x3 x4 x5 x6 x7 x8) B (i + 3) x3 ∧ At (W9 w B i x0 x1 x2 x3 x4 x5 x6 x7 x8) B (i + 4) x4 ∧ At (W9 w B i x0 x1 x2 x3 x4 x5 x6 x7 x8) B (i + 5) x5 ∧ At (W9 w B i x0 x1 x2 x3 x4 x5 x6 x7 x8) B (i + 6) x6 ∧ At (W9 w B i x0 x1 x2 x3 x4 x5 x6 x7 x8) B (i + 7) x7 ∧ At (W9 w B i x0 x1 x2 x3 x4 x5 x6 x7 x8) B (i + 8) x8) ∧ Rw (W9 w B i x0 x1 x2 x3 x4 x5 x6 x7 x8) B n ∧ ∀ b o v, At w b o v → (b ≠ B ∨ o < i ∨ i + 8 < o) → At (W9 w B i x0 x1 x2 x3 x4 x5 x6 x7 x8) b o v := by
 have h0 := h.set i x0
 have h1 := h0.set (i + 1) x1
 have h2 := h1.set (i + 2) x2
 have h3 := h2.set (i + 3) x3
 have h4 := h3.set (i + 4) x4
 have h5 := h4.set (i + 5) x5
 have h6 := h5.set (i + 6) x6
 have h7 := h6.set (i + 7) x7
 refine ⟨⟨?_, ?_, ?_, ?_, ?_, ?_, ?_, ?_, ?_⟩, h7.set _ _, fun b o v q hn => ?_⟩
 ·exact set_other (set_other (set_other (set_other (set_other (set_other (set_other (set_other (set_same h (by omega) _) (by omega)) (by omega)) (by omega)) (by omega)) (by omega)) (by omega)) (by omega)) (by omega)
 ·exact set_other (set_other (set_other (set_other (set_other (set_other (set_other (set_same h0 (by omega) _) (by omega)) (by omega)) (by omega)) (by omega)) (by omega)) (by omega)) (by omega)
 ·exact set_other (set_other (set_other (set_other (set_other (set_other (set_same h1 (by omega) _) (by omega)) (by omega)) (by omega)) (by omega)) (by omega)) (by omega)
 ·exact set_other (set_other (set_other (set_other (set_other (set_same h2 (by omega) _) (by omega)) (by omega)) (by omega)) (by omega)) (by omega)
 ·exact set_other (set_other (set_other (set_other (set_same h3 (by omega) _) (by omega)) (by omega)) (by omega)) (by omega)
 ·exact set_other (set_other (set_other (set_same h4 (by omega) _) (by omega)) (by omega)) (by omega)
 ·exact set_other (set_other (set_same h5 (by omega) _) (by omega)) (by omega)
 ·exact set_other (set_same h6 (by omega) _) (by omega)
 ·exact set_same h7 (by omega) _
 ·exact set_other (set_other (set_other (set_other (set_other (set_other (set_other (set_other (set_other (q) (by omega)) (by omega)) (by omega)) (by omega)) (by omega)) (by omega)) (by omega)) (by omega)) (by omega)
structure St (H : Nat) (W : World) (op ty fl pr ca sz : Int) (vb vw x6 x7 x8 : Value) : Prop where
 b7 : At W H 7 vb
 b8 : At W H 8 vw
 r1 : Rw W (H + 1) 9
 r2 : Rw W (H + 1 + 1) 9
 o0 : At W (H + 1 + 1) 0 (.int .i64 op)
 o1 : At W (H + 1 + 1) 1 (.int .i64 ty)
 o2 : At W (H + 1 + 1) 2 (.int .i64 fl)
 o3 : At W (H + 1 + 1) 3 (.int .i64 pr)
 o4 : At W (H + 1 + 1) 4 (.int .i64 ca)
 o5 : At W (H + 1 + 1) 5 (.int .i64 sz)
 o6 : At W (H + 1 + 1) 6 x6
 o7 : At W (H + 1 + 1) 7 x7
 o8 : At W (H + 1 + 1) 8 x8
theorem St.keep {H : Nat} {W W' : World} {op ty fl pr ca sz : Int} {vb vw x6 x7 x8 : Value} (h : St H W op ty fl pr ca sz vb vw x6 x7 x8) (hb : Below W.heap.size W W') : St H W' op ty fl pr ca sz vb vw x6 x7 x8 :=
 ⟨at_keep h.b7 hb, at_keep h.b8 hb, h.r1.keep hb, h.r2.keep hb, at_keep h.o0 hb, at_keep h.o1 hb, at_keep h.o2 hb, at_keep h.o3 hb, at_keep h.o4 hb, at_keep h.o5 hb, at_keep h.o6 hb, at_keep h.o7 hb, at_keep h.o8 hb⟩
theorem Rw.sets {w : World} {B n : Nat} (h : Rw w B n) (b k : Nat) (x : Value) : Rw (w.setCell ⟨b, k, none⟩ x) B n := by
 by_cases e : b = B
 ·subst e; exact h.set k x
 ·obtain ⟨t, f, r⟩ := h.ex
  exact ⟨t, f, r.setOther (a := ⟨b, k, none⟩) (fun q => e q.symm) x⟩
theorem St.set6 {H : Nat} {W : World} {op ty fl pr ca sz : Int} {vb vw x6 x7 x8 : Value} (h : St H W op ty fl pr ca sz vb vw x6 x7 x8) (y : Value) : St H (W.setCell ⟨H + 1 + 1, 6, none⟩ y) op ty fl pr ca sz vb vw y x7 x8 :=
 ⟨set_other h.b7 (by omega), set_other h.b8 (by omega), h.r1.sets _ _ _, h.r2.sets _ _ _, set_other h.o0 (by omega), set_other h.o1 (by omega), set_other h.o2 (by omega), set_other h.o3 (by omega), set_other h.o4 (by omega), set_other h.o5 (by omega), set_same h.r2 (by omega) _, set_other h.o7 (by omega), set_other h.o8 (by omega)⟩
theorem St.set7 {H : Nat} {W : World} {op ty fl pr ca sz : Int} {vb vw x6 x7 x8 : Value} (h : St H W op ty fl pr ca sz vb vw x6 x7 x8) (y : Value) : St H (W.setCell ⟨H + 1 + 1, 7, none⟩ y) op ty fl pr ca sz vb vw x6 y x8 :=
 ⟨set_other h.b7 (by omega), set_other h.b8 (by omega), h.r1.sets _ _ _, h.r2.sets _ _ _, set_other h.o0 (by omega), set_other h.o1 (by omega), set_other h.o2 (by omega), set_other h.o3 (by omega), set_other h.o4 (by omega), set_other h.o5 (by omega), set_other h.o6 (by omega), set_same h.r2 (by omega) _, set_other h.o8 (by omega)⟩
set_option maxRecDepth 100000 in
set_option maxHeartbeats 2000000 in
theorem toIn (d : InD) (va vb vw : Value) (w : World) {lo : Nat} (h : InV lo w va vb vw d) (hn : inN d ≤ 1048576) :
  Calls Tryz.prog 166 #[inV d va vb vw] w fun e w' => ∃ va' vb' vw', e = .returned (inV d va' vb' vw') ∧ InV w.heap.size w' va' vb' vw' d ∧ Below w.heap.size w w' ∧ Unf w.heap.size w' := by
 unfold inN at hn
 obtain ⟨op, ty, fl, pr, ca, sz, args, bl, ws⟩ := d
 obtain ⟨ha, hb, hw⟩ := h
 dsimp only [inV] at *
 have HA : Kp (∀ W, Below w.heap.size w W → Ops lo W va args) := ⟨fun W q => ha.keep q⟩
 have HB : Kp (∀ W, Below w.heap.size w W → Ints lo .i64 W vb bl) := ⟨fun W q => hb.keep q⟩
 have HW : Kp (∀ W, Below w.heap.size w W → Ints lo .u64 W vw ws) := ⟨fun W q => hw.keep q⟩
 have n1 : args.length ≤ 1048576 := by omega
 have n2 : bl.length ≤ 1048576 := by omega
 have n3 : ws.length ≤ 1048576 := by omega
 clear ha hb hw hn
 go_enter Tryz.func166, Tryz.ntmps166
 go_wp2_with fail
 obtain ⟨W0, hW⟩ : ∃ W0 : World, W0 = (((w.alloc (Obj.cells #[.int .i64 op, .int .i64 ty, .int .i64 fl, .int .i64 pr, .int .i64 ca, .int .i64 sz, va, vb, vw] 222)).alloc (Obj.cells #[.int .i64 0, .int .i64 0, .int .i64 0, .int .i64 0, .int .i64 0, .int .i64 0, .slice none 0 0, .slice none 0 0, .slice none 0 0] 73)).alloc (Obj.cells #[.int .i64 op, .int .i64 ty, .int .i64 fl, .int .i64 pr, .int .i64 ca, .int .i64 sz, .slice none 0 0, .slice none 0 0, .slice none 0 0] 73)) := ⟨_, rfl⟩
 rw [← hW]
 have S0 : St w.heap.size W0 op ty fl pr ca sz vb vw (.slice none 0 0) (.slice none 0 0) (.slice none 0 0) := by
  subst hW
  refine ⟨?_, ?_, ?_, ?_, ?_, ?_, ?_, ?_, ?_, ?_, ?_, ?_, ?_⟩
  ·exact at_keep (at_keep (al_at _ _ _ rfl) (bel_alloc _ _)) (bel_alloc _ _)
  ·exact at_keep (at_keep (al_at _ _ _ rfl) (bel_alloc _ _)) (bel_alloc _ _)
  ·have q := (al_rw (w.alloc (Obj.cells #[.int .i64 op, .int .i64 ty, .int .i64 fl, .int .i64 pr, .int .i64 ca, .int .i64 sz, va, vb, vw] 222)) #[.int .i64 0, .int .i64 0, .int .i64 0, .int .i64 0, .int .i64 0, .int .i64 0, .slice none 0 0, .slice none 0 0, .slice none 0 0] 73)
   rw [World.size_alloc] at q
   exact q.keep (bel_alloc _ _)
  ·have q := (al_rw ((w.alloc (Obj.cells #[.int .i64 op, .int .i64 ty, .int .i64 fl, .int .i64 pr, .int .i64 ca, .int .i64 sz, va, vb, vw] 222)).alloc (Obj.cells #[.int .i64 0, .int .i64 0, .int .i64 0, .int .i64 0, .int .i64 0, .int .i64 0, .slice none 0 0, .slice none 0 0, .slice none 0 0] 73)) #[.int .i64 op, .int .i64 ty, .int .i64 fl, .int .i64 pr, .int .i64 ca, .int .i64 sz, .slice none 0 0, .slice none 0 0, .slice none 0 0] 73)
   rw [World.size_alloc, World.size_alloc] at q
   exact q
  all_goals
   rw [show w.heap.size + 1 + 1 = ((w.alloc (Obj.cells #[.int .i64 op, .int .i64 ty, .int .i64 fl, .int .i64 pr, .int .i64 ca, .int .i64 sz, va, vb, vw] 222)).alloc (Obj.cells #[.int .i64 0, .int .i64 0, .int .i64 0, .int .i64 0, .int .i64 0, .int .i64 0, .slice none 0 0, .slice none 0 0, .slice none 0 0] 73)).heap.size by rw [World.size_alloc, World.size_alloc]]
   exact al_at _ _ _ rfl
 have B0 : Below w.heap.size w W0 := by
  rw [hW]
  exact bel_trans (bel_trans (bel_alloc _ _) (bel_alloc _ _)) (bel_alloc _ _)
 have U0 : Kp (Unf w.heap.size W0) := ⟨by rw [hW]; exact (((Unf.top w).cells _ _).cells _ _).cells _ _⟩
 have z0 : W0.heap.size = w.heap.size + 1 + 1 + 1 := by
  rw [hW, World.size_alloc, World.size_alloc, World.size_alloc]
 clear hW
 refine (toOps va args W0 (HA.out _ B0) n1).mono ?_
 rintro e w1 ⟨va', rfl, hA, hb1, hu1⟩
 have U1 : Kp (Unf w.heap.size (w1.setCell ⟨w.heap.size + 1 + 1, 6, none⟩ va')) := ⟨(U0.out.call hb1 hu1).set _ _ _⟩
 clear hu1 U0
 have S1k := Kp.mk (S0.keep hb1)
 have B1 := bel_trans B0 hb1
 rw [z0] at hA
 clear S0 hb1
 have HA1 := Kp.mk hA
 obtain ⟨a1, k1, rfl⟩ : ∃ a k, va' = .slice a args.length k := by
  obtain ⟨_, _, s, -, -⟩ := hA.ex
  obtain ⟨a, k, e, -, -⟩ := s.ex
  exact ⟨a, k, e⟩
 clear hA z0
 obtain ⟨b7, b8, r1, r2, o0, o1, o2, o3, o4, o5, o6, o7, o8⟩ := S1k.out
 obtain ⟨_, _, f6⟩ := r2.at (j := 6) (by omega)
 go_wp2_with fail
 have S2 := S1k.out.set6 (.slice a1 args.length k1)
 have B2 := bel_set (k := 6) B1 (show w.heap.size ≤ w.heap.size + 1 + 1 by omega) (.slice a1 args.length k1)
 have HA2 := Kp.mk (HA1.out.mono (Nat.le_refl _) (keeps_set (B := w.heap.size + 1 + 1) (k := 6) (x := .slice a1 args.length k1) (by omega)))
 clear b7 b8 r1 r2 o0 o1 o2 o3 o4 o5 o6 o7 o8 f6 S1k HA1 B1
 generalize w1.setCell ⟨w.heap.size + 1 + 1, 6, none⟩ (.slice a1 args.length k1) = W1 at S2 B2 HA2 U1 ⊢
 have z1 : w.heap.size + 1 + 1 + 1 ≤ W1.heap.size := S2.r2.lt
 refine (toInts vb bl W1 (HB.out _ B2) n2).mono ?_
 rintro e w2 ⟨vb', rfl, hI, hb2, hu2⟩
 have U2 : Kp (Unf w.heap.size (w2.setCell ⟨w.heap.size + 1 + 1, 7, none⟩ vb')) := ⟨(U1.out.call hb2 hu2).set _ _ _⟩
 clear hu2 U1
 have S3k := Kp.mk (S2.keep hb2)
 have B3 := bel_trans B2 hb2
 have HA3 := Kp.mk (HA2.out.keep hb2)
 have HI3 := Kp.mk (hI.mono z1 (fun _ _ _ _ h => h))
 obtain ⟨a2, k2, rfl⟩ : ∃ a k, vb' = .slice a bl.length k := by
  obtain ⟨_, _, s, -, -⟩ := hI.ex
  obtain ⟨a, k, e, -, -⟩ := s.ex
  exact ⟨a, k, e⟩
 clear hI z1 S2 B2 HA2 hb2
 obtain ⟨b7, b8, r1, r2, o0, o1, o2, o3, o4, o5, o6, o7, o8⟩ := S3k.out
 obtain ⟨_, _, f7⟩ := r2.at (j := 7) (by omega)
 go_wp2_with fail
 have S4 := S3k.out.set7 (.slice a2 bl.length k2)
 have B4 := bel_set (k := 7) B3 (show w.heap.size ≤ w.heap.size + 1 + 1 by omega) (.slice a2 bl.length k2)
 have HA4 := Kp.mk (HA3.out.mono (Nat.le_refl _) (keeps_set (B := w.heap.size + 1 + 1) (k := 7) (x := .slice a2 bl.length k2) (by omega)))
 have HI4 := Kp.mk (HI3.out.mono (Nat.le_refl _) (keeps_set (B := w.heap.size + 1 + 1) (k := 7) (x := .slice a2 bl.length k2) (by omega)))
 clear b7 b8 r1 r2 o0 o1 o2 o3 o4 o5 o6 o7 o8 f7 S3k HA3 HI3 B3
 generalize w2.setCell ⟨w.heap.size + 1 + 1, 7, none⟩ (.slice a2 bl.length k2) = W2 at S4 B4 HA4 HI4 U2 ⊢
 have z2 : w.heap.size + 1 + 1 + 1 ≤ W2.heap.size := S4.r2.lt
 refine (toWords vw ws W2 (HW.out _ B4) n3).mono ?_
 rintro e w3 ⟨vw', rfl, hI, hb3, hu3⟩
 have U3 : Kp (Unf w.heap.size w3) := ⟨U2.out.call hb3 hu3⟩
 clear hu3 U2
 have S5k := Kp.mk (S4.keep hb3)
 have B5 := Kp.mk (bel_trans B4 hb3)
 have HA5 := Kp.mk (HA4.out.keep hb3)
 have HI5 := Kp.mk (HI4.out.keep hb3)
 have HJ5 := Kp.mk (hI.mono z2 (fun _ _ _ _ h => h))
 obtain ⟨a3, k3, rfl⟩ : ∃ a k, vw' = .slice a ws.length k := by
  obtain ⟨_, _, s, -, -⟩ := hI.ex
  obtain ⟨a, k, e, -, -⟩ := s.ex
  exact ⟨a, k, e⟩
 clear hI z2 S4 B4 HA4 HI4 hb3
 obtain ⟨b7, b8, r1, r2, o0, o1, o2, o3, o4, o5, o6, o7, o8⟩ := S5k.out
 obtain ⟨_, _, f8⟩ := r2.at (j := 8) (by omega)
 obtain ⟨y0, c0, g0⟩ := r1.at (j := 0) (by omega)
 obtain ⟨y1, c1, g1⟩ := r1.at (j := 1) (by omega)
 obtain ⟨y2, c2, g2⟩ := r1.at (j := 2) (by omega)
 obtain ⟨y3, c3, g3⟩ := r1.at (j := 3) (by omega)
 obtain ⟨y4, c4, g4⟩ := r1.at (j := 4) (by omega)
 obtain ⟨y5, c5, g5⟩ := r1.at (j := 5) (by omega)
 obtain ⟨y6, c6, g6⟩ := r1.at (j := 6) (by omega)
 obtain ⟨y7, c7, g7⟩ := r1.at (j := 7) (by omega)
 obtain ⟨y8, c8, g8⟩ := r1.at (j := 8) (by omega)
 go_wp2_with fail
 have P := put9 (r1.sets (w.heap.size + 1 + 1) 8 (.slice a3 ws.length k3)) (i := 0) (by omega) (.int .i64 op) (.int .i64 ty) (.int .i64 fl) (.int .i64 pr) (.int .i64 ca) (.int .i64 sz) (.slice a1 args.length k1) (.slice a2 bl.length k2) (.slice a3 ws.length k3)
 have PB := bel_set (k := 8) B5.out (show w.heap.size ≤ w.heap.size + 1 + 1 by omega) (.slice a3 ws.length k3)
 have K5 : Keeps (w.heap.size + 1 + 1 + 1) w3 (w3.setCell ⟨w.heap.size + 1 + 1, 8, none⟩ (.slice a3 ws.length k3)) := keeps_set (by omega)
 have K6 : Keeps (w.heap.size + 1 + 1 + 1) (w3.setCell ⟨w.heap.size + 1 + 1, 8, none⟩ (.slice a3 ws.length k3)) (W9 (w3.setCell ⟨w.heap.size + 1 + 1, 8, none⟩ (.slice a3 ws.length k3)) (w.heap.size + 1) 0 (.int .i64 op) (.int .i64 ty) (.int .i64 fl) (.int .i64 pr) (.int .i64 ca) (.int .i64 sz) (.slice a1 args.length k1) (.slice a2 bl.length k2) (.slice a3 ws.length k3)) := fun b o v l q => P.2.2 b o v q (by omega)
 have V : InV w.heap.size _ (.slice a1 args.length k1) (.slice a2 bl.length k2) (.slice a3 ws.length k3) ⟨op, ty, fl, pr, ca, sz, args, bl, ws⟩ :=
  InV.mono (lo := w.heap.size + 1 + 1 + 1) ⟨HA5.out.mono (Nat.le_refl _) (K5.trans K6), HI5.out.mono (Nat.le_refl _) (K5.trans K6), HJ5.out.mono (Nat.le_refl _) (K5.trans K6)⟩ (by omega) (fun _ _ _ _ h => h)
 have PZ : Below w.heap.size w (W9 (w3.setCell ⟨w.heap.size + 1 + 1, 8, none⟩ (.slice a3 ws.length k3)) (w.heap.size + 1) 0 (.int .i64 op) (.int .i64 ty) (.int .i64 fl) (.int .i64 pr) (.int .i64 ca) (.int .i64 sz) (.slice a1 args.length k1) (.slice a2 bl.length k2) (.slice a3 ws.length k3)) := by
  have l : w.heap.size ≤ w.heap.size + 1 := by omega
  exact tl118
 obtain ⟨⟨p0, p1, p2, p3, p4, p5, p6, p7, p8⟩, -, -⟩ := P
 refine bodyPost_ret (v := .agg #[.int .i64 op, .int .i64 ty, .int .i64 fl, .int .i64 pr, .int .i64 ca, .int .i64 sz, .slice a1 args.length k1, .slice a2 bl.length k2, .slice a3 ws.length k3]) ?_ rfl ⟨_, _, _, rfl, V, PZ, (((((((((U3.out.set _ _ _).set _ _ _).set _ _ _).set _ _ _).set _ _ _).set _ _ _).set _ _ _).set _ _ _).set _ _ _).set _ _ _⟩
 clear V PZ K5 K6 PB B5 HA5 HI5 HJ5 S5k b7 b8 o0 o1 o2 o3 o4 o5 o6 o7 o8 f8 r2
 simp [results, Tryz.results166, go_sem, c0, c1, c2, c3, c4, c5, c6, c7, c8]
end Go.Proofs.YtgdcgjlmkmdklaaGreatDoor

namespace Go.Proofs.YtgdcgjlmkmdklaaGreatDoor
open Go.ChangeShapes Go.WideShapes Go.ChangeAt Go.RowKit
set_option linter.unusedVariables false
set_option linter.unusedSimpArgs false
theorem insN_of (xs : List InD) : (∀ i (h : i < xs.length), inN xs[i] ≤ insN xs) ∧ 0 ≤ insN xs := by
 induction xs with
 | nil => exact ⟨fun i h => absurd h (Nat.not_lt_zero _), Int.le_refl _⟩
 | cons x r ih =>
  have e : insN (x :: r) = inN x + insN r := by simp [insN]
  have := inN_nn x
  exact tl92
theorem InV.shape {lo : Nat} {w : World} {va vb vw : Value} {d : InD} (h : InV lo w va vb vw d) : ∃ a1 k1 a2 k2 a3 k3, va = .slice a1 d.args.length k1 ∧ vb = .slice a2 d.bl.length k2 ∧ vw = .slice a3 d.ws.length k3 := by
 obtain ⟨_, _, s1, -, -⟩ := h.a.ex
 obtain ⟨_, _, s2, -, -⟩ := h.b.ex
 obtain ⟨_, _, s3, -, -⟩ := h.c.ex
 obtain ⟨a1, k1, e1, -, -⟩ := s1.ex
 obtain ⟨a2, k2, e2, -, -⟩ := s2.ex
 obtain ⟨a3, k3, e3, -, -⟩ := s3.ex
 exact ⟨a1, k1, a2, k2, a3, k3, e1, e2, e3⟩
set_option maxRecDepth 100000 in
set_option maxHeartbeats 2000000 in
theorem toInss (v : Value) (xs : List InD) (w : World) {lo : Nat} (h : Ins lo w v xs) (hn : blN xs ≤ 1048576) :
  Calls Tryz.prog 152 #[v] w fun e w' => ∃ v', e = .returned v' ∧ Ins w.heap.size w' v' xs ∧ Below w.heap.size w w' ∧ Unf w.heap.size w' := by
 obtain ⟨b, o, ⟨⟨a, cap, rfl, h1, h2⟩, h3⟩, -, hc⟩ := h.ex
 unfold blN at hn
 have Hn := insN_of xs
 have hnn := Hn.2
 have hN : Kp (∀ i (h : i < xs.length), inN xs[i] ≤ 1048576) := ⟨fun i h => by have := Hn.1 i h; omega⟩
 have g1 : (xs.length : Int) ≤ 1048576 := by omega
 clear Hn hn hnn
 obtain ⟨O, hmk, hrw⟩ := mk_row 57 73 (.agg #[.int .i64 0, .int .i64 0, .int .i64 0, .int .i64 0, .int .i64 0, .int .i64 0, .slice none 0 0, .slice none 0 0, .slice none 0 0]) 9 120 Tryz.underlying57 (by kernel_rfl) xs.length (by omega) (by omega)
 have HR : Kp (∀ W : World, Rw (W.alloc O) W.heap.size (xs.length * 9)) := ⟨hrw⟩
 clear hrw
 go_enter Tryz.func152, Tryz.ntmps152
 go_wp2_with fail
 go_loopw [4] (fun s wr => ∃ i : Nat, i ≤ xs.length ∧ s = .int .i64 i ∧ Below w.heap.size w wr ∧ Unf w.heap.size wr ∧ Rw wr w.heap.size (xs.length * 9) ∧ ∀ j (hj : j < xs.length), j < i → ∃ va vb vw, InAt (w.heap.size + 1) wr w.heap.size (j * 9) xs[j] va vb vw) (fun s _ => xs.length - (intOf s).toNat)
 case atStart => exact ⟨0, Nat.zero_le _, rfl, bel_alloc _ _, Unf.new (HR.out w), HR.out w, fun j _ hj => absurd hj (Nat.not_lt_zero _)⟩
 case round =>
  obtain ⟨i, hi, rfl, hB, hU, hR, hd⟩ := hrel
  have HD : Kp _ := ⟨hd⟩
  clear hd
  by_cases hlt : i < xs.length
  ·have ha := h2 (by omega)
   subst ha
   obtain ⟨va, vb, vw, hq⟩ := hc i hlt
   have hl := Kp.mk hlt
   have nd := hN.out i hlt
   obtain ⟨c0, c1, c2, c3, c4, c5, c6, c7, c8, hv⟩ := hq.keep hB
   clear hq
   obtain ⟨d, hd⟩ : ∃ d, Kp (xs[i] = d) := ⟨_, ⟨rfl⟩⟩
   rw [hd.out] at c0 c1 c2 c3 c4 c5 hv nd
   obtain ⟨a1, k1, a2, k2, a3, k3, rfl, rfl, rfl⟩ := hv.shape
   have hV := Kp.mk (toIn d _ _ _ wr hv nd)
   clear hc hv nd
   go_wp2_with fail
   refine hV.out.mono ?_
   rintro e w1 ⟨va', vb', vw', rfl, hv, hb1, hu1⟩
   have hU1 := hU.call hb1 hu1
   obtain ⟨a1', k1', a2', k2', a3', k3', rfl, rfl, rfl⟩ := hv.shape
   have HV := Kp.mk hv
   have hR1 := hR.keep hb1
   clear hv hV c0 c1 c2 c3 c4 c5 c6 c7 c8
   obtain ⟨_, z0, f0⟩ := hR1.at (j := i * 9) (by omega)
   obtain ⟨_, z1, f1⟩ := hR1.at (j := i * 9 + 1) (by omega)
   obtain ⟨_, z2, f2⟩ := hR1.at (j := i * 9 + 2) (by omega)
   obtain ⟨_, z3, f3⟩ := hR1.at (j := i * 9 + 3) (by omega)
   obtain ⟨_, z4, f4⟩ := hR1.at (j := i * 9 + 4) (by omega)
   obtain ⟨_, z5, f5⟩ := hR1.at (j := i * 9 + 5) (by omega)
   obtain ⟨_, z6, f6⟩ := hR1.at (j := i * 9 + 6) (by omega)
   obtain ⟨_, z7, f7⟩ := hR1.at (j := i * 9 + 7) (by omega)
   obtain ⟨_, z8, f8⟩ := hR1.at (j := i * 9 + 8) (by omega)
   go_wp2_with fail
   have P := put9 hR1 (i := i * 9) (by omega) (.int .i64 d.op) (.int .i64 d.ty) (.int .i64 d.fl) (.int .i64 d.pr) (.int .i64 d.ca) (.int .i64 d.sz) (.slice a1' d.args.length k1') (.slice a2' d.bl.length k2') (.slice a3' d.ws.length k3')
   have hlr := hR.lt
   refine ⟨⟨i + 1, by omega, by go_num, ?_, ((((((((hU1.set _ _ _).set _ _ _).set _ _ _).set _ _ _).set _ _ _).set _ _ _).set _ _ _).set _ _ _).set _ _ _, P.2.1, fun j hj hji => ?_⟩, by simp [intOf]; omega⟩
   ·have l := Nat.le_refl w.heap.size
    have PB := bel_trans hB hb1
    exact tl118
   ·by_cases e : j = i
    ·subst e
     rw [hd.out]
     obtain ⟨p0, p1, p2, p3, p4, p5, p6, p7, p8⟩ := P.1
     exact ⟨_, _, _, p0, p1, p2, p3, p4, p5, p6, p7, p8, HV.out.mono (by omega) (fun b o v l q => P.2.2 b o v q (by omega))⟩
    ·obtain ⟨ua, ub, uw, q⟩ := HD.out j hj (by omega)
     have q := q.keep hb1
     exact ⟨_, _, _, P.2.2 _ _ _ q.c0 (by omega), P.2.2 _ _ _ q.c1 (by omega), P.2.2 _ _ _ q.c2 (by omega), P.2.2 _ _ _ q.c3 (by omega), P.2.2 _ _ _ q.c4 (by omega), P.2.2 _ _ _ q.c5 (by omega), P.2.2 _ _ _ q.c6 (by omega), P.2.2 _ _ _ q.c7 (by omega), P.2.2 _ _ _ q.c8 (by omega), q.l.mono (Nat.le_refl _) (fun b o v l q => P.2.2 b o v q (by omega))⟩
  ·clear h2 hc hmk
   go_wp2_with fail
   go_ret
   exact ⟨_, rfl, ⟨w.heap.size, 0, ⟨⟨_, _, rfl, Nat.le_refl _, fun _ => rfl⟩, h3⟩, Nat.le_refl _, fun j hj => by
    rw [Nat.zero_add]
    obtain ⟨va, vb, vw, q⟩ := HD.out j hj (by omega)
    exact ⟨va, vb, vw, q.c0, q.c1, q.c2, q.c3, q.c4, q.c5, q.c6, q.c7, q.c8, q.l.mono (by omega) (fun _ _ _ _ h => h)⟩⟩, hB, hU⟩
end Go.Proofs.YtgdcgjlmkmdklaaGreatDoor

namespace Go.Proofs.YtgdcgjlmkmdklaaGreatDoor
open Go.ChangeShapes Go.WideShapes Go.ChangeAt Go.RowKit
set_option linter.unusedVariables false
set_option linter.unusedSimpArgs false
theorem three (w : World) (X Y Z : Array Value) (tx ty tz : TypeId) {W : World} (h : W = ((w.alloc (Obj.cells X tx)).alloc (Obj.cells Y ty)).alloc (Obj.cells Z tz)) :
  Below w.heap.size w W ∧ W.heap.size = w.heap.size + 1 + 1 + 1 ∧ Rw W (w.heap.size + 1) Y.size ∧ Rw W (w.heap.size + 1 + 1) Z.size ∧ Unf w.heap.size W ∧ (∀ j v, X[j]? = some v → At W w.heap.size j v) ∧ (∀ j v, Z[j]? = some v → At W (w.heap.size + 1 + 1) j v) := by
 have s1 : (w.alloc (Obj.cells X tx)).heap.size = w.heap.size + 1 := World.size_alloc ..
 have s2 : ((w.alloc (Obj.cells X tx)).alloc (Obj.cells Y ty)).heap.size = w.heap.size + 1 + 1 := by rw [World.size_alloc, s1]
 have q := al_rw (w.alloc (Obj.cells X tx)) Y ty
 have r := al_rw ((w.alloc (Obj.cells X tx)).alloc (Obj.cells Y ty)) Z tz
 rw [s1] at q
 rw [s2] at r
 subst h
 refine ⟨bel_trans (bel_trans (bel_alloc _ _) (bel_alloc _ _)) (bel_alloc _ _), by rw [World.size_alloc, s2], q.keep (bel_alloc _ _), r, (((Unf.top w).cells _ _).cells _ _).cells _ _, fun j v e => at_keep (at_keep (al_at _ _ _ e) (bel_alloc _ _)) (bel_alloc _ _), fun j v e => ?_⟩
 have := al_at ((w.alloc (Obj.cells X tx)).alloc (Obj.cells Y ty)) Z tz e
 rw [s2] at this
 exact this
theorem blsN_of (xs : List (List InD)) : (∀ i (h : i < xs.length), blN xs[i] ≤ blsN xs) ∧ 0 ≤ blsN xs := by
 induction xs with
 | nil => exact ⟨fun i h => absurd h (Nat.not_lt_zero _), Int.le_refl _⟩
 | cons x r ih =>
  have e : blsN (x :: r) = blN x + blsN r := by simp [blsN]
  have := blN_nn x
  exact tl92
theorem Bls.shape {lo : Nat} {w : World} {v : Value} {xs : List (List InD)} (h : Bls lo w v xs) : ∃ a k, v = .slice a xs.length k := by
 exact tl106
theorem Ints.shape {lo : Nat} {k : IntKind} {w : World} {v : Value} {xs : List Int} (h : Ints lo k w v xs) : ∃ a k, v = .slice a xs.length k := by
 exact tl106
theorem Ins.shape {lo : Nat} {w : World} {v : Value} {xs : List InD} (h : Ins lo w v xs) : ∃ a k, v = .slice a xs.length k := by
 exact tl106
set_option maxRecDepth 100000 in
set_option maxHeartbeats 2000000 in
theorem toBl (xs : List InD) (vi : Value) (w : World) {lo : Nat} (h : Ins lo w vi xs) (hn : blN xs ≤ 1048576) :
  Calls Tryz.prog 134 #[.agg #[vi]] w fun e w' => ∃ vi', e = .returned (.agg #[vi']) ∧ Ins w.heap.size w' vi' xs ∧ Below w.heap.size w w' ∧ Unf w.heap.size w' := by
 obtain ⟨a0, k0, rfl⟩ := h.shape
 have HA : Kp (∀ W, Below w.heap.size w W → Ins lo W (.slice a0 xs.length k0) xs) := ⟨fun W q => h.keep q⟩
 clear h
 go_enter Tryz.func134, Tryz.ntmps134
 go_wp2_with fail
 obtain ⟨W0, hW⟩ : ∃ W0 : World, W0 = (((w.alloc (Obj.cells #[.slice a0 xs.length k0] 171)).alloc (Obj.cells #[.slice none 0 0] 59)).alloc (Obj.cells #[.slice none 0 0] 59)) := ⟨_, rfl⟩
 rw [← hW]
 obtain ⟨B0, z0, r1, r2, u0, -, -⟩ := three w _ _ _ _ _ _ hW
 clear hW
 refine (toInss _ xs W0 (HA.out _ B0) hn).mono ?_
 rintro e w1 ⟨v', rfl, hA, hb1, hu1⟩
 have U1 := Kp.mk (u0.call hb1 hu1)
 clear u0 hu1
 rw [z0] at hA
 obtain ⟨a1, k1, rfl⟩ := hA.shape
 have q1 := r1.keep hb1
 have q2 := r2.keep hb1
 have B1 := Kp.mk (bel_trans B0 hb1)
 have HA1 := Kp.mk hA
 obtain ⟨_, c1, f1⟩ := q1.at (j := 0) (by simp)
 obtain ⟨_, c2, f2⟩ := q2.at (j := 0) (by simp)
 clear hA r1 r2 z0 B0 hb1 HA
 go_wp2_with fail
 have K1 : Keeps (w.heap.size + 1 + 1 + 1) w1 ((w1.setCell ⟨w.heap.size + 1 + 1, 0, none⟩ (.slice a1 xs.length k1)).setCell ⟨w.heap.size + 1, 0, none⟩ (.slice a1 xs.length k1)) := (keeps_set (by omega)).trans (keeps_set (by omega))
 have B2 := bel_set (k := 0) (bel_set (k := 0) B1.out (show w.heap.size ≤ w.heap.size + 1 + 1 by omega) (.slice a1 xs.length k1)) (show w.heap.size ≤ w.heap.size + 1 by omega) (.slice a1 xs.length k1)
 refine bodyPost_ret (v := .agg #[.slice a1 xs.length k1]) ?_ rfl ⟨_, rfl, HA1.out.mono (by omega) K1, B2, (U1.out.set _ _ _).set _ _ _⟩
 clear B2 K1 HA1
 simp [results, Tryz.results134, go_sem, c1, c2]
set_option maxRecDepth 100000 in
set_option maxHeartbeats 2000000 in
theorem toBls (v : Value) (xs : List (List InD)) (w : World) {lo : Nat} (h : Bls lo w v xs) (hn : xs.length + blsN xs ≤ 1048576) :
  Calls Tryz.prog 95 #[v] w fun e w' => ∃ v', e = .returned v' ∧ Bls w.heap.size w' v' xs ∧ Below w.heap.size w w' ∧ Unf w.heap.size w' := by
 obtain ⟨b, o, ⟨⟨a, cap, rfl, h1, h2⟩, h3⟩, -, hc⟩ := h.ex
 have Hn := blsN_of xs
 have hnn := Hn.2
 have hN : Kp (∀ i (h : i < xs.length), blN xs[i] ≤ 1048576) := ⟨fun i h => by have := Hn.1 i h; omega⟩
 have g1 : (xs.length : Int) ≤ 1048576 := by omega
 clear Hn hn hnn
 obtain ⟨O, hmk, hrw⟩ := mk_row 51 59 (.agg #[.slice none 0 0]) 1 24 Tryz.underlying51 (by kernel_rfl) xs.length (by omega) (by omega)
 have HR : Kp (∀ W : World, Rw (W.alloc O) W.heap.size (xs.length * 1)) := ⟨hrw⟩
 clear hrw
 go_enter Tryz.func95, Tryz.ntmps95
 go_wp2_with fail
 go_loopw [4] (fun s wr => ∃ i : Nat, i ≤ xs.length ∧ s = .int .i64 i ∧ Below w.heap.size w wr ∧ Unf w.heap.size wr ∧ Rw wr w.heap.size (xs.length * 1) ∧ ∀ j (hj : j < xs.length), j < i → ∃ vi, At wr w.heap.size j vi ∧ Ins (w.heap.size + 1) wr vi xs[j]) (fun s _ => xs.length - (intOf s).toNat)
 case atStart => exact ⟨0, Nat.zero_le _, rfl, bel_alloc _ _, Unf.new (HR.out w), HR.out w, fun j _ hj => absurd hj (Nat.not_lt_zero _)⟩
 case round =>
  obtain ⟨i, hi, rfl, hB, hU, hR, hd⟩ := hrel
  have HD : Kp _ := ⟨hd⟩
  clear hd
  by_cases hlt : i < xs.length
  ·have ha := h2 (by omega)
   subst ha
   obtain ⟨vi, c0, hv⟩ := hc i hlt
   have nd := hN.out i hlt
   have c0 := at_keep c0 hB
   have hv := hv.keep hB
   obtain ⟨d, hd⟩ : ∃ d, Kp (xs[i] = d) := ⟨_, ⟨rfl⟩⟩
   rw [hd.out] at hv nd
   obtain ⟨a1, k1, rfl⟩ := hv.shape
   have hV := Kp.mk (toBl d _ wr hv nd)
   clear hc hv nd
   go_wp2_with fail
   refine hV.out.mono ?_
   rintro e w1 ⟨vi', rfl, hv, hb1, hu1⟩
   have hU1 := hU.call hb1 hu1
   obtain ⟨a1', k1', rfl⟩ := hv.shape
   have HV := Kp.mk hv
   have hR1 := hR.keep hb1
   clear hv hV c0
   obtain ⟨_, z0, f0⟩ := hR1.at (j := i) (by omega)
   go_wp2_with fail
   have hlr := hR.lt
   refine ⟨⟨i + 1, by omega, by go_num, bel_set (bel_trans hB hb1) (Nat.le_refl _) _, hU1.set _ _ _, hR1.set _ _, fun j hj hji => ?_⟩, by simp [intOf]; omega⟩
   by_cases e : j = i
   ·subst e
    rw [hd.out]
    exact ⟨_, set_same hR1 (by omega) _, HV.out.mono (by omega) (keeps_set (by omega))⟩
   ·obtain ⟨u, q, r⟩ := HD.out j hj (by omega)
    exact ⟨_, set_other (at_keep q hb1) (.inr e), (r.keep hb1).mono (Nat.le_refl _) (keeps_set (by omega))⟩
  ·clear h2 hc hmk
   go_wp2_with fail
   go_ret
   exact ⟨_, rfl, ⟨w.heap.size, 0, ⟨⟨_, _, rfl, Nat.le_refl _, fun _ => rfl⟩, h3⟩, Nat.le_refl _, fun j hj => by
    rw [Nat.zero_add]
    obtain ⟨u, q, r⟩ := HD.out j hj (by omega)
    exact ⟨_, q, r.mono (by omega) (fun _ _ _ _ h => h)⟩⟩, hB, hU⟩
end Go.Proofs.YtgdcgjlmkmdklaaGreatDoor

namespace Go.Proofs.YtgdcgjlmkmdklaaGreatDoor
open Go.ChangeShapes Go.WideShapes Go.ChangeAt Go.RowKit
set_option linter.unusedVariables false
set_option linter.unusedSimpArgs false
structure SF (H : Nat) (W : World) (name : ByteArray) (link res : Int) (vb x2 x3 x4 : Value) : Prop where
 b3 : At W H 3 (.int .i64 res)
 b4 : At W H 4 vb
 r1 : Rw W (H + 1) 5
 r2 : Rw W (H + 1 + 1) 5
 o0 : At W (H + 1 + 1) 0 (.string name)
 o1 : At W (H + 1 + 1) 1 (.int .i64 link)
 o2 : At W (H + 1 + 1) 2 x2
 o3 : At W (H + 1 + 1) 3 x3
 o4 : At W (H + 1 + 1) 4 x4
theorem SF.keep {H : Nat} {W W' : World} {name : ByteArray} {link res : Int} {vb x2 x3 x4 : Value} (h : SF H W name link res vb x2 x3 x4) (hb : Below W.heap.size W W') : SF H W' name link res vb x2 x3 x4 :=
 ⟨at_keep h.b3 hb, at_keep h.b4 hb, h.r1.keep hb, h.r2.keep hb, at_keep h.o0 hb, at_keep h.o1 hb, at_keep h.o2 hb, at_keep h.o3 hb, at_keep h.o4 hb⟩
theorem SF.set2 {H : Nat} {W : World} {name : ByteArray} {link res : Int} {vb x2 x3 x4 : Value} (h : SF H W name link res vb x2 x3 x4) (y : Value) : SF H (W.setCell ⟨H + 1 + 1, 2, none⟩ y) name link res vb y x3 x4 :=
 ⟨set_other h.b3 (by omega), set_other h.b4 (by omega), h.r1.sets _ _ _, h.r2.sets _ _ _, set_other h.o0 (by omega), set_other h.o1 (by omega), set_same h.r2 (by omega) _, set_other h.o3 (by omega), set_other h.o4 (by omega)⟩
theorem SF.set3 {H : Nat} {W : World} {name : ByteArray} {link res : Int} {vb x2 x3 x4 : Value} (h : SF H W name link res vb x2 x3 x4) (y : Value) : SF H (W.setCell ⟨H + 1 + 1, 3, none⟩ y) name link res vb x2 y x4 :=
 ⟨set_other h.b3 (by omega), set_other h.b4 (by omega), h.r1.sets _ _ _, h.r2.sets _ _ _, set_other h.o0 (by omega), set_other h.o1 (by omega), set_other h.o2 (by omega), set_same h.r2 (by omega) _, set_other h.o4 (by omega)⟩
theorem put5 {w : World} {B n : Nat} (h : Rw w B n) (hi : 4 < n) (x0 x1 x2 x3 x4 : Value) :
  ∀ b o v, At w b o v → b ≠ B → At (((((w.setCell ⟨B, 0, none⟩ x0).setCell ⟨B, 1, none⟩ x1).setCell ⟨B, 2, none⟩ x2).setCell ⟨B, 3, none⟩ x3).setCell ⟨B, 4, none⟩ x4) b o v := fun b o v q hn =>
 set_other (set_other (set_other (set_other (set_other q (.inl hn)) (.inl hn)) (.inl hn)) (.inl hn)) (.inl hn)
set_option maxRecDepth 100000 in
set_option maxHeartbeats 2000000 in
theorem toFn (d : FnD) (vp vb : Value) (w : World) {lo : Nat} (h : FnAt lo w d vp vb) (hn : fnN d ≤ 1048576) :
  Calls Tryz.prog 52 #[fnV d vp vb] w fun e w' => ∃ vp' vb', e = .returned (fnV d vp' vb') ∧ FnAt w.heap.size w' d vp' vb' ∧ Below w.heap.size w w' ∧ Unf w.heap.size w' := by
 unfold fnN at hn
 obtain ⟨name, link, params, res, blocks⟩ := d
 obtain ⟨hnm, hp, hb⟩ := h
 dsimp only [fnV] at *
 have nn := blsN_nn blocks
 have n1 : params.length ≤ 1048576 := by omega
 have n2 : blocks.length + blsN blocks ≤ 1048576 := by omega
 obtain ⟨a0, k0, rfl⟩ := hp.shape
 obtain ⟨b0, l0, rfl⟩ := hb.shape
 have HA : Kp (∀ W, Below w.heap.size w W → Ints lo .i64 W (.slice a0 params.length k0) params) := ⟨fun W q => hp.keep q⟩
 have HB : Kp (∀ W, Below w.heap.size w W → Bls lo W (.slice b0 blocks.length l0) blocks) := ⟨fun W q => hb.keep q⟩
 have HN := Kp.mk hnm
 clear hp hb hn nn hnm
 go_enter Tryz.func52, Tryz.ntmps52
 go_wp2_with fail
 obtain ⟨W0, hW⟩ : ∃ W0 : World, W0 = (((w.alloc (Obj.cells #[.string name, .int .i64 link, .slice a0 params.length k0, .int .i64 res, .slice b0 blocks.length l0] 94)).alloc (Obj.cells #[.string (ByteArray.mk #[]), .int .i64 0, .slice none 0 0, .int .i64 0, .slice none 0 0] 53)).alloc (Obj.cells #[.string name, .int .i64 link, .slice none 0 0, .int .i64 0, .slice none 0 0] 53)) := ⟨_, rfl⟩
 rw [← hW]
 obtain ⟨B0, z0, r1, r2, u0, hx, hz⟩ := three w _ _ _ _ _ _ hW
 have S0 : SF w.heap.size W0 name link res (.slice b0 blocks.length l0) (.slice none 0 0) (.int .i64 0) (.slice none 0 0) :=
  ⟨hx _ _ rfl, hx _ _ rfl, r1, r2, hz _ _ rfl, hz _ _ rfl, hz _ _ rfl, hz _ _ rfl, hz _ _ rfl⟩
 clear hW r1 r2 hx hz
 refine (toInts _ params W0 (HA.out _ B0) n1).mono ?_
 rintro e w1 ⟨v', rfl, hA, hb1, hu1⟩
 have U1 : Kp (Unf w.heap.size ((w1.setCell ⟨w.heap.size + 1 + 1, 2, none⟩ v').setCell ⟨w.heap.size + 1 + 1, 3, none⟩ (.int .i64 res))) := ⟨((u0.call hb1 hu1).set _ _ _).set _ _ _⟩
 clear u0 hu1
 rw [z0] at hA
 obtain ⟨a1, k1, rfl⟩ := hA.shape
 have S1k := Kp.mk (S0.keep hb1)
 have B1 := bel_trans B0 hb1
 have HA1 := Kp.mk hA
 clear hA z0 S0 hb1 B0 HA
 obtain ⟨b3, b4, r1, r2, o0, o1, o2, o3, o4⟩ := S1k.out
 obtain ⟨_, _, f2⟩ := r2.at (j := 2) (by omega)
 obtain ⟨_, _, f3⟩ := r2.at (j := 3) (by omega)
 go_wp2_with fail
 have S2 := (S1k.out.set2 (.slice a1 params.length k1)).set3 (.int .i64 res)
 have l2 : w.heap.size ≤ w.heap.size + 1 + 1 := by omega
 have B2 := bel_set (k := 3) (bel_set (k := 2) B1 l2 (.slice a1 params.length k1)) l2 (.int .i64 res)
 have K2 : Keeps (w.heap.size + 1 + 1 + 1) w1 ((w1.setCell ⟨w.heap.size + 1 + 1, 2, none⟩ (.slice a1 params.length k1)).setCell ⟨w.heap.size + 1 + 1, 3, none⟩ (.int .i64 res)) := (keeps_set (by omega)).trans (keeps_set (by omega))
 have HA2 := Kp.mk (HA1.out.mono (Nat.le_refl _) K2)
 clear b3 b4 r1 r2 o0 o1 o2 o3 o4 f2 f3 S1k HA1 B1 K2
 generalize (w1.setCell ⟨w.heap.size + 1 + 1, 2, none⟩ (.slice a1 params.length k1)).setCell ⟨w.heap.size + 1 + 1, 3, none⟩ (.int .i64 res) = W1 at S2 B2 HA2 U1 ⊢
 have z1 : w.heap.size + 1 + 1 + 1 ≤ W1.heap.size := S2.r2.lt
 refine (toBls _ blocks W1 (HB.out _ B2) n2).mono ?_
 rintro e w2 ⟨v', rfl, hI, hb2, hu2⟩
 have U2 : Kp (Unf w.heap.size w2) := ⟨U1.out.call hb2 hu2⟩
 clear hu2 U1
 obtain ⟨a2, k2, rfl⟩ := hI.shape
 have S3k := Kp.mk (S2.keep hb2)
 have B3 := Kp.mk (bel_trans B2 hb2)
 have HA3 := Kp.mk (HA2.out.keep hb2)
 have HI3 := Kp.mk (hI.mono z1 (fun _ _ _ _ h => h))
 clear hI z1 S2 B2 HA2 hb2
 obtain ⟨b3, b4, r1, r2, o0, o1, o2, o3, o4⟩ := S3k.out
 obtain ⟨_, _, f4⟩ := r2.at (j := 4) (by omega)
 obtain ⟨y0, c0, g0⟩ := r1.at (j := 0) (by omega)
 obtain ⟨y1, c1, g1⟩ := r1.at (j := 1) (by omega)
 obtain ⟨y2, c2, g2⟩ := r1.at (j := 2) (by omega)
 obtain ⟨y3, c3, g3⟩ := r1.at (j := 3) (by omega)
 obtain ⟨y4, c4, g4⟩ := r1.at (j := 4) (by omega)
 go_wp2_with fail
 have P := put5 (r1.sets (w.heap.size + 1 + 1) 4 (.slice a2 blocks.length k2)) (by omega) (.string name) (.int .i64 link) (.slice a1 params.length k1) (.int .i64 res) (.slice a2 blocks.length k2)
 have K5 : Keeps (w.heap.size + 1 + 1 + 1) w2 (w2.setCell ⟨w.heap.size + 1 + 1, 4, none⟩ (.slice a2 blocks.length k2)) := keeps_set (by omega)
 have l1 : w.heap.size ≤ w.heap.size + 1 := by omega
 have PZ := bel_set (k := 4) (bel_set (k := 3) (bel_set (k := 2) (bel_set (k := 1) (bel_set (k := 0) (bel_set (k := 4) B3.out l2 (.slice a2 blocks.length k2)) l1 (.string name)) l1 (.int .i64 link)) l1 (.slice a1 params.length k1)) l1 (.int .i64 res)) l1 (.slice a2 blocks.length k2)
 refine bodyPost_ret (v := .agg #[.string name, .int .i64 link, .slice a1 params.length k1, .int .i64 res, .slice a2 blocks.length k2]) ?_ rfl ⟨_, _, rfl, ⟨HN.out, HA3.out.mono (by omega) (K5.trans (fun b o v l q => P b o v q (by omega))), HI3.out.mono (by omega) (K5.trans (fun b o v l q => P b o v q (by omega)))⟩, PZ, (((((U2.out.set _ _ _).set _ _ _).set _ _ _).set _ _ _).set _ _ _).set _ _ _⟩
 clear PZ K5 P B3 HA3 HI3 S3k b3 b4 o0 o1 o2 o3 o4 f4 r2 HN
 simp [results, Tryz.results52, go_sem, c0, c1, c2, c3, c4]
end Go.Proofs.YtgdcgjlmkmdklaaGreatDoor

namespace Go.Proofs.YtgdcgjlmkmdklaaGreatDoor
open Go.ChangeShapes Go.WideShapes Go.ChangeAt Go.RowKit
open Go.Sort (grow)
set_option linter.unusedVariables false
set_option linter.unusedSimpArgs false
set_option maxRecDepth 100000 in
set_option maxHeartbeats 2000000 in
theorem eqInts (v u : Value) (xs : List Int) (w : World) {lo l2 : Nat} (h : Ints lo .i64 w v xs) (k : Ints l2 .i64 w u xs) (hn : xs.length ≤ 1048576) :
  Calls Tryz.prog 111 #[v, u] w fun e w' => e = .returned (.bool true) ∧ Below w.heap.size w w' := by
 obtain ⟨b, o, ⟨⟨a, cap, rfl, h1, h2⟩, h3⟩, -, hc⟩ := h.ex
 obtain ⟨b', o', ⟨⟨a', cap', rfl, h1', h2'⟩, h3'⟩, -, hc'⟩ := k.ex
 have g1 : (xs.length : Int) ≤ 1048576 := by omega
 have HC : Kp (∀ i (h : i < xs.length), At w b (o + i) (.int .i64 xs[i]) ∧ At w b' (o' + i) (.int .i64 xs[i])) := ⟨fun i h => ⟨hc i h, hc' i h⟩⟩
 have H2 : Kp (0 < xs.length → a = some ⟨b, o, none⟩ ∧ a' = some ⟨b', o', none⟩) := ⟨fun q => ⟨h2 q, h2' q⟩⟩
 clear hc hc' h k h2 h2'
 go_enter Tryz.func111, Tryz.ntmps111
 exact tl13
set_option maxRecDepth 100000 in
set_option maxHeartbeats 2000000 in
theorem eqWords (v u : Value) (xs : List Int) (w : World) {lo l2 : Nat} (h : Ints lo .u64 w v xs) (k : Ints l2 .u64 w u xs) (hn : xs.length ≤ 1048576) :
  Calls Tryz.prog 182 #[v, u] w fun e w' => e = .returned (.bool true) ∧ Below w.heap.size w w' := by
 obtain ⟨b, o, ⟨⟨a, cap, rfl, h1, h2⟩, h3⟩, -, hc⟩ := h.ex
 obtain ⟨b', o', ⟨⟨a', cap', rfl, h1', h2'⟩, h3'⟩, -, hc'⟩ := k.ex
 have g1 : (xs.length : Int) ≤ 1048576 := by omega
 have HC : Kp (∀ i (h : i < xs.length), At w b (o + i) (.int .u64 xs[i]) ∧ At w b' (o' + i) (.int .u64 xs[i])) := ⟨fun i h => ⟨hc i h, hc' i h⟩⟩
 have H2 : Kp (0 < xs.length → a = some ⟨b, o, none⟩ ∧ a' = some ⟨b', o', none⟩) := ⟨fun q => ⟨h2 q, h2' q⟩⟩
 clear hc hc' h k h2 h2'
 go_enter Tryz.func182, Tryz.ntmps182
 exact tl13
set_option maxRecDepth 100000 in
set_option maxHeartbeats 2000000 in
theorem eqOp (k t i x : Int) (w : World) :
  Calls Tryz.prog 186 #[.agg #[.int .i64 k, .int .i64 t, .int .i64 i, .int .u64 x], .agg #[.int .i64 k, .int .i64 t, .int .i64 i, .int .u64 x]] w fun e w' => e = .returned (.bool true) ∧ Below w.heap.size w w' := by
 go_enter Tryz.func186, Tryz.ntmps186
 exact tl11
set_option maxRecDepth 100000 in
set_option maxHeartbeats 2000000 in
theorem eqOps (v u : Value) (xs : List OpD) (w : World) {lo l2 : Nat} (h : Ops lo w v xs) (k : Ops l2 w u xs) (hn : xs.length ≤ 1048576) :
  Calls Tryz.prog 181 #[v, u] w fun e w' => e = .returned (.bool true) ∧ Below w.heap.size w w' := by
 obtain ⟨b, o, ⟨⟨a, cap, rfl, h1, h2⟩, h3⟩, -, hc⟩ := h.ex
 obtain ⟨b', o', ⟨⟨a', cap', rfl, h1', h2'⟩, h3'⟩, -, hc'⟩ := k.ex
 have g1 : (xs.length : Int) ≤ 1048576 := by omega
 have HC : Kp (∀ i (h : i < xs.length), OpAt w b (o + i * 4) xs[i] ∧ OpAt w b' (o' + i * 4) xs[i]) := ⟨fun i h => ⟨hc i h, hc' i h⟩⟩
 have H2 : Kp (0 < xs.length → a = some ⟨b, o, none⟩ ∧ a' = some ⟨b', o', none⟩) := ⟨fun q => ⟨h2 q, h2' q⟩⟩
 clear hc hc' h k h2 h2'
 go_enter Tryz.func181, Tryz.ntmps181
 go_wp2_with fail
 go_loopw [5] (fun s wr => ∃ i : Nat, i ≤ xs.length ∧ s = .int .i64 i ∧ Below w.heap.size w wr) (fun s _ => xs.length - (intOf s).toNat)
 case atStart => exact ⟨0, Nat.zero_le _, rfl, Below.refl _ _⟩
 case round =>
  obtain ⟨i, hi, rfl, hB⟩ := hrel
  by_cases hlt : i < xs.length
  ·obtain ⟨rfl, rfl⟩ := H2.out (by omega)
   obtain ⟨c0, c1, c2, c3⟩ := (HC.out i hlt).1.keep hB
   obtain ⟨d0, d1, d2, d3⟩ := (HC.out i hlt).2.keep hB
   generalize xs[i] = d at c0 c1 c2 c3 d0 d1 d2 d3
   go_upto_region 6 with fail
   have k0 := cell_regrown c0
   have k1 := cell_regrown c1
   have k2 := cell_regrown c2
   have k3 := cell_regrown c3
   have m0 := cell_regrown d0
   have m1 := cell_regrown d1
   have m2 := cell_regrown d2
   have m3 := cell_regrown d3
   have C := Kp.mk (fun dq osq => Calls.regrown_of (eqOp d.k d.t d.i d.w (grow (redrawn wr dq) osq)))
   refine wp_region_quiet_below (by kernel_rfl) (by kernel_rfl) ?_
   repeat (quiet_step (fail))
   quiet_step (exact C.out _ _)
   repeat (quiet_step (fail))
   refine wpQuiet_nil ?_
   intro _ hw'
   obtain ⟨⟨dq, osq⟩, hw''⟩ := hw'
   subst hw''
   have hB2 := bel_trans hB (below_regrown wr dq osq)
   clear k0 k1 k2 k3 m0 m1 m2 m3 c0 c1 c2 c3 d0 d1 d2 d3 C
   exact tl143
  ·go_wp2_with fail
   go_ret
   exact ⟨rfl, hB⟩
end Go.Proofs.YtgdcgjlmkmdklaaGreatDoor
