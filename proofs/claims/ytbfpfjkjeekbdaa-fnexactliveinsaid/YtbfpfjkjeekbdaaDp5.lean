/- Contracts of the laws' helpers that copy an instruction. -/
import Derived.Test.YtbfpfjkjeekbdaaDp4
namespace Go.Proofs.Ytbfpfjkjeekbdaa
open Go.ChangeShapes Go.WideShapes Go.ChangeAt Go.RowKit
set_option linter.unusedVariables false
set_option linter.unusedSimpArgs false
theorem al_at (w : World) (arr : Array Value) (t : TypeId) {j : Nat} {v : Value} (h : arr[j]? = some v) : At (w.alloc (.cells arr t)) w.heap.size j v := by
  obtain ⟨hj, e⟩ := Array.getElem?_eq_some_iff.1 h
  have r := World.rowIs_alloc w arr t (fun j => arr.getD j undef) (fun j hj => by simp [Array.getD, hj])
  have c := r.cell hj
  simp only [Array.getD, hj, dif_pos] at c
  rw [← e]
  exact c
theorem bel_set {H b k : Nat} {w W : World} (h : Below H w W) (l : H ≤ b) (x : Value) : Below H w (W.setCell ⟨b, k, none⟩ x) := h.setCell l x
/-- Nine cells written, one behind the other. -/
abbrev W9 (w : World) (B i : Nat) (x0 x1 x2 x3 x4 x5 x6 x7 x8 : Value) : World := (((((((((w.setCell ⟨B, i, none⟩ x0).setCell ⟨B, i + 1, none⟩ x1).setCell ⟨B, i + 2, none⟩ x2).setCell ⟨B, i + 3, none⟩ x3).setCell ⟨B, i + 4, none⟩ x4).setCell ⟨B, i + 5, none⟩ x5).setCell ⟨B, i + 6, none⟩ x6).setCell ⟨B, i + 7, none⟩ x7).setCell ⟨B, i + 8, none⟩ x8)
theorem put9 {w : World} {B n i : Nat} (h : Rw w B n) (hi : i + 8 < n) (x0 x1 x2 x3 x4 x5 x6 x7 x8 : Value) :
    (At (W9 w B i x0 x1 x2 x3 x4 x5 x6 x7 x8) B i x0 ∧ At (W9 w B i x0 x1 x2 x3 x4 x5 x6 x7 x8) B (i + 1) x1 ∧ At (W9 w B i x0 x1 x2 x3 x4 x5 x6 x7 x8) B (i + 2) x2 ∧ At (W9 w B i x0 x1 x2 x3 x4 x5 x6 x7 x8) B (i + 3) x3 ∧ At (W9 w B i x0 x1 x2 x3 x4 x5 x6 x7 x8) B (i + 4) x4 ∧ At (W9 w B i x0 x1 x2 x3 x4 x5 x6 x7 x8) B (i + 5) x5 ∧ At (W9 w B i x0 x1 x2 x3 x4 x5 x6 x7 x8) B (i + 6) x6 ∧ At (W9 w B i x0 x1 x2 x3 x4 x5 x6 x7 x8) B (i + 7) x7 ∧ At (W9 w B i x0 x1 x2 x3 x4 x5 x6 x7 x8) B (i + 8) x8) ∧ Rw (W9 w B i x0 x1 x2 x3 x4 x5 x6 x7 x8) B n ∧ ∀ b o v, At w b o v → (b ≠ B ∨ o < i ∨ i + 8 < o) → At (W9 w B i x0 x1 x2 x3 x4 x5 x6 x7 x8) b o v := by
  have h0 := h.set i x0
  have h1 := h0.set (i + 1) x1
  have h2 := h1.set (i + 2) x2
  have h3 := h2.set (i + 3) x3
  have h4 := h3.set (i + 4) x4
  have h5 := h4.set (i + 5) x5
  have h6 := h5.set (i + 6) x6
  have h7 := h6.set (i + 7) x7
  refine ⟨⟨?_, ?_, ?_, ?_, ?_, ?_, ?_, ?_, ?_⟩, h7.set _ _, fun b o v q hn => ?_⟩
  · exact set_other (set_other (set_other (set_other (set_other (set_other (set_other (set_other (set_same h (by omega) _) (by omega)) (by omega)) (by omega)) (by omega)) (by omega)) (by omega)) (by omega)) (by omega)
  · exact set_other (set_other (set_other (set_other (set_other (set_other (set_other (set_same h0 (by omega) _) (by omega)) (by omega)) (by omega)) (by omega)) (by omega)) (by omega)) (by omega)
  · exact set_other (set_other (set_other (set_other (set_other (set_other (set_same h1 (by omega) _) (by omega)) (by omega)) (by omega)) (by omega)) (by omega)) (by omega)
  · exact set_other (set_other (set_other (set_other (set_other (set_same h2 (by omega) _) (by omega)) (by omega)) (by omega)) (by omega)) (by omega)
  · exact set_other (set_other (set_other (set_other (set_same h3 (by omega) _) (by omega)) (by omega)) (by omega)) (by omega)
  · exact set_other (set_other (set_other (set_same h4 (by omega) _) (by omega)) (by omega)) (by omega)
  · exact set_other (set_other (set_same h5 (by omega) _) (by omega)) (by omega)
  · exact set_other (set_same h6 (by omega) _) (by omega)
  · exact set_same h7 (by omega) _
  · exact set_other (set_other (set_other (set_other (set_other (set_other (set_other (set_other (set_other (q) (by omega)) (by omega)) (by omega)) (by omega)) (by omega)) (by omega)) (by omega)) (by omega)) (by omega)
/-- The three objects of a copy of an instruction: the argument, the place of the answer, the copy. -/
structure St (H : Nat) (W : World) (op ty fl pr ca sz : Int) (vb vw x6 x7 x8 : Value) : Prop where
  b7 : At W H 7 vb
  b8 : At W H 8 vw
  r1 : Rw W (H + 1) 9
  r2 : Rw W (H + 1 + 1) 9
  o0 : At W (H + 1 + 1) 0 (.int .i64 op)
  o1 : At W (H + 1 + 1) 1 (.int .i64 ty)
  o2 : At W (H + 1 + 1) 2 (.int .i64 fl)
  o3 : At W (H + 1 + 1) 3 (.int .i64 pr)
  o4 : At W (H + 1 + 1) 4 (.int .i64 ca)
  o5 : At W (H + 1 + 1) 5 (.int .i64 sz)
  o6 : At W (H + 1 + 1) 6 x6
  o7 : At W (H + 1 + 1) 7 x7
  o8 : At W (H + 1 + 1) 8 x8
theorem St.keep {H : Nat} {W W' : World} {op ty fl pr ca sz : Int} {vb vw x6 x7 x8 : Value} (h : St H W op ty fl pr ca sz vb vw x6 x7 x8) (hb : Below W.heap.size W W') : St H W' op ty fl pr ca sz vb vw x6 x7 x8 :=
  ⟨at_keep h.b7 hb, at_keep h.b8 hb, h.r1.keep hb, h.r2.keep hb, at_keep h.o0 hb, at_keep h.o1 hb, at_keep h.o2 hb, at_keep h.o3 hb, at_keep h.o4 hb, at_keep h.o5 hb, at_keep h.o6 hb, at_keep h.o7 hb, at_keep h.o8 hb⟩
theorem Rw.sets {w : World} {B n : Nat} (h : Rw w B n) (b k : Nat) (x : Value) : Rw (w.setCell ⟨b, k, none⟩ x) B n := by
  by_cases e : b = B
  · subst e; exact h.set k x
  · obtain ⟨t, f, r⟩ := h.ex
    exact ⟨t, f, r.setOther (a := ⟨b, k, none⟩) (fun q => e q.symm) x⟩
theorem St.set6 {H : Nat} {W : World} {op ty fl pr ca sz : Int} {vb vw x6 x7 x8 : Value} (h : St H W op ty fl pr ca sz vb vw x6 x7 x8) (y : Value) : St H (W.setCell ⟨H + 1 + 1, 6, none⟩ y) op ty fl pr ca sz vb vw y x7 x8 :=
  ⟨set_other h.b7 (by omega), set_other h.b8 (by omega), h.r1.sets _ _ _, h.r2.sets _ _ _, set_other h.o0 (by omega), set_other h.o1 (by omega), set_other h.o2 (by omega), set_other h.o3 (by omega), set_other h.o4 (by omega), set_other h.o5 (by omega), set_same h.r2 (by omega) _, set_other h.o7 (by omega), set_other h.o8 (by omega)⟩
theorem St.set7 {H : Nat} {W : World} {op ty fl pr ca sz : Int} {vb vw x6 x7 x8 : Value} (h : St H W op ty fl pr ca sz vb vw x6 x7 x8) (y : Value) : St H (W.setCell ⟨H + 1 + 1, 7, none⟩ y) op ty fl pr ca sz vb vw x6 y x8 :=
  ⟨set_other h.b7 (by omega), set_other h.b8 (by omega), h.r1.sets _ _ _, h.r2.sets _ _ _, set_other h.o0 (by omega), set_other h.o1 (by omega), set_other h.o2 (by omega), set_other h.o3 (by omega), set_other h.o4 (by omega), set_other h.o5 (by omega), set_other h.o6 (by omega), set_same h.r2 (by omega) _, set_other h.o8 (by omega)⟩
set_option maxRecDepth 100000 in
set_option maxHeartbeats 2000000 in
theorem toIn (d : InD) (va vb vw : Value) (w : World) {lo : Nat} (h : InV lo w va vb vw d) (hn : inN d ≤ 1048576) :
    Calls Try.prog 85 #[inV d va vb vw] w fun e w' => ∃ va' vb' vw', e = .returned (inV d va' vb' vw') ∧ InV w.heap.size w' va' vb' vw' d ∧ Below w.heap.size w w' ∧ Unf w.heap.size w' := by
  unfold inN at hn
  obtain ⟨op, ty, fl, pr, ca, sz, args, bl, ws⟩ := d
  obtain ⟨ha, hb, hw⟩ := h
  dsimp only [inV] at *
  have HA : Kp (∀ W, Below w.heap.size w W → Ops lo W va args) := ⟨fun W q => ha.keep q⟩
  have HB : Kp (∀ W, Below w.heap.size w W → Ints lo .i64 W vb bl) := ⟨fun W q => hb.keep q⟩
  have HW : Kp (∀ W, Below w.heap.size w W → Ints lo .u64 W vw ws) := ⟨fun W q => hw.keep q⟩
  have n1 : args.length ≤ 1048576 := by omega
  have n2 : bl.length ≤ 1048576 := by omega
  have n3 : ws.length ≤ 1048576 := by omega
  clear ha hb hw hn
  go_enter Try.func85, Try.ntmps85
  go_wp2_with fail
  obtain ⟨W0, hW⟩ : ∃ W0 : World, W0 = (((w.alloc (Obj.cells #[.int .i64 op, .int .i64 ty, .int .i64 fl, .int .i64 pr, .int .i64 ca, .int .i64 sz, va, vb, vw] 144)).alloc (Obj.cells #[.int .i64 0, .int .i64 0, .int .i64 0, .int .i64 0, .int .i64 0, .int .i64 0, .slice none 0 0, .slice none 0 0, .slice none 0 0] 112)).alloc (Obj.cells #[.int .i64 op, .int .i64 ty, .int .i64 fl, .int .i64 pr, .int .i64 ca, .int .i64 sz, .slice none 0 0, .slice none 0 0, .slice none 0 0] 112)) := ⟨_, rfl⟩
  rw [← hW]
  have S0 : St w.heap.size W0 op ty fl pr ca sz vb vw (.slice none 0 0) (.slice none 0 0) (.slice none 0 0) := by
    subst hW
    refine ⟨?_, ?_, ?_, ?_, ?_, ?_, ?_, ?_, ?_, ?_, ?_, ?_, ?_⟩
    · exact at_keep (at_keep (al_at _ _ _ rfl) (bel_alloc _ _)) (bel_alloc _ _)
    · exact at_keep (at_keep (al_at _ _ _ rfl) (bel_alloc _ _)) (bel_alloc _ _)
    · have q := (al_rw (w.alloc (Obj.cells #[.int .i64 op, .int .i64 ty, .int .i64 fl, .int .i64 pr, .int .i64 ca, .int .i64 sz, va, vb, vw] 144)) #[.int .i64 0, .int .i64 0, .int .i64 0, .int .i64 0, .int .i64 0, .int .i64 0, .slice none 0 0, .slice none 0 0, .slice none 0 0] 112)
      rw [World.size_alloc] at q
      exact q.keep (bel_alloc _ _)
    · have q := (al_rw ((w.alloc (Obj.cells #[.int .i64 op, .int .i64 ty, .int .i64 fl, .int .i64 pr, .int .i64 ca, .int .i64 sz, va, vb, vw] 144)).alloc (Obj.cells #[.int .i64 0, .int .i64 0, .int .i64 0, .int .i64 0, .int .i64 0, .int .i64 0, .slice none 0 0, .slice none 0 0, .slice none 0 0] 112)) #[.int .i64 op, .int .i64 ty, .int .i64 fl, .int .i64 pr, .int .i64 ca, .int .i64 sz, .slice none 0 0, .slice none 0 0, .slice none 0 0] 112)
      rw [World.size_alloc, World.size_alloc] at q
      exact q
    all_goals
      rw [show w.heap.size + 1 + 1 = ((w.alloc (Obj.cells #[.int .i64 op, .int .i64 ty, .int .i64 fl, .int .i64 pr, .int .i64 ca, .int .i64 sz, va, vb, vw] 144)).alloc (Obj.cells #[.int .i64 0, .int .i64 0, .int .i64 0, .int .i64 0, .int .i64 0, .int .i64 0, .slice none 0 0, .slice none 0 0, .slice none 0 0] 112)).heap.size by rw [World.size_alloc, World.size_alloc]]
      exact al_at _ _ _ rfl
  have B0 : Below w.heap.size w W0 := by
    rw [hW]
    exact bel_trans (bel_trans (bel_alloc _ _) (bel_alloc _ _)) (bel_alloc _ _)
  have U0 : Kp (Unf w.heap.size W0) := ⟨by rw [hW]; exact (((Unf.top w).cells _ _).cells _ _).cells _ _⟩
  have z0 : W0.heap.size = w.heap.size + 1 + 1 + 1 := by
    rw [hW, World.size_alloc, World.size_alloc, World.size_alloc]
  clear hW
  refine (toOps va args W0 (HA.out _ B0) n1).mono ?_
  rintro e w1 ⟨va', rfl, hA, hb1, hu1⟩
  have U1 : Kp (Unf w.heap.size (w1.setCell ⟨w.heap.size + 1 + 1, 6, none⟩ va')) := ⟨(U0.out.call hb1 hu1).set _ _ _⟩
  clear hu1 U0
  have S1k := Kp.mk (S0.keep hb1)
  have B1 := bel_trans B0 hb1
  rw [z0] at hA
  clear S0 hb1
  have HA1 := Kp.mk hA
  obtain ⟨a1, k1, rfl⟩ : ∃ a k, va' = .slice a args.length k := by
    obtain ⟨_, _, s, -, -⟩ := hA.ex
    obtain ⟨a, k, e, -, -⟩ := s.ex
    exact ⟨a, k, e⟩
  clear hA z0
  obtain ⟨b7, b8, r1, r2, o0, o1, o2, o3, o4, o5, o6, o7, o8⟩ := S1k.out
  obtain ⟨_, _, f6⟩ := r2.at (j := 6) (by omega)
  go_wp2_with fail
  have S2 := S1k.out.set6 (.slice a1 args.length k1)
  have B2 := bel_set (k := 6) B1 (show w.heap.size ≤ w.heap.size + 1 + 1 by omega) (.slice a1 args.length k1)
  have HA2 := Kp.mk (HA1.out.mono (Nat.le_refl _) (keeps_set (B := w.heap.size + 1 + 1) (k := 6) (x := .slice a1 args.length k1) (by omega)))
  clear b7 b8 r1 r2 o0 o1 o2 o3 o4 o5 o6 o7 o8 f6 S1k HA1 B1
  generalize w1.setCell ⟨w.heap.size + 1 + 1, 6, none⟩ (.slice a1 args.length k1) = W1 at S2 B2 HA2 U1 ⊢
  have z1 : w.heap.size + 1 + 1 + 1 ≤ W1.heap.size := S2.r2.lt
  refine (toInts vb bl W1 (HB.out _ B2) n2).mono ?_
  rintro e w2 ⟨vb', rfl, hI, hb2, hu2⟩
  have U2 : Kp (Unf w.heap.size (w2.setCell ⟨w.heap.size + 1 + 1, 7, none⟩ vb')) := ⟨(U1.out.call hb2 hu2).set _ _ _⟩
  clear hu2 U1
  have S3k := Kp.mk (S2.keep hb2)
  have B3 := bel_trans B2 hb2
  have HA3 := Kp.mk (HA2.out.keep hb2)
  have HI3 := Kp.mk (hI.mono z1 (fun _ _ _ _ h => h))
  obtain ⟨a2, k2, rfl⟩ : ∃ a k, vb' = .slice a bl.length k := by
    obtain ⟨_, _, s, -, -⟩ := hI.ex
    obtain ⟨a, k, e, -, -⟩ := s.ex
    exact ⟨a, k, e⟩
  clear hI z1 S2 B2 HA2 hb2
  obtain ⟨b7, b8, r1, r2, o0, o1, o2, o3, o4, o5, o6, o7, o8⟩ := S3k.out
  obtain ⟨_, _, f7⟩ := r2.at (j := 7) (by omega)
  go_wp2_with fail
  have S4 := S3k.out.set7 (.slice a2 bl.length k2)
  have B4 := bel_set (k := 7) B3 (show w.heap.size ≤ w.heap.size + 1 + 1 by omega) (.slice a2 bl.length k2)
  have HA4 := Kp.mk (HA3.out.mono (Nat.le_refl _) (keeps_set (B := w.heap.size + 1 + 1) (k := 7) (x := .slice a2 bl.length k2) (by omega)))
  have HI4 := Kp.mk (HI3.out.mono (Nat.le_refl _) (keeps_set (B := w.heap.size + 1 + 1) (k := 7) (x := .slice a2 bl.length k2) (by omega)))
  clear b7 b8 r1 r2 o0 o1 o2 o3 o4 o5 o6 o7 o8 f7 S3k HA3 HI3 B3
  generalize w2.setCell ⟨w.heap.size + 1 + 1, 7, none⟩ (.slice a2 bl.length k2) = W2 at S4 B4 HA4 HI4 U2 ⊢
  have z2 : w.heap.size + 1 + 1 + 1 ≤ W2.heap.size := S4.r2.lt
  refine (toWords vw ws W2 (HW.out _ B4) n3).mono ?_
  rintro e w3 ⟨vw', rfl, hI, hb3, hu3⟩
  have U3 : Kp (Unf w.heap.size w3) := ⟨U2.out.call hb3 hu3⟩
  clear hu3 U2
  have S5k := Kp.mk (S4.keep hb3)
  have B5 := Kp.mk (bel_trans B4 hb3)
  have HA5 := Kp.mk (HA4.out.keep hb3)
  have HI5 := Kp.mk (HI4.out.keep hb3)
  have HJ5 := Kp.mk (hI.mono z2 (fun _ _ _ _ h => h))
  obtain ⟨a3, k3, rfl⟩ : ∃ a k, vw' = .slice a ws.length k := by
    obtain ⟨_, _, s, -, -⟩ := hI.ex
    obtain ⟨a, k, e, -, -⟩ := s.ex
    exact ⟨a, k, e⟩
  clear hI z2 S4 B4 HA4 HI4 hb3
  obtain ⟨b7, b8, r1, r2, o0, o1, o2, o3, o4, o5, o6, o7, o8⟩ := S5k.out
  obtain ⟨_, _, f8⟩ := r2.at (j := 8) (by omega)
  obtain ⟨y0, c0, g0⟩ := r1.at (j := 0) (by omega)
  obtain ⟨y1, c1, g1⟩ := r1.at (j := 1) (by omega)
  obtain ⟨y2, c2, g2⟩ := r1.at (j := 2) (by omega)
  obtain ⟨y3, c3, g3⟩ := r1.at (j := 3) (by omega)
  obtain ⟨y4, c4, g4⟩ := r1.at (j := 4) (by omega)
  obtain ⟨y5, c5, g5⟩ := r1.at (j := 5) (by omega)
  obtain ⟨y6, c6, g6⟩ := r1.at (j := 6) (by omega)
  obtain ⟨y7, c7, g7⟩ := r1.at (j := 7) (by omega)
  obtain ⟨y8, c8, g8⟩ := r1.at (j := 8) (by omega)
  go_wp2_with fail
  have P := put9 (r1.sets (w.heap.size + 1 + 1) 8 (.slice a3 ws.length k3)) (i := 0) (by omega) (.int .i64 op) (.int .i64 ty) (.int .i64 fl) (.int .i64 pr) (.int .i64 ca) (.int .i64 sz) (.slice a1 args.length k1) (.slice a2 bl.length k2) (.slice a3 ws.length k3)
  have PB := bel_set (k := 8) B5.out (show w.heap.size ≤ w.heap.size + 1 + 1 by omega) (.slice a3 ws.length k3)
  have K5 : Keeps (w.heap.size + 1 + 1 + 1) w3 (w3.setCell ⟨w.heap.size + 1 + 1, 8, none⟩ (.slice a3 ws.length k3)) := keeps_set (by omega)
  have K6 : Keeps (w.heap.size + 1 + 1 + 1) (w3.setCell ⟨w.heap.size + 1 + 1, 8, none⟩ (.slice a3 ws.length k3)) (W9 (w3.setCell ⟨w.heap.size + 1 + 1, 8, none⟩ (.slice a3 ws.length k3)) (w.heap.size + 1) 0 (.int .i64 op) (.int .i64 ty) (.int .i64 fl) (.int .i64 pr) (.int .i64 ca) (.int .i64 sz) (.slice a1 args.length k1) (.slice a2 bl.length k2) (.slice a3 ws.length k3)) := fun b o v l q => P.2.2 b o v q (by omega)
  have V : InV w.heap.size _ (.slice a1 args.length k1) (.slice a2 bl.length k2) (.slice a3 ws.length k3) ⟨op, ty, fl, pr, ca, sz, args, bl, ws⟩ :=
    InV.mono (lo := w.heap.size + 1 + 1 + 1) ⟨HA5.out.mono (Nat.le_refl _) (K5.trans K6), HI5.out.mono (Nat.le_refl _) (K5.trans K6), HJ5.out.mono (Nat.le_refl _) (K5.trans K6)⟩ (by omega) (fun _ _ _ _ h => h)
  have PZ : Below w.heap.size w (W9 (w3.setCell ⟨w.heap.size + 1 + 1, 8, none⟩ (.slice a3 ws.length k3)) (w.heap.size + 1) 0 (.int .i64 op) (.int .i64 ty) (.int .i64 fl) (.int .i64 pr) (.int .i64 ca) (.int .i64 sz) (.slice a1 args.length k1) (.slice a2 bl.length k2) (.slice a3 ws.length k3)) := by
    have l : w.heap.size ≤ w.heap.size + 1 := by omega
    exact bel_set (bel_set (bel_set (bel_set (bel_set (bel_set (bel_set (bel_set (bel_set PB l _) l _) l _) l _) l _) l _) l _) l _) l _
  obtain ⟨⟨p0, p1, p2, p3, p4, p5, p6, p7, p8⟩, -, -⟩ := P
  refine bodyPost_ret (v := .agg #[.int .i64 op, .int .i64 ty, .int .i64 fl, .int .i64 pr, .int .i64 ca, .int .i64 sz, .slice a1 args.length k1, .slice a2 bl.length k2, .slice a3 ws.length k3]) ?_ rfl ⟨_, _, _, rfl, V, PZ, (((((((((U3.out.set _ _ _).set _ _ _).set _ _ _).set _ _ _).set _ _ _).set _ _ _).set _ _ _).set _ _ _).set _ _ _).set _ _ _⟩
  clear V PZ K5 K6 PB B5 HA5 HI5 HJ5 S5k b7 b8 o0 o1 o2 o3 o4 o5 o6 o7 o8 f8 r2
  simp [results, Try.results85, go_sem, c0, c1, c2, c3, c4, c5, c6, c7, c8]
end Go.Proofs.Ytbfpfjkjeekbdaa
