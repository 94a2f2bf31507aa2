/- Contract of the laws' helper that copies a function. -/
import Derived.Test.YtbfpfjkjeekbdaaDp7
namespace Go.Proofs.Ytbfpfjkjeekbdaa
open Go.ChangeShapes Go.WideShapes Go.ChangeAt Go.RowKit
set_option linter.unusedVariables false
set_option linter.unusedSimpArgs false
/-- The three objects of a copy of a function. -/
structure SF (H : Nat) (W : World) (name : ByteArray) (link res : Int) (vb x2 x3 x4 : Value) : Prop where
  b3 : At W H 3 (.int .i64 res)
  b4 : At W H 4 vb
  r1 : Rw W (H + 1) 5
  r2 : Rw W (H + 1 + 1) 5
  o0 : At W (H + 1 + 1) 0 (.string name)
  o1 : At W (H + 1 + 1) 1 (.int .i64 link)
  o2 : At W (H + 1 + 1) 2 x2
  o3 : At W (H + 1 + 1) 3 x3
  o4 : At W (H + 1 + 1) 4 x4
theorem SF.keep {H : Nat} {W W' : World} {name : ByteArray} {link res : Int} {vb x2 x3 x4 : Value} (h : SF H W name link res vb x2 x3 x4) (hb : Below W.heap.size W W') : SF H W' name link res vb x2 x3 x4 :=
  ⟨at_keep h.b3 hb, at_keep h.b4 hb, h.r1.keep hb, h.r2.keep hb, at_keep h.o0 hb, at_keep h.o1 hb, at_keep h.o2 hb, at_keep h.o3 hb, at_keep h.o4 hb⟩
theorem SF.set2 {H : Nat} {W : World} {name : ByteArray} {link res : Int} {vb x2 x3 x4 : Value} (h : SF H W name link res vb x2 x3 x4) (y : Value) : SF H (W.setCell ⟨H + 1 + 1, 2, none⟩ y) name link res vb y x3 x4 :=
  ⟨set_other h.b3 (by omega), set_other h.b4 (by omega), h.r1.sets _ _ _, h.r2.sets _ _ _, set_other h.o0 (by omega), set_other h.o1 (by omega), set_same h.r2 (by omega) _, set_other h.o3 (by omega), set_other h.o4 (by omega)⟩
theorem SF.set3 {H : Nat} {W : World} {name : ByteArray} {link res : Int} {vb x2 x3 x4 : Value} (h : SF H W name link res vb x2 x3 x4) (y : Value) : SF H (W.setCell ⟨H + 1 + 1, 3, none⟩ y) name link res vb x2 y x4 :=
  ⟨set_other h.b3 (by omega), set_other h.b4 (by omega), h.r1.sets _ _ _, h.r2.sets _ _ _, set_other h.o0 (by omega), set_other h.o1 (by omega), set_other h.o2 (by omega), set_same h.r2 (by omega) _, set_other h.o4 (by omega)⟩
theorem put5 {w : World} {B n : Nat} (h : Rw w B n) (hi : 4 < n) (x0 x1 x2 x3 x4 : Value) :
    ∀ b o v, At w b o v → b ≠ B → At (((((w.setCell ⟨B, 0, none⟩ x0).setCell ⟨B, 1, none⟩ x1).setCell ⟨B, 2, none⟩ x2).setCell ⟨B, 3, none⟩ x3).setCell ⟨B, 4, none⟩ x4) b o v := fun b o v q hn =>
  set_other (set_other (set_other (set_other (set_other q (.inl hn)) (.inl hn)) (.inl hn)) (.inl hn)) (.inl hn)
set_option maxRecDepth 100000 in
set_option maxHeartbeats 2000000 in
theorem toFn (d : FnD) (vp vb : Value) (w : World) {lo : Nat} (h : FnAt lo w d vp vb) (hn : fnN d ≤ 1048576) :
    Calls Try.prog 8 #[fnV d vp vb] w fun e w' => ∃ vp' vb', e = .returned (fnV d vp' vb') ∧ FnAt w.heap.size w' d vp' vb' ∧ Below w.heap.size w w' ∧ Unf w.heap.size w' := by
  unfold fnN at hn
  obtain ⟨name, link, params, res, blocks⟩ := d
  obtain ⟨hnm, hp, hb⟩ := h
  dsimp only [fnV] at *
  have nn := blsN_nn blocks
  have n1 : params.length ≤ 1048576 := by omega
  have n2 : blocks.length + blsN blocks ≤ 1048576 := by omega
  obtain ⟨a0, k0, rfl⟩ := hp.shape
  obtain ⟨b0, l0, rfl⟩ := hb.shape
  have HA : Kp (∀ W, Below w.heap.size w W → Ints lo .i64 W (.slice a0 params.length k0) params) := ⟨fun W q => hp.keep q⟩
  have HB : Kp (∀ W, Below w.heap.size w W → Bls lo W (.slice b0 blocks.length l0) blocks) := ⟨fun W q => hb.keep q⟩
  have HN := Kp.mk hnm
  clear hp hb hn nn hnm
  go_enter Try.func8, Try.ntmps8
  go_wp2_with fail
  obtain ⟨W0, hW⟩ : ∃ W0 : World, W0 = (((w.alloc (Obj.cells #[.string name, .int .i64 link, .slice a0 params.length k0, .int .i64 res, .slice b0 blocks.length l0] 25)).alloc (Obj.cells #[.string (ByteArray.mk #[]), .int .i64 0, .slice none 0 0, .int .i64 0, .slice none 0 0] 30)).alloc (Obj.cells #[.string name, .int .i64 link, .slice none 0 0, .int .i64 0, .slice none 0 0] 30)) := ⟨_, rfl⟩
  rw [← hW]
  obtain ⟨B0, z0, r1, r2, u0, hx, hz⟩ := three w _ _ _ _ _ _ hW
  have S0 : SF w.heap.size W0 name link res (.slice b0 blocks.length l0) (.slice none 0 0) (.int .i64 0) (.slice none 0 0) :=
    ⟨hx _ _ rfl, hx _ _ rfl, r1, r2, hz _ _ rfl, hz _ _ rfl, hz _ _ rfl, hz _ _ rfl, hz _ _ rfl⟩
  clear hW r1 r2 hx hz
  refine (toInts _ params W0 (HA.out _ B0) n1).mono ?_
  rintro e w1 ⟨v', rfl, hA, hb1, hu1⟩
  have U1 : Kp (Unf w.heap.size ((w1.setCell ⟨w.heap.size + 1 + 1, 2, none⟩ v').setCell ⟨w.heap.size + 1 + 1, 3, none⟩ (.int .i64 res))) := ⟨((u0.call hb1 hu1).set _ _ _).set _ _ _⟩
  clear u0 hu1
  rw [z0] at hA
  obtain ⟨a1, k1, rfl⟩ := hA.shape
  have S1k := Kp.mk (S0.keep hb1)
  have B1 := bel_trans B0 hb1
  have HA1 := Kp.mk hA
  clear hA z0 S0 hb1 B0 HA
  obtain ⟨b3, b4, r1, r2, o0, o1, o2, o3, o4⟩ := S1k.out
  obtain ⟨_, _, f2⟩ := r2.at (j := 2) (by omega)
  obtain ⟨_, _, f3⟩ := r2.at (j := 3) (by omega)
  go_wp2_with fail
  have S2 := (S1k.out.set2 (.slice a1 params.length k1)).set3 (.int .i64 res)
  have l2 : w.heap.size ≤ w.heap.size + 1 + 1 := by omega
  have B2 := bel_set (k := 3) (bel_set (k := 2) B1 l2 (.slice a1 params.length k1)) l2 (.int .i64 res)
  have K2 : Keeps (w.heap.size + 1 + 1 + 1) w1 ((w1.setCell ⟨w.heap.size + 1 + 1, 2, none⟩ (.slice a1 params.length k1)).setCell ⟨w.heap.size + 1 + 1, 3, none⟩ (.int .i64 res)) := (keeps_set (by omega)).trans (keeps_set (by omega))
  have HA2 := Kp.mk (HA1.out.mono (Nat.le_refl _) K2)
  clear b3 b4 r1 r2 o0 o1 o2 o3 o4 f2 f3 S1k HA1 B1 K2
  generalize (w1.setCell ⟨w.heap.size + 1 + 1, 2, none⟩ (.slice a1 params.length k1)).setCell ⟨w.heap.size + 1 + 1, 3, none⟩ (.int .i64 res) = W1 at S2 B2 HA2 U1 ⊢
  have z1 : w.heap.size + 1 + 1 + 1 ≤ W1.heap.size := S2.r2.lt
  refine (toBls _ blocks W1 (HB.out _ B2) n2).mono ?_
  rintro e w2 ⟨v', rfl, hI, hb2, hu2⟩
  have U2 : Kp (Unf w.heap.size w2) := ⟨U1.out.call hb2 hu2⟩
  clear hu2 U1
  obtain ⟨a2, k2, rfl⟩ := hI.shape
  have S3k := Kp.mk (S2.keep hb2)
  have B3 := Kp.mk (bel_trans B2 hb2)
  have HA3 := Kp.mk (HA2.out.keep hb2)
  have HI3 := Kp.mk (hI.mono z1 (fun _ _ _ _ h => h))
  clear hI z1 S2 B2 HA2 hb2
  obtain ⟨b3, b4, r1, r2, o0, o1, o2, o3, o4⟩ := S3k.out
  obtain ⟨_, _, f4⟩ := r2.at (j := 4) (by omega)
  obtain ⟨y0, c0, g0⟩ := r1.at (j := 0) (by omega)
  obtain ⟨y1, c1, g1⟩ := r1.at (j := 1) (by omega)
  obtain ⟨y2, c2, g2⟩ := r1.at (j := 2) (by omega)
  obtain ⟨y3, c3, g3⟩ := r1.at (j := 3) (by omega)
  obtain ⟨y4, c4, g4⟩ := r1.at (j := 4) (by omega)
  go_wp2_with fail
  have P := put5 (r1.sets (w.heap.size + 1 + 1) 4 (.slice a2 blocks.length k2)) (by omega) (.string name) (.int .i64 link) (.slice a1 params.length k1) (.int .i64 res) (.slice a2 blocks.length k2)
  have K5 : Keeps (w.heap.size + 1 + 1 + 1) w2 (w2.setCell ⟨w.heap.size + 1 + 1, 4, none⟩ (.slice a2 blocks.length k2)) := keeps_set (by omega)
  have l1 : w.heap.size ≤ w.heap.size + 1 := by omega
  have PZ := bel_set (k := 4) (bel_set (k := 3) (bel_set (k := 2) (bel_set (k := 1) (bel_set (k := 0) (bel_set (k := 4) B3.out l2 (.slice a2 blocks.length k2)) l1 (.string name)) l1 (.int .i64 link)) l1 (.slice a1 params.length k1)) l1 (.int .i64 res)) l1 (.slice a2 blocks.length k2)
  refine bodyPost_ret (v := .agg #[.string name, .int .i64 link, .slice a1 params.length k1, .int .i64 res, .slice a2 blocks.length k2]) ?_ rfl ⟨_, _, rfl, ⟨HN.out, HA3.out.mono (by omega) (K5.trans (fun b o v l q => P b o v q (by omega))), HI3.out.mono (by omega) (K5.trans (fun b o v l q => P b o v q (by omega)))⟩, PZ, (((((U2.out.set _ _ _).set _ _ _).set _ _ _).set _ _ _).set _ _ _).set _ _ _⟩
  clear PZ K5 P B3 HA3 HI3 S3k b3 b4 o0 o1 o2 o3 o4 f4 r2 HN
  simp [results, Try.results8, go_sem, c0, c1, c2, c3, c4]
end Go.Proofs.Ytbfpfjkjeekbdaa
