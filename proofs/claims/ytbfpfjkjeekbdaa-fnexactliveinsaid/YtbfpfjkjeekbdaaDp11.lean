/- Contracts of the laws' helpers that compare blocks and functions, where both sides hold the same. -/
import Derived.Test.YtbfpfjkjeekbdaaDp10
namespace Go.Proofs.Ytbfpfjkjeekbdaa
open Go.ChangeShapes Go.WideShapes Go.ChangeAt Go.RowKit
open Go.Sort (grow)
set_option linter.unusedVariables false
set_option linter.unusedSimpArgs false
set_option maxRecDepth 100000 in
set_option maxHeartbeats 2000000 in
theorem eqBl (xs : List InD) (vi ui : Value) (w : World) {lo l2 : Nat} (h : Ins lo w vi xs) (k : Ins l2 w ui xs) (hn : blN xs ≤ 1048576) :
    Calls Try.prog 57 #[.agg #[vi], .agg #[ui]] w fun e w' => e = .returned (.bool true) ∧ Below w.heap.size w w' := by
  obtain ⟨a1, k1, rfl⟩ := h.shape
  obtain ⟨b1, l1, rfl⟩ := k.shape
  have H := Kp.mk h
  have K := Kp.mk k
  clear h k
  go_enter Try.func57, Try.ntmps57
  go_wp2_with fail
  obtain ⟨W0, hW⟩ : ∃ W0 : World, W0 = ((w.alloc (Obj.cells #[.slice a1 xs.length k1] 91)).alloc (Obj.cells #[.slice b1 xs.length l1] 91)) := ⟨_, rfl⟩
  rw [← hW]
  obtain ⟨B0, -, -⟩ := two w _ _ _ _ hW
  clear hW
  refine (eqInss _ _ xs W0 (H.out.keep B0) (K.out.keep B0) hn).mono ?_
  rintro e w1 ⟨rfl, hb1⟩
  have B1 := bel_trans B0 hb1
  clear hb1 B0
  go_wp2_with fail
  go_ret
  exact ⟨rfl, B1⟩
set_option maxRecDepth 100000 in
set_option maxHeartbeats 2000000 in
theorem eqBls (v u : Value) (xs : List (List InD)) (w : World) {lo l2 : Nat} (h : Bls lo w v xs) (k : Bls l2 w u xs) (hn : xs.length + blsN xs ≤ 1048576) :
    Calls Try.prog 34 #[v, u] w fun e w' => e = .returned (.bool true) ∧ Below w.heap.size w w' := by
  obtain ⟨b, o, ⟨⟨a, cap, rfl, h1, h2⟩, h3⟩, -, hc⟩ := h.ex
  obtain ⟨b', o', ⟨⟨a', cap', rfl, h1', h2'⟩, h3'⟩, -, hc'⟩ := k.ex
  have Hn := blsN_of xs
  have hnn := Hn.2
  have hN : Kp (∀ i (h : i < xs.length), blN xs[i] ≤ 1048576) := ⟨fun i h => by have := Hn.1 i h; omega⟩
  have g1 : (xs.length : Int) ≤ 1048576 := by omega
  have HC : Kp (∀ i (h : i < xs.length), (∃ vi, At w b (o + i) vi ∧ Ins lo w vi xs[i]) ∧ ∃ vi, At w b' (o' + i) vi ∧ Ins l2 w vi xs[i]) := ⟨fun i h => ⟨hc i h, hc' i h⟩⟩
  have H2 : Kp (0 < xs.length → a = some ⟨b, o, none⟩ ∧ a' = some ⟨b', o', none⟩) := ⟨fun q => ⟨h2 q, h2' q⟩⟩
  clear hc hc' h k h2 h2' Hn hnn hn
  go_enter Try.func34, Try.ntmps34
  go_wp2_with fail
  go_loopw [5] (fun s wr => ∃ i : Nat, i ≤ xs.length ∧ s = .int .i64 i ∧ Below w.heap.size w wr) (fun s _ => xs.length - (intOf s).toNat)
  case atStart => exact ⟨0, Nat.zero_le _, rfl, Below.refl _ _⟩
  case round =>
    obtain ⟨i, hi, rfl, hB⟩ := hrel
    by_cases hlt : i < xs.length
    · obtain ⟨rfl, rfl⟩ := H2.out (by omega)
      obtain ⟨⟨vi, c0, hq⟩, ⟨ui, d0, hr⟩⟩ := HC.out i hlt
      have nd := hN.out i hlt
      replace c0 := at_keep c0 hB
      replace d0 := at_keep d0 hB
      have hv := hq.keep hB
      have hu := hr.keep hB
      clear hq hr
      obtain ⟨d, hd⟩ : ∃ d, Kp (xs[i] = d) := ⟨_, ⟨rfl⟩⟩
      rw [hd.out] at hv nd hu
      obtain ⟨a1, k1, rfl⟩ := hv.shape
      obtain ⟨b1, l1, rfl⟩ := hu.shape
      have C := Kp.mk (fun dq osq => Calls.regrown_of (eqBl d _ _ (grow (redrawn wr dq) osq) (hv.keep (below_regrown wr dq osq)) (hu.keep (below_regrown wr dq osq)) nd))
      clear hv hu nd
      go_upto_region 6 with fail
      replace c0 := cell_regrown c0
      replace d0 := cell_regrown d0
      refine wp_region_quiet_below (by kernel_rfl) (by kernel_rfl) ?_
      repeat (quiet_step (fail))
      quiet_step (exact C.out _ _)
      repeat (quiet_step (fail))
      refine wpQuiet_nil ?_
      intro _ hw'
      obtain ⟨⟨dq, osq⟩, hw''⟩ := hw'
      subst hw''
      have hB2 := bel_trans hB (below_regrown wr dq osq)
      clear c0 d0 C
      generalize grow (redrawn wr dq) osq = V at *
      go_wp2_with fail
      exact ⟨⟨i + 1, by omega, by go_num, hB2⟩, by simp [intOf]; omega⟩
    · go_wp2_with fail
      go_ret
      exact ⟨rfl, hB⟩
set_option maxRecDepth 100000 in
set_option maxHeartbeats 2000000 in
theorem eqFn (d : FnD) (vp vb up ub : Value) (w : World) {lo l2 : Nat} (h : FnAt lo w d vp vb) (k : FnAt l2 w d up ub) (hn : fnN d ≤ 1048576) :
    Calls Try.prog 11 #[fnV d vp vb, fnV d up ub] w fun e w' => e = .returned (.bool true) ∧ Below w.heap.size w w' := by
  unfold fnN at hn
  obtain ⟨name, link, params, res, blocks⟩ := d
  obtain ⟨-, hp, hb⟩ := h
  obtain ⟨-, kp, kb⟩ := k
  dsimp only [fnV] at *
  have nn := blsN_nn blocks
  have n1 : params.length ≤ 1048576 := by omega
  have n2 : blocks.length + blsN blocks ≤ 1048576 := by omega
  obtain ⟨a1, k1, rfl⟩ := hp.shape
  obtain ⟨a2, k2, rfl⟩ := hb.shape
  obtain ⟨b1, l1, rfl⟩ := kp.shape
  obtain ⟨b2, l2, rfl⟩ := kb.shape
  replace hp := Kp.mk hp
  replace hb := Kp.mk hb
  replace kp := Kp.mk kp
  replace kb := Kp.mk kb
  clear hn nn
  go_enter Try.func11, Try.ntmps11
  go_wp2_with fail
  obtain ⟨W0, hW⟩ : ∃ W0 : World, W0 = ((w.alloc (Obj.cells #[.string name, .int .i64 link, .slice a1 params.length k1, .int .i64 res, .slice a2 blocks.length k2] 30)).alloc (Obj.cells #[.string name, .int .i64 link, .slice b1 params.length l1, .int .i64 res, .slice b2 blocks.length l2] 30)) := ⟨_, rfl⟩
  rw [← hW]
  obtain ⟨B0, hx, hy⟩ := two w _ _ _ _ hW
  have x3 := hx 3 _ rfl
  have x4 := hx 4 _ rfl
  have y3 := hy 3 _ rfl
  have y4 := hy 4 _ rfl
  clear hW hx hy
  refine (eqInts _ _ params W0 (hp.out.keep B0) (kp.out.keep B0) n1).mono ?_
  rintro e w1 ⟨rfl, hb1⟩
  replace x3 := at_keep x3 hb1
  replace x4 := at_keep x4 hb1
  replace y3 := at_keep y3 hb1
  replace y4 := at_keep y4 hb1
  have B1 := bel_trans B0 hb1
  clear hb1 B0
  go_wp2_with fail
  refine (eqBls _ _ blocks w1 (hb.out.keep B1) (kb.out.keep B1) n2).mono ?_
  rintro e w2 ⟨rfl, hb1⟩
  have B2 := bel_trans B1 hb1
  clear hb1 B1 x3 x4 y3 y4
  go_wp2_with fail
  go_ret
  exact ⟨rfl, B2⟩
end Go.Proofs.Ytbfpfjkjeekbdaa
