/- The packed texts Md2, Md3. -/
import Derived.Test.YtbnkbbcncloedaaGreatDoorRows
import Derived.WalkKit
import Derived.ProofKit
import Derived.OpenShut
import Derived.WalkLawsBesides
import Derived.Below
import Derived.BigQuiet
import Derived.Lib.QuietBelow
import Derived.Lib.AtoiErrMem
import Derived.Deep.OwnRows
import Derived.Deep.DeepCutAuto
import Derived.Test.YtbnkbbcncloedaaGreatDoorPk1
import Derived.Test.YtbnkbbcncloedaaGreatDoorPk2
import Derived.Test.YtbnkbbcncloedaaGreatDoorPk3
namespace Go.Proofs.YtbnkbbcncloedaaGreatDoor
section
open Go.ChangeShapes Go.WideShapes Go.ChangeAt Go.RowKit

set_option linter.unusedVariables false

set_option linter.unusedSimpArgs false

theorem glsN_of (xs : List GlD) : (∀ i (h : i < xs.length), glN xs[i] ≤ glsN xs) ∧ 0 ≤ glsN xs := ⟨fun i h => by
  have e1 := glsN_snoc xs i h
  have e2 := glsN_le xs (i + 1)
  have e3 := glsN_nn (xs.take i)
  omega, glsN_nn xs⟩

theorem fnsN_of (xs : List FnD) : (∀ i (h : i < xs.length), fnN xs[i] ≤ fnsN xs) ∧ 0 ≤ fnsN xs := ⟨fun i h => by
  have e1 := fnsN_snoc xs i h
  have e2 := fnsN_le xs (i + 1)
  have e3 := fnsN_nn (xs.take i)
  omega, fnsN_nn xs⟩

abbrev W5 (w : World) (B i : Nat) (x0 x1 x2 x3 x4 : Value) : World := (((((w.setCell ⟨B, i, none⟩ x0).setCell ⟨B, i + 1, none⟩ x1).setCell ⟨B, i + 2, none⟩ x2).setCell ⟨B, i + 3, none⟩ x3).setCell ⟨B, i + 4, none⟩ x4)

theorem put5i {w : World} {B n i : Nat} (h : Rw w B n) (hi : i + 4 < n) (x0 x1 x2 x3 x4 : Value) :
    (At (W5 w B i x0 x1 x2 x3 x4) B i x0 ∧ At (W5 w B i x0 x1 x2 x3 x4) B (i + 1) x1 ∧ At (W5 w B i x0 x1 x2 x3 x4) B (i + 2) x2 ∧ At (W5 w B i x0 x1 x2 x3 x4) B (i + 3) x3 ∧ At (W5 w B i x0 x1 x2 x3 x4) B (i + 4) x4) ∧ Rw (W5 w B i x0 x1 x2 x3 x4) B n ∧ ∀ b o v, At w b o v → (b ≠ B ∨ o < i ∨ i + 4 < o) → At (W5 w B i x0 x1 x2 x3 x4) b o v := by
  have h0 := h.set i x0
  have h1 := h0.set (i + 1) x1
  have h2 := h1.set (i + 2) x2
  have h3 := h2.set (i + 3) x3
  refine ⟨⟨?_, ?_, ?_, ?_, ?_⟩, h3.set _ _, fun b o v q hn => ?_⟩
  · exact set_other (set_other (set_other (set_other (set_same h (by omega) _) (by omega)) (by omega)) (by omega)) (by omega)
  · exact set_other (set_other (set_other (set_same h0 (by omega) _) (by omega)) (by omega)) (by omega)
  · exact set_other (set_other (set_same h1 (by omega) _) (by omega)) (by omega)
  · exact set_other (set_same h2 (by omega) _) (by omega)
  · exact set_same h3 (by omega) _
  · exact set_other (set_other (set_other (set_other (set_other q (by omega)) (by omega)) (by omega)) (by omega)) (by omega)

set_option maxRecDepth 100000 in
set_option maxHeartbeats 2000000 in
theorem toBytes (v : Value) (xs : List Int) (w : World) {lo : Nat} (h : Ints lo .u8 w v xs) (hn : xs.length ≤ 1048576) :
    Calls Tryz.prog 135 #[v] w fun e w' => ∃ v', e = .returned v' ∧ Ints w.heap.size .u8 w' v' xs ∧ Below w.heap.size w w' ∧ Unf w.heap.size w' := by
  obtain ⟨b, o, ⟨⟨a, cap, rfl, h1, h2⟩, h3⟩, -, hc⟩ := h.ex
  have g1 : (xs.length : Int) ≤ 1048576 := by omega
  obtain ⟨O, hmk, hrw⟩ := mk_row 69 5 (.int .u8 0) 1 1 Tryz.underlying69 (by kernel_rfl) xs.length (by omega) (by omega)
  have HR : Kp (∀ W : World, Rw (W.alloc O) W.heap.size (xs.length * 1)) := ⟨hrw⟩
  clear hrw
  go_enter Tryz.func135, Tryz.ntmps135
  go_wp2_with fail
  go_loopw [4] (fun s wr => ∃ i : Nat, i ≤ xs.length ∧ s = .int .i64 i ∧ Below w.heap.size w wr ∧ Unf w.heap.size wr ∧ Rw wr w.heap.size (xs.length * 1) ∧ ∀ j (hj : j < xs.length), j < i → At wr w.heap.size j (.int .u8 xs[j])) (fun s _ => xs.length - (intOf s).toNat)
  case atStart => exact ⟨0, Nat.zero_le _, rfl, bel_alloc _ _, Unf.new (HR.out w), HR.out w, fun j _ hj => absurd hj (Nat.not_lt_zero _)⟩
  case round =>
    obtain ⟨i, hi, rfl, hB, hU, hR, hd⟩ := hrel
    have HD : Kp _ := ⟨hd⟩
    clear hd
    by_cases hlt : i < xs.length
    · have ha := h2 (by omega)
      subst ha
      have cx := at_keep (hc i hlt) hB
      obtain ⟨z, cz, fz⟩ := hR.at (j := i) (by omega)
      clear hc
      go_wp2_with fail
      refine ⟨⟨i + 1, by omega, by go_num, hB.setCell (Nat.le_refl _) _, hU.set _ _ _, hR.set _ _, fun j hj hji => ?_⟩, by simp [intOf]; omega⟩
      by_cases e : j = i
      · subst e
        exact set_same hR (by omega) _
      · exact set_other (HD.out j hj (by omega)) (.inr e)
    · clear h2 hc hmk
      go_wp2_with fail
      go_ret
      exact ⟨_, rfl, ⟨w.heap.size, 0, ⟨⟨_, _, rfl, Nat.le_refl _, fun _ => rfl⟩, h3⟩, Nat.le_refl _, fun j hj => by rw [Nat.zero_add]; exact HD.out j hj (by omega)⟩, hB, hU⟩

set_option maxRecDepth 100000 in
set_option maxHeartbeats 2000000 in
theorem toGl (d : GlD) (vb : Value) (w : World) {lo : Nat} (h : Ints lo .u8 w vb d.bytes) (hn : glN d ≤ 1048576) :
    Calls Tryz.prog 75 #[glV d vb] w fun e w' => ∃ vb', e = .returned (glV d vb') ∧ Ints w.heap.size .u8 w' vb' d.bytes ∧ Below w.heap.size w w' ∧ Unf w.heap.size w' := by
  unfold glN at hn
  obtain ⟨name, link, fx, size, bytes⟩ := d
  dsimp only [glV] at *
  have n1 : bytes.length ≤ 1048576 := by omega
  obtain ⟨a0, k0, rfl⟩ := h.shape
  have HA : Kp (∀ W, Below w.heap.size w W → Ints lo .u8 W (.slice a0 bytes.length k0) bytes) := ⟨fun W q => h.keep q⟩
  clear h hn
  go_enter Tryz.func75, Tryz.ntmps75
  go_wp2_with fail
  obtain ⟨W0, hW⟩ : ∃ W0 : World, W0 = (((w.alloc (Obj.cells #[.string name, .int .i64 link, .bool fx, .int .i64 size, .slice a0 bytes.length k0] 125)).alloc (Obj.cells #[.string (ByteArray.mk #[]), .int .i64 0, .bool false, .int .i64 0, .slice none 0 0] 71)).alloc (Obj.cells #[.string name, .int .i64 link, .bool fx, .int .i64 size, .slice none 0 0] 71)) := ⟨_, rfl⟩
  rw [← hW]
  obtain ⟨B0, z0, r1, r2, u0, hx, hz⟩ := three w _ _ _ _ _ _ hW
  have p0 : At W0 (w.heap.size + 1 + 1) 0 (.string name) := hz _ _ rfl
  have p1 : At W0 (w.heap.size + 1 + 1) 1 (.int .i64 link) := hz _ _ rfl
  have p2 : At W0 (w.heap.size + 1 + 1) 2 (.bool fx) := hz _ _ rfl
  have p3 : At W0 (w.heap.size + 1 + 1) 3 (.int .i64 size) := hz _ _ rfl
  clear hW hx hz
  refine (toBytes _ bytes W0 (HA.out _ B0) n1).mono ?_
  rintro e w1 ⟨v', rfl, hA, hb1, hu1⟩
  have U1 := Kp.mk (u0.call hb1 hu1)
  clear u0 hu1
  rw [z0] at hA
  obtain ⟨a1, k1, rfl⟩ := hA.shape
  have q1 : Rw w1 (w.heap.size + 1) 5 := r1.keep hb1
  have q2 : Rw w1 (w.heap.size + 1 + 1) 5 := r2.keep hb1
  have o0 := at_keep p0 hb1
  have o1 := at_keep p1 hb1
  have o2 := at_keep p2 hb1
  have o3 := at_keep p3 hb1
  have B1 := Kp.mk (bel_trans B0 hb1)
  have HA1 := Kp.mk hA
  obtain ⟨_, c4, f4⟩ := q2.at (j := 4) (by omega)
  obtain ⟨_, d0, g0⟩ := q1.at (j := 0) (by omega)
  obtain ⟨_, d1, g1⟩ := q1.at (j := 1) (by omega)
  obtain ⟨_, d2, g2⟩ := q1.at (j := 2) (by omega)
  obtain ⟨_, d3, g3⟩ := q1.at (j := 3) (by omega)
  obtain ⟨_, d4, g4⟩ := q1.at (j := 4) (by omega)
  clear hA r1 r2 z0 B0 hb1 HA p0 p1 p2 p3
  go_wp2_with fail
  have l2 : w.heap.size ≤ w.heap.size + 1 + 1 := by omega
  have l1 : w.heap.size ≤ w.heap.size + 1 := by omega
  have P := put5 (q1.sets (w.heap.size + 1 + 1) 4 (.slice a1 bytes.length k1)) (by omega) (.string name) (.int .i64 link) (.bool fx) (.int .i64 size) (.slice a1 bytes.length k1)
  have K5 : Keeps (w.heap.size + 1 + 1 + 1) w1 (w1.setCell ⟨w.heap.size + 1 + 1, 4, none⟩ (.slice a1 bytes.length k1)) := keeps_set (by omega)
  have PZ := bel_set (k := 4) (bel_set (k := 3) (bel_set (k := 2) (bel_set (k := 1) (bel_set (k := 0) (bel_set (k := 4) B1.out l2 (.slice a1 bytes.length k1)) l1 (.string name)) l1 (.int .i64 link)) l1 (.bool fx)) l1 (.int .i64 size)) l1 (.slice a1 bytes.length k1)
  refine bodyPost_ret (v := .agg #[.string name, .int .i64 link, .bool fx, .int .i64 size, .slice a1 bytes.length k1]) ?_ rfl ⟨_, rfl, HA1.out.mono (by omega) (K5.trans (fun b o v l q => P b o v q (by omega))), PZ, (((((U1.out.set _ _ _).set _ _ _).set _ _ _).set _ _ _).set _ _ _).set _ _ _⟩
  clear PZ K5 P B1 HA1 U1 o0 o1 o2 o3 f4 q2
  simp [results, Tryz.results75, go_sem, d0, d1, d2, d3, d4]

set_option maxRecDepth 100000 in
set_option maxHeartbeats 2000000 in
theorem toGls (v : Value) (xs : List GlD) (w : World) {lo : Nat} (h : Gls lo w v xs) (hn : xs.length + glsN xs ≤ 1048576) :
    Calls Tryz.prog 31 #[v] w fun e w' => ∃ v', e = .returned v' ∧ Gls w.heap.size w' v' xs ∧ Below w.heap.size w w' ∧ Unf w.heap.size w' := by
  obtain ⟨b, o, ⟨⟨a, cap, rfl, h1, h2⟩, h3⟩, -, hc⟩ := h.ex
  have Hn := glsN_of xs
  have hnn := Hn.2
  have hN : Kp (∀ i (h : i < xs.length), glN xs[i] ≤ 1048576) := ⟨fun i h => by have := Hn.1 i h; omega⟩
  have g1 : (xs.length : Int) ≤ 1048576 := by omega
  clear Hn hn hnn
  obtain ⟨O, hmk, hrw⟩ := mk_row 30 71 (.agg #[.string (ByteArray.mk #[]), .int .i64 0, .bool false, .int .i64 0, .slice none 0 0]) 5 64 Tryz.underlying30 (by kernel_rfl) xs.length (by omega) (by omega)
  have HR : Kp (∀ W : World, Rw (W.alloc O) W.heap.size (xs.length * 5)) := ⟨hrw⟩
  clear hrw
  go_enter Tryz.func31, Tryz.ntmps31
  go_wp2_with fail
  go_loopw [4] (fun s wr => ∃ i : Nat, i ≤ xs.length ∧ s = .int .i64 i ∧ Below w.heap.size w wr ∧ Unf w.heap.size wr ∧ Rw wr w.heap.size (xs.length * 5) ∧ ∀ j (hj : j < xs.length), j < i → ∃ vb, GlAt (w.heap.size + 1) wr w.heap.size (j * 5) xs[j] vb) (fun s _ => xs.length - (intOf s).toNat)
  case atStart => exact ⟨0, Nat.zero_le _, rfl, bel_alloc _ _, Unf.new (HR.out w), HR.out w, fun j _ hj => absurd hj (Nat.not_lt_zero _)⟩
  case round =>
    obtain ⟨i, hi, rfl, hB, hU, hR, hd⟩ := hrel
    have HD : Kp _ := ⟨hd⟩
    clear hd
    by_cases hlt : i < xs.length
    · have ha := h2 (by omega)
      subst ha
      obtain ⟨vb, hq⟩ := hc i hlt
      have hl := Kp.mk hlt
      have nd := hN.out i hlt
      obtain ⟨d, hd⟩ : ∃ d, Kp (xs[i] = d) := ⟨_, ⟨rfl⟩⟩
      have hq := hq.keep hB
      rw [hd.out] at hq nd
      obtain ⟨hnm, c0, c1, c2, c3, c4, hv⟩ := hq
      have HNM := Kp.mk hnm
      clear hnm
      obtain ⟨a1, k1, rfl⟩ := hv.shape
      have hV := Kp.mk (toGl d _ wr hv nd)
      clear hc hv nd
      go_wp2_with fail
      refine hV.out.mono ?_
      rintro e w1 ⟨vb', rfl, hv, hb1, hu1⟩
      have hU1 := hU.call hb1 hu1
      obtain ⟨a1', k1', rfl⟩ := hv.shape
      have HV := Kp.mk hv
      have hR1 := hR.keep hb1
      clear hv hV c0 c1 c2 c3 c4
      obtain ⟨_, z0, f0⟩ := hR1.at (j := i * 5) (by omega)
      obtain ⟨_, z1, f1⟩ := hR1.at (j := i * 5 + 1) (by omega)
      obtain ⟨_, z2, f2⟩ := hR1.at (j := i * 5 + 2) (by omega)
      obtain ⟨_, z3, f3⟩ := hR1.at (j := i * 5 + 3) (by omega)
      obtain ⟨_, z4, f4⟩ := hR1.at (j := i * 5 + 4) (by omega)
      go_wp2_with fail
      have P := put5i hR1 (i := i * 5) (by omega) (.string d.name) (.int .i64 d.link) (.bool d.fx) (.int .i64 d.size) (.slice a1' d.bytes.length k1')
      have hlr := hR.lt
      refine ⟨⟨i + 1, by omega, by go_num, ?_, ((((hU1.set _ _ _).set _ _ _).set _ _ _).set _ _ _).set _ _ _, P.2.1, fun j hj hji => ?_⟩, by simp [intOf]; omega⟩
      · have l := Nat.le_refl w.heap.size
        have PB := bel_trans hB hb1
        exact bel_set (bel_set (bel_set (bel_set (bel_set PB l _) l _) l _) l _) l _
      · by_cases e : j = i
        · subst e
          rw [hd.out]
          obtain ⟨p0, p1, p2, p3, p4⟩ := P.1
          exact ⟨_, HNM.out, p0, p1, p2, p3, p4, HV.out.mono (by omega) (fun b o v l q => P.2.2 b o v q (by omega))⟩
        · obtain ⟨vb, q⟩ := HD.out j hj (by omega)
          have q := q.keep hb1
          exact ⟨_, q.n, P.2.2 _ _ _ q.c0 (by omega), P.2.2 _ _ _ q.c1 (by omega), P.2.2 _ _ _ q.c2 (by omega), P.2.2 _ _ _ q.c3 (by omega), P.2.2 _ _ _ q.c4 (by omega), q.y.mono (Nat.le_refl _) (fun b o v l q => P.2.2 b o v q (by omega))⟩
    · clear h2 hc hmk
      go_wp2_with fail
      go_ret
      exact ⟨_, rfl, ⟨w.heap.size, 0, ⟨⟨_, _, rfl, Nat.le_refl _, fun _ => rfl⟩, h3⟩, Nat.le_refl _, fun j hj => by
        rw [Nat.zero_add]
        obtain ⟨vb, q⟩ := HD.out j hj (by omega)
        exact ⟨vb, q.n, q.c0, q.c1, q.c2, q.c3, q.c4, q.y.mono (by omega) (fun _ _ _ _ h => h)⟩⟩, hB, hU⟩

set_option maxRecDepth 100000 in
set_option maxHeartbeats 2000000 in
theorem toFns (v : Value) (xs : List FnD) (w : World) {lo : Nat} (h : Fns lo w v xs) (hn : xs.length + fnsN xs ≤ 1048576) :
    Calls Tryz.prog 32 #[v] w fun e w' => ∃ v', e = .returned v' ∧ Fns w.heap.size w' v' xs ∧ Below w.heap.size w w' ∧ Unf w.heap.size w' := by
  obtain ⟨b, o, ⟨⟨a, cap, rfl, h1, h2⟩, h3⟩, -, hc⟩ := h.ex
  have Hn := fnsN_of xs
  have hnn := Hn.2
  have hN : Kp (∀ i (h : i < xs.length), fnN xs[i] ≤ 1048576) := ⟨fun i h => by have := Hn.1 i h; omega⟩
  have g1 : (xs.length : Int) ≤ 1048576 := by omega
  clear Hn hn hnn
  obtain ⟨O, hmk, hrw⟩ := mk_row 31 74 (.agg #[.string (ByteArray.mk #[]), .int .i64 0, .slice none 0 0, .int .i64 0, .slice none 0 0]) 5 80 Tryz.underlying31 (by kernel_rfl) xs.length (by omega) (by omega)
  have HR : Kp (∀ W : World, Rw (W.alloc O) W.heap.size (xs.length * 5)) := ⟨hrw⟩
  clear hrw
  go_enter Tryz.func32, Tryz.ntmps32
  go_wp2_with fail
  go_loopw [4] (fun s wr => ∃ i : Nat, i ≤ xs.length ∧ s = .int .i64 i ∧ Below w.heap.size w wr ∧ Unf w.heap.size wr ∧ Rw wr w.heap.size (xs.length * 5) ∧ ∀ j (hj : j < xs.length), j < i → ∃ vp vb, FcAt (w.heap.size + 1) wr w.heap.size (j * 5) xs[j] vp vb) (fun s _ => xs.length - (intOf s).toNat)
  case atStart => exact ⟨0, Nat.zero_le _, rfl, bel_alloc _ _, Unf.new (HR.out w), HR.out w, fun j _ hj => absurd hj (Nat.not_lt_zero _)⟩
  case round =>
    obtain ⟨i, hi, rfl, hB, hU, hR, hd⟩ := hrel
    have HD : Kp _ := ⟨hd⟩
    clear hd
    by_cases hlt : i < xs.length
    · have ha := h2 (by omega)
      subst ha
      obtain ⟨vp, vb, hq⟩ := hc i hlt
      have hl := Kp.mk hlt
      have nd := hN.out i hlt
      obtain ⟨d, hd⟩ : ∃ d, Kp (xs[i] = d) := ⟨_, ⟨rfl⟩⟩
      have hq := hq.keep hB
      rw [hd.out] at hq nd
      obtain ⟨c0, c1, c2, c3, c4, hv⟩ := hq
      obtain ⟨a1, k1, rfl⟩ := hv.p.shape
      obtain ⟨a2, k2, rfl⟩ := hv.b.shape
      have hV := Kp.mk (toFn d _ _ wr hv nd)
      clear hc hv nd
      go_wp2_with fail
      refine hV.out.mono ?_
      rintro e w1 ⟨vp', vb', rfl, hv, hb1, hu1⟩
      have hU1 := hU.call hb1 hu1
      obtain ⟨a1', k1', rfl⟩ := hv.p.shape
      obtain ⟨a2', k2', rfl⟩ := hv.b.shape
      have HV := Kp.mk hv
      have hR1 := hR.keep hb1
      clear hv hV c0 c1 c2 c3 c4
      obtain ⟨_, z0, f0⟩ := hR1.at (j := i * 5) (by omega)
      obtain ⟨_, z1, f1⟩ := hR1.at (j := i * 5 + 1) (by omega)
      obtain ⟨_, z2, f2⟩ := hR1.at (j := i * 5 + 2) (by omega)
      obtain ⟨_, z3, f3⟩ := hR1.at (j := i * 5 + 3) (by omega)
      obtain ⟨_, z4, f4⟩ := hR1.at (j := i * 5 + 4) (by omega)
      go_wp2_with fail
      have P := put5i hR1 (i := i * 5) (by omega) (.string d.name) (.int .i64 d.link) (.slice a1' d.params.length k1') (.int .i64 d.res) (.slice a2' d.blocks.length k2')
      have hlr := hR.lt
      refine ⟨⟨i + 1, by omega, by go_num, ?_, ((((hU1.set _ _ _).set _ _ _).set _ _ _).set _ _ _).set _ _ _, P.2.1, fun j hj hji => ?_⟩, by simp [intOf]; omega⟩
      · have l := Nat.le_refl w.heap.size
        have PB := bel_trans hB hb1
        exact bel_set (bel_set (bel_set (bel_set (bel_set PB l _) l _) l _) l _) l _
      · by_cases e : j = i
        · subst e
          rw [hd.out]
          obtain ⟨p0, p1, p2, p3, p4⟩ := P.1
          exact ⟨_, _, p0, p1, p2, p3, p4, HV.out.mono (by omega) (fun b o v l q => P.2.2 b o v q (by omega))⟩
        · obtain ⟨vp, vb, q⟩ := HD.out j hj (by omega)
          have q := q.keep hb1
          exact ⟨_, _, P.2.2 _ _ _ q.c0 (by omega), P.2.2 _ _ _ q.c1 (by omega), P.2.2 _ _ _ q.c2 (by omega), P.2.2 _ _ _ q.c3 (by omega), P.2.2 _ _ _ q.c4 (by omega), q.f.mono (Nat.le_refl _) (fun b o v l q => P.2.2 b o v q (by omega))⟩
    · clear h2 hc hmk
      go_wp2_with fail
      go_ret
      exact ⟨_, rfl, ⟨w.heap.size, 0, ⟨⟨_, _, rfl, Nat.le_refl _, fun _ => rfl⟩, h3⟩, Nat.le_refl _, fun j hj => by
        rw [Nat.zero_add]
        obtain ⟨vp, vb, q⟩ := HD.out j hj (by omega)
        exact ⟨vp, vb, q.c0, q.c1, q.c2, q.c3, q.c4, q.f.mono (by omega) (fun _ _ _ _ h => h)⟩⟩, hB, hU⟩
end
section
open Go.ChangeShapes Go.WideShapes Go.ChangeAt Go.RowKit

open Go.Sort (grow)

set_option linter.unusedVariables false

set_option linter.unusedSimpArgs false

theorem Gls.mono {lo l2 : Nat} {w w' : World} {v : Value} {xs : List GlD} (h : Gls lo w v xs) (hl : l2 ≤ lo) (hk : Keeps lo w w') : Gls l2 w' v xs := by
  obtain ⟨b, o, s, l, c⟩ := h.ex
  refine ⟨b, o, s, by omega, fun i hi => ?_⟩
  obtain ⟨vb, q⟩ := c i hi
  have q' := q.mono l (Nat.le_refl _) hk
  exact ⟨vb, q'.n, q'.c0, q'.c1, q'.c2, q'.c3, q'.c4, q'.y.mono hl (fun _ _ _ _ h => h)⟩

theorem Fns.mono {lo l2 : Nat} {w w' : World} {v : Value} {xs : List FnD} (h : Fns lo w v xs) (hl : l2 ≤ lo) (hk : Keeps lo w w') : Fns l2 w' v xs := by
  obtain ⟨b, o, s, l, c⟩ := h.ex
  refine ⟨b, o, s, by omega, fun i hi => ?_⟩
  obtain ⟨vp, vb, q⟩ := c i hi
  have q' := q.mono l (Nat.le_refl _) hk
  exact ⟨vp, vb, q'.c0, q'.c1, q'.c2, q'.c3, q'.c4, q'.f.mono hl (fun _ _ _ _ h => h)⟩

set_option maxRecDepth 100000 in
set_option maxHeartbeats 2000000 in
theorem eqBytes (v u : Value) (xs : List Int) (w : World) {lo l2 : Nat} (h : Ints lo .u8 w v xs) (k : Ints l2 .u8 w u xs) (hn : xs.length ≤ 1048576) :
    Calls Tryz.prog 151 #[v, u] w fun e w' => e = .returned (.bool true) ∧ Below w.heap.size w w' := by
  obtain ⟨b, o, ⟨⟨a, cap, rfl, h1, h2⟩, h3⟩, -, hc⟩ := h.ex
  obtain ⟨b', o', ⟨⟨a', cap', rfl, h1', h2'⟩, h3'⟩, -, hc'⟩ := k.ex
  have g1 : (xs.length : Int) ≤ 1048576 := by omega
  have HC : Kp (∀ i (h : i < xs.length), At w b (o + i) (.int .u8 xs[i]) ∧ At w b' (o' + i) (.int .u8 xs[i])) := ⟨fun i h => ⟨hc i h, hc' i h⟩⟩
  have H2 : Kp (0 < xs.length → a = some ⟨b, o, none⟩ ∧ a' = some ⟨b', o', none⟩) := ⟨fun q => ⟨h2 q, h2' q⟩⟩
  clear hc hc' h k h2 h2'
  go_enter Tryz.func151, Tryz.ntmps151
  go_wp2_with fail
  go_loopw [5] (fun s wr => ∃ i : Nat, i ≤ xs.length ∧ s = .int .i64 i ∧ Below w.heap.size w wr) (fun s _ => xs.length - (intOf s).toNat)
  case atStart => exact ⟨0, Nat.zero_le _, rfl, Below.refl _ _⟩
  case round =>
    obtain ⟨i, hi, rfl, hB⟩ := hrel
    by_cases hlt : i < xs.length
    · obtain ⟨rfl, rfl⟩ := H2.out (by omega)
      have c1 := at_keep (HC.out i hlt).1 hB
      have c2 := at_keep (HC.out i hlt).2 hB
      generalize xs[i] = x at c1 c2
      go_upto_region 6 with fail
      have k1 := cell_regrown c1
      have k2 := cell_regrown c2
      refine wp_region_quiet_below (by kernel_rfl) (by kernel_rfl) ?_
      repeat (quiet_step (fail))
      refine wpQuiet_nil ?_
      intro _ hw'
      obtain ⟨⟨dq, osq⟩, hw''⟩ := hw'
      subst hw''
      have hB2 := bel_trans hB (below_regrown wr dq osq)
      clear k1 k2 c1 c2
      generalize grow (redrawn wr dq) osq = V at *
      go_wp2_with fail
      exact ⟨⟨i + 1, by omega, by go_num, hB2⟩, by simp [intOf]; omega⟩
    · go_wp2_with fail
      go_ret
      exact ⟨rfl, hB⟩

set_option maxRecDepth 100000 in
set_option maxHeartbeats 2000000 in
theorem eqGl (d : GlD) (vb ub : Value) (w : World) {lo l2 : Nat} (h : Ints lo .u8 w vb d.bytes) (k : Ints l2 .u8 w ub d.bytes) (hn : glN d ≤ 1048576) :
    Calls Tryz.prog 85 #[glV d vb, glV d ub] w fun e w' => e = .returned (.bool true) ∧ Below w.heap.size w w' := by
  unfold glN at hn
  obtain ⟨name, link, fx, size, bytes⟩ := d
  dsimp only [glV] at *
  have n1 : bytes.length ≤ 1048576 := by omega
  obtain ⟨a1, k1, rfl⟩ := h.shape
  obtain ⟨b1, l1, rfl⟩ := k.shape
  replace h := Kp.mk h
  replace k := Kp.mk k
  clear hn
  go_enter Tryz.func85, Tryz.ntmps85
  go_wp2_with fail
  obtain ⟨W0, hW⟩ : ∃ W0 : World, W0 = ((w.alloc (Obj.cells #[.string name, .int .i64 link, .bool fx, .int .i64 size, .slice a1 bytes.length k1] 71)).alloc (Obj.cells #[.string name, .int .i64 link, .bool fx, .int .i64 size, .slice b1 bytes.length l1] 71)) := ⟨_, rfl⟩
  rw [← hW]
  obtain ⟨B0, -, -⟩ := two w _ _ _ _ hW
  clear hW
  refine (eqBytes _ _ bytes W0 (h.out.keep B0) (k.out.keep B0) n1).mono ?_
  rintro e w1 ⟨rfl, hb1⟩
  have B1 := bel_trans B0 hb1
  go_wp2_with fail
  go_ret
  exact ⟨rfl, B1⟩

set_option maxRecDepth 100000 in
set_option maxHeartbeats 2000000 in
theorem eqGls (v u : Value) (xs : List GlD) (w : World) {lo l2 : Nat} (h : Gls lo w v xs) (k : Gls l2 w u xs) (hn : xs.length + glsN xs ≤ 1048576) :
    Calls Tryz.prog 36 #[v, u] w fun e w' => e = .returned (.bool true) ∧ Below w.heap.size w w' := by
  obtain ⟨b, o, ⟨⟨a, cap, rfl, h1, h2⟩, h3⟩, -, hc⟩ := h.ex
  obtain ⟨b', o', ⟨⟨a', cap', rfl, h1', h2'⟩, h3'⟩, -, hc'⟩ := k.ex
  have Hn := glsN_of xs
  have hnn := Hn.2
  have hN : Kp (∀ i (h : i < xs.length), glN xs[i] ≤ 1048576) := ⟨fun i h => by have := Hn.1 i h; omega⟩
  have g1 : (xs.length : Int) ≤ 1048576 := by omega
  have HC : Kp (∀ i (h : i < xs.length), (∃ vb, GlAt lo w b (o + i * 5) xs[i] vb) ∧ ∃ vb, GlAt l2 w b' (o' + i * 5) xs[i] vb) := ⟨fun i h => ⟨hc i h, hc' i h⟩⟩
  have H2 : Kp (0 < xs.length → a = some ⟨b, o, none⟩ ∧ a' = some ⟨b', o', none⟩) := ⟨fun q => ⟨h2 q, h2' q⟩⟩
  clear hc hc' h k h2 h2' Hn hnn hn
  go_enter Tryz.func36, Tryz.ntmps36
  go_wp2_with fail
  go_loopw [5] (fun s wr => ∃ i : Nat, i ≤ xs.length ∧ s = .int .i64 i ∧ Below w.heap.size w wr) (fun s _ => xs.length - (intOf s).toNat)
  case atStart => exact ⟨0, Nat.zero_le _, rfl, Below.refl _ _⟩
  case round =>
    obtain ⟨i, hi, rfl, hB⟩ := hrel
    by_cases hlt : i < xs.length
    · obtain ⟨rfl, rfl⟩ := H2.out (by omega)
      obtain ⟨⟨vb, hq⟩, ⟨ub, hr⟩⟩ := HC.out i hlt
      have nd := hN.out i hlt
      obtain ⟨-, c0, c1, c2, c3, c4, hv⟩ := hq.keep hB
      obtain ⟨-, d0, d1, d2, d3, d4, hu⟩ := hr.keep hB
      clear hq hr
      obtain ⟨d, hd⟩ : ∃ d, xs[i] = d := ⟨_, rfl⟩
      rw [hd] at hv nd hu c0 c1 c3 d0 d1 d3 c2 d2
      clear hd
      obtain ⟨a1, k1, rfl⟩ := hv.shape
      obtain ⟨b1, l1, rfl⟩ := hu.shape
      have C := Kp.mk (fun dq osq => Calls.regrown_of (eqGl d _ _ (grow (redrawn wr dq) osq) (hv.keep (below_regrown wr dq osq)) (hu.keep (below_regrown wr dq osq)) nd))
      clear hv hu nd
      go_upto_region 6 with fail
      replace c0 := cell_regrown c0
      replace c1 := cell_regrown c1
      replace c2 := cell_regrown c2
      replace c3 := cell_regrown c3
      replace c4 := cell_regrown c4
      replace d0 := cell_regrown d0
      replace d1 := cell_regrown d1
      replace d2 := cell_regrown d2
      replace d3 := cell_regrown d3
      replace d4 := cell_regrown d4
      refine wp_region_quiet_below (by kernel_rfl) (by kernel_rfl) ?_
      repeat (quiet_step (fail))
      quiet_step (exact C.out _ _)
      repeat (quiet_step (fail))
      refine wpQuiet_nil ?_
      intro _ hw'
      obtain ⟨⟨dq, osq⟩, hw''⟩ := hw'
      subst hw''
      have hB2 := bel_trans hB (below_regrown wr dq osq)
      clear c0 c1 c2 c3 c4 d0 d1 d2 d3 d4 C
      generalize grow (redrawn wr dq) osq = V at *
      go_wp2_with fail
      exact ⟨⟨i + 1, by omega, by go_num, hB2⟩, by simp [intOf]; omega⟩
    · go_wp2_with fail
      go_ret
      exact ⟨rfl, hB⟩

set_option maxRecDepth 100000 in
set_option maxHeartbeats 2000000 in
theorem eqFns (v u : Value) (xs : List FnD) (w : World) {lo l2 : Nat} (h : Fns lo w v xs) (k : Fns l2 w u xs) (hn : xs.length + fnsN xs ≤ 1048576) :
    Calls Tryz.prog 37 #[v, u] w fun e w' => e = .returned (.bool true) ∧ Below w.heap.size w w' := by
  obtain ⟨b, o, ⟨⟨a, cap, rfl, h1, h2⟩, h3⟩, -, hc⟩ := h.ex
  obtain ⟨b', o', ⟨⟨a', cap', rfl, h1', h2'⟩, h3'⟩, -, hc'⟩ := k.ex
  have Hn := fnsN_of xs
  have hnn := Hn.2
  have hN : Kp (∀ i (h : i < xs.length), fnN xs[i] ≤ 1048576) := ⟨fun i h => by have := Hn.1 i h; omega⟩
  have g1 : (xs.length : Int) ≤ 1048576 := by omega
  have HC : Kp (∀ i (h : i < xs.length), (∃ vp vb, FcAt lo w b (o + i * 5) xs[i] vp vb) ∧ ∃ vp vb, FcAt l2 w b' (o' + i * 5) xs[i] vp vb) := ⟨fun i h => ⟨hc i h, hc' i h⟩⟩
  have H2 : Kp (0 < xs.length → a = some ⟨b, o, none⟩ ∧ a' = some ⟨b', o', none⟩) := ⟨fun q => ⟨h2 q, h2' q⟩⟩
  clear hc hc' h k h2 h2' Hn hnn hn
  go_enter Tryz.func37, Tryz.ntmps37
  go_wp2_with fail
  go_loopw [5] (fun s wr => ∃ i : Nat, i ≤ xs.length ∧ s = .int .i64 i ∧ Below w.heap.size w wr) (fun s _ => xs.length - (intOf s).toNat)
  case atStart => exact ⟨0, Nat.zero_le _, rfl, Below.refl _ _⟩
  case round =>
    obtain ⟨i, hi, rfl, hB⟩ := hrel
    by_cases hlt : i < xs.length
    · obtain ⟨rfl, rfl⟩ := H2.out (by omega)
      obtain ⟨⟨vp, vb, hq⟩, ⟨up, ub, hr⟩⟩ := HC.out i hlt
      have nd := hN.out i hlt
      obtain ⟨c0, c1, c2, c3, c4, hv⟩ := hq.keep hB
      obtain ⟨d0, d1, d2, d3, d4, hu⟩ := hr.keep hB
      clear hq hr
      obtain ⟨d, hd⟩ : ∃ d, xs[i] = d := ⟨_, rfl⟩
      rw [hd] at hv nd hu c0 c1 c3 d0 d1 d3
      clear hd
      obtain ⟨a1, k1, rfl⟩ := hv.p.shape
      obtain ⟨a2, k2, rfl⟩ := hv.b.shape
      obtain ⟨b1, l1, rfl⟩ := hu.p.shape
      obtain ⟨b2, l2, rfl⟩ := hu.b.shape
      have C := Kp.mk (fun dq osq => Calls.regrown_of (eqFn d _ _ _ _ (grow (redrawn wr dq) osq) (hv.keep (below_regrown wr dq osq)) (hu.keep (below_regrown wr dq osq)) nd))
      clear hv hu nd
      go_upto_region 6 with fail
      replace c0 := cell_regrown c0
      replace c1 := cell_regrown c1
      replace c2 := cell_regrown c2
      replace c3 := cell_regrown c3
      replace c4 := cell_regrown c4
      replace d0 := cell_regrown d0
      replace d1 := cell_regrown d1
      replace d2 := cell_regrown d2
      replace d3 := cell_regrown d3
      replace d4 := cell_regrown d4
      refine wp_region_quiet_below (by kernel_rfl) (by kernel_rfl) ?_
      repeat (quiet_step (fail))
      quiet_step (exact C.out _ _)
      repeat (quiet_step (fail))
      refine wpQuiet_nil ?_
      intro _ hw'
      obtain ⟨⟨dq, osq⟩, hw''⟩ := hw'
      subst hw''
      have hB2 := bel_trans hB (below_regrown wr dq osq)
      clear c0 c1 c2 c3 c4 d0 d1 d2 d3 d4 C
      generalize grow (redrawn wr dq) osq = V at *
      go_wp2_with fail
      exact ⟨⟨i + 1, by omega, by go_num, hB2⟩, by simp [intOf]; omega⟩
    · go_wp2_with fail
      go_ret
      exact ⟨rfl, hB⟩

abbrev moV (vg vf : Value) : Value := .agg #[vg, vf]

set_option maxRecDepth 100000 in
set_option maxHeartbeats 2000000 in
theorem eqMo (gs : List GlD) (fs : List FnD) (vg vf ug uf : Value) (w : World) {lo l2 : Nat} (h : MoAt lo w gs fs vg vf) (k : MoAt l2 w gs fs ug uf) (hn : moN gs fs ≤ 1048576) :
    Calls Tryz.prog 12 #[moV vg vf, moV ug uf] w fun e w' => e = .returned (.bool true) ∧ Below w.heap.size w w' := by
  unfold moN at hn
  have g0 := glsN_nn gs
  have f0 := fnsN_nn fs
  have n1 : gs.length + glsN gs ≤ 1048576 := by omega
  have n2 : fs.length + fnsN fs ≤ 1048576 := by omega
  obtain ⟨a1, k1, rfl⟩ := h.g.shape
  obtain ⟨a2, k2, rfl⟩ := h.f.shape
  obtain ⟨b1, l1, rfl⟩ := k.g.shape
  obtain ⟨b2, l2, rfl⟩ := k.f.shape
  replace h := Kp.mk h
  replace k := Kp.mk k
  clear hn g0 f0
  go_enter Tryz.func12, Tryz.ntmps12
  go_wp2_with fail
  obtain ⟨W0, hW⟩ : ∃ W0 : World, W0 = ((w.alloc (Obj.cells #[.slice a1 gs.length k1, .slice a2 fs.length k2] 33)).alloc (Obj.cells #[.slice b1 gs.length l1, .slice b2 fs.length l2] 33)) := ⟨_, rfl⟩
  rw [← hW]
  obtain ⟨B0, hx, hy⟩ := two w _ _ _ _ hW
  have x1 := hx 1 _ rfl
  have y1 := hy 1 _ rfl
  clear hW hx hy
  refine (eqGls _ _ gs W0 (h.out.keep B0).g (k.out.keep B0).g n1).mono ?_
  rintro e w1 ⟨rfl, hb1⟩
  replace x1 := at_keep x1 hb1
  replace y1 := at_keep y1 hb1
  have B1 := bel_trans B0 hb1
  clear hb1 B0
  go_wp2_with fail
  refine (eqFns _ _ fs w1 (h.out.keep B1).f (k.out.keep B1).f n2).mono ?_
  rintro e w2 ⟨rfl, hb1⟩
  have B2 := bel_trans B1 hb1
  clear hb1 B1 x1 y1
  go_wp2_with fail
  go_ret
  exact ⟨rfl, B2⟩

set_option maxRecDepth 100000 in
set_option maxHeartbeats 2000000 in
theorem szMo (gs : List GlD) (fs : List FnD) (vg vf : Value) (l : Int) (w : World) {lo : Nat} (h : MoAt lo w gs fs vg vf) (l0 : 0 ≤ l) (l1 : l ≤ 1048576) :
    Calls Tryz.prog 7 #[moV vg vf, .int .i64 l] w fun e w' => e = .returned (.int .i64 (less l (moN gs fs))) ∧ Below w.heap.size w w' := by
  have z1 : (0 : Int) ≤ gs.length + glsN gs := by have := glsN_nn gs; omega
  have z2 : (0 : Int) ≤ fs.length + fnsN fs := by have := fnsN_nn fs; omega
  have d1 := less_bd z1 l0
  have C1 : Kp (∀ w, MoAt lo w gs fs vg vf → Calls Tryz.prog 26 #[vg, .int .i64 l] w fun e w' => e = .returned (.int .i64 (less l (gs.length + glsN gs))) ∧ Below w.heap.size w w') := ⟨fun w h => szGls vg gs l w h.g l0 l1⟩
  have H := Kp.mk h
  obtain ⟨a1, k1, rfl⟩ := h.g.shape
  obtain ⟨a2, k2, rfl⟩ := h.f.shape
  clear h
  by_cases q1 : less l (gs.length + glsN gs) < 0
  · have e : Kp (less l (moN gs fs) = -1) := ⟨less_neg z1 z2 q1 l0⟩
    generalize less l (gs.length + glsN gs) = r1 at *
    go_enter Tryz.func7, Tryz.ntmps7
    go_wp2_with fail
    refine (C1.out _ (H.out.keep (bel_alloc _ _))).mono ?_
    rintro e w1 ⟨rfl, hb1⟩
    go_wp2_with fail
    go_ret
    exact ⟨by rw [e.out]; rfl, bel_trans (bel_alloc _ _) hb1⟩
  · have k1' : 0 ≤ less l (gs.length + glsN gs) := by omega
    have L2 := less_less (l := l) z1 z2 k1'
    have C2 : Kp (∀ w, MoAt lo w gs fs (.slice a1 gs.length k1) (.slice a2 fs.length k2) → Calls Tryz.prog 27 #[.slice a2 fs.length k2, .int .i64 (less l (gs.length + glsN gs))] w fun e w' => e = .returned (.int .i64 (less l (moN gs fs))) ∧ Below w.heap.size w w') := ⟨fun w h => by
      have q := szFns _ fs (less l (gs.length + glsN gs)) w h.f k1' (by omega)
      rw [L2] at q
      exact q⟩
    have d2 := less_bd (a := moN gs fs) (by unfold moN; omega) l0
    clear L2
    generalize less l (moN gs fs) = r2 at *
    generalize less l (gs.length + glsN gs) = r1 at *
    have run : ∀ (Q : Prop), Q → Q := fun _ q => q
    by_cases q2 : r2 < 0
    · obtain rfl : r2 = -1 := by omega
      go_enter Tryz.func7, Tryz.ntmps7
      go_wp2_with fail
      refine (C1.out _ (H.out.keep (bel_alloc _ _))).mono ?_
      rintro e w1 ⟨rfl, hb1⟩
      have x1 : At w1 w.heap.size 1 (.slice a2 fs.length k2) := at_keep (al_at w #[.slice a1 gs.length k1, .slice a2 fs.length k2] 25 rfl) hb1
      have B1 := bel_trans (bel_alloc _ _) hb1
      go_wp2_with fail
      refine (C2.out _ (H.out.keep B1)).mono ?_
      rintro e w2 ⟨rfl, hb2⟩
      go_wp2_with fail
      go_ret
      exact ⟨rfl, bel_trans B1 hb2⟩
    · go_enter Tryz.func7, Tryz.ntmps7
      go_wp2_with fail
      refine (C1.out _ (H.out.keep (bel_alloc _ _))).mono ?_
      rintro e w1 ⟨rfl, hb1⟩
      have x1 : At w1 w.heap.size 1 (.slice a2 fs.length k2) := at_keep (al_at w #[.slice a1 gs.length k1, .slice a2 fs.length k2] 25 rfl) hb1
      have B1 := bel_trans (bel_alloc _ _) hb1
      go_wp2_with fail
      refine (C2.out _ (H.out.keep B1)).mono ?_
      rintro e w2 ⟨rfl, hb2⟩
      go_wp2_with fail
      go_ret
      exact ⟨rfl, bel_trans B1 hb2⟩

set_option maxRecDepth 100000 in
set_option maxHeartbeats 2000000 in
theorem toMo (gs : List GlD) (fs : List FnD) (vg vf : Value) (w : World) {lo : Nat} (h : MoAt lo w gs fs vg vf) (hn : moN gs fs ≤ 1048576) :
    Calls Tryz.prog 9 #[moV vg vf] w fun e w' => ∃ vg' vf', e = .returned (moV vg' vf') ∧ MoAt w.heap.size w' gs fs vg' vf' ∧ Below w.heap.size w w' ∧ Unf w.heap.size w' := by
  unfold moN at hn
  have g0 := glsN_nn gs
  have f0 := fnsN_nn fs
  have n1 : gs.length + glsN gs ≤ 1048576 := by omega
  have n2 : fs.length + fnsN fs ≤ 1048576 := by omega
  obtain ⟨a1, k1, rfl⟩ := h.g.shape
  obtain ⟨a2, k2, rfl⟩ := h.f.shape
  replace h := Kp.mk h
  clear hn g0 f0
  go_enter Tryz.func9, Tryz.ntmps9
  go_wp2_with fail
  obtain ⟨W0, hW⟩ : ∃ W0 : World, W0 = (((w.alloc (Obj.cells #[.slice a1 gs.length k1, .slice a2 fs.length k2] 25)).alloc (Obj.cells #[.slice none 0 0, .slice none 0 0] 33)).alloc (Obj.cells #[.slice none 0 0, .slice none 0 0] 33)) := ⟨_, rfl⟩
  rw [← hW]
  obtain ⟨B0, z0, r1, r2, u0, hx, hz⟩ := three w _ _ _ _ _ _ hW
  have x1 := hx 1 _ rfl
  clear hW hx hz
  refine (toGls _ gs W0 (h.out.keep B0).g n1).mono ?_
  rintro e w1 ⟨v', rfl, hA, hb1, hu1⟩
  rw [z0] at hA
  obtain ⟨a3, k3, rfl⟩ := hA.shape
  have U1 := Kp.mk ((u0.call hb1 hu1).set (w.heap.size + 1 + 1) 0 (.slice a3 gs.length k3))
  clear u0 hu1
  replace r1 : Rw w1 (w.heap.size + 1) 2 := r1.keep hb1
  replace r2 : Rw w1 (w.heap.size + 1 + 1) 2 := r2.keep hb1
  replace x1 := at_keep x1 hb1
  obtain ⟨_, c0, e0⟩ := r2.at (j := 0) (by omega)
  have l2 : w.heap.size ≤ w.heap.size + 1 + 1 := by omega
  have l1 : w.heap.size ≤ w.heap.size + 1 := by omega
  have B1 := Kp.mk (bel_set (k := 0) (bel_trans B0 hb1) l2 (.slice a3 gs.length k3))
  have K1 : Keeps (w.heap.size + 1 + 1 + 1) w1 (w1.setCell ⟨w.heap.size + 1 + 1, 0, none⟩ (.slice a3 gs.length k3)) := keeps_set (by omega)
  have HG := Kp.mk (hA.mono (Nat.le_refl _) K1)
  have R1 := Kp.mk (r1.sets (w.heap.size + 1 + 1) 0 (.slice a3 gs.length k3))
  have R2 := Kp.mk (r2.sets (w.heap.size + 1 + 1) 0 (.slice a3 gs.length k3))
  have O0 := Kp.mk (set_same r2 (k := 0) (by omega) (.slice a3 gs.length k3))
  have X1 := Kp.mk (set_other (x := .slice a3 gs.length k3) (B := w.heap.size + 1 + 1) (k := 0) x1 (.inl (by omega)))
  clear hA r1 r2 z0 B0 hb1 K1
  go_wp2_with fail
  generalize w1.setCell ⟨w.heap.size + 1 + 1, 0, none⟩ (.slice a3 gs.length k3) = W1 at *
  clear x1 c0 e0
  have x1 := X1.out
  have z1 : w.heap.size + 1 + 1 + 1 ≤ W1.heap.size := R2.out.lt
  refine (toFns _ fs W1 (h.out.keep B1.out).f n2).mono ?_
  rintro e w2 ⟨v', rfl, hI, hb2, hu2⟩
  obtain ⟨a4, k4, rfl⟩ := hI.shape
  have U2 := Kp.mk (U1.out.call hb2 hu2)
  have HG2 := Kp.mk (HG.out.keep hb2)
  have HF2 := Kp.mk (hI.mono z1 (fun _ _ _ _ h => h))
  have B2 := Kp.mk (bel_trans B1.out hb2)
  have r1 := R1.out.keep hb2
  have r2 := R2.out.keep hb2
  have o0 : At w2 (w.heap.size + 1 + 1) 0 (.slice a3 gs.length k3) := at_keep O0.out hb2
  obtain ⟨_, c1, e1⟩ := r2.at (j := 1) (by omega)
  obtain ⟨_, d0, g0⟩ := r1.at (j := 0) (by omega)
  obtain ⟨_, d1, g1⟩ := r1.at (j := 1) (by omega)
  clear hI hb2 hu2 U1 HG B1 R1 R2 O0 X1 x1 z1 h
  go_wp2_with fail
  have K2 : Keeps (w.heap.size + 1 + 1 + 1) w2 (((w2.setCell ⟨w.heap.size + 1 + 1, 1, none⟩ (.slice a4 fs.length k4)).setCell ⟨w.heap.size + 1, 0, none⟩ (.slice a3 gs.length k3)).setCell ⟨w.heap.size + 1, 1, none⟩ (.slice a4 fs.length k4)) := ((keeps_set (by omega)).trans (keeps_set (by omega))).trans (keeps_set (by omega))
  refine bodyPost_ret (v := .agg #[.slice a3 gs.length k3, .slice a4 fs.length k4]) ?_ rfl ⟨_, _, rfl, ⟨HG2.out.mono (by omega) K2, HF2.out.mono (by omega) K2⟩, bel_set (bel_set (bel_set B2.out l2 _) l1 _) l1 _, ((U2.out.set _ _ _).set _ _ _).set _ _ _⟩
  clear K2 HG2 HF2 B2 U2 e1 r2
  simp [results, Tryz.results9, go_sem, d0, d1]
end
end Go.Proofs.YtbnkbbcncloedaaGreatDoor
