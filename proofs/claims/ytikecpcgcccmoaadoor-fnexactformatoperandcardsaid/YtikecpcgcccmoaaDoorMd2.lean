/- Contracts of the laws' helpers that copy a module. -/
import Derived.Test.YtikecpcgcccmoaaDoorDp8
import Derived.Test.YtikecpcgcccmoaaDoorMd1
namespace Go.Proofs.YtikecpcgcccmoaaDoor
open Go.ChangeShapes Go.WideShapes Go.ChangeAt Go.RowKit
set_option linter.unusedVariables false
set_option linter.unusedSimpArgs false
theorem glsN_of (xs : List GlD) : (∀ i (h : i < xs.length), glN xs[i] ≤ glsN xs) ∧ 0 ≤ glsN xs := ⟨fun i h => by
  have e1 := glsN_snoc xs i h
  have e2 := glsN_le xs (i + 1)
  have e3 := glsN_nn (xs.take i)
  omega, glsN_nn xs⟩
theorem fnsN_of (xs : List FnD) : (∀ i (h : i < xs.length), fnN xs[i] ≤ fnsN xs) ∧ 0 ≤ fnsN xs := ⟨fun i h => by
  have e1 := fnsN_snoc xs i h
  have e2 := fnsN_le xs (i + 1)
  have e3 := fnsN_nn (xs.take i)
  omega, fnsN_nn xs⟩
/-- Five cells written, one behind the other. -/
abbrev W5 (w : World) (B i : Nat) (x0 x1 x2 x3 x4 : Value) : World := (((((w.setCell ⟨B, i, none⟩ x0).setCell ⟨B, i + 1, none⟩ x1).setCell ⟨B, i + 2, none⟩ x2).setCell ⟨B, i + 3, none⟩ x3).setCell ⟨B, i + 4, none⟩ x4)
theorem put5i {w : World} {B n i : Nat} (h : Rw w B n) (hi : i + 4 < n) (x0 x1 x2 x3 x4 : Value) :
    (At (W5 w B i x0 x1 x2 x3 x4) B i x0 ∧ At (W5 w B i x0 x1 x2 x3 x4) B (i + 1) x1 ∧ At (W5 w B i x0 x1 x2 x3 x4) B (i + 2) x2 ∧ At (W5 w B i x0 x1 x2 x3 x4) B (i + 3) x3 ∧ At (W5 w B i x0 x1 x2 x3 x4) B (i + 4) x4) ∧ Rw (W5 w B i x0 x1 x2 x3 x4) B n ∧ ∀ b o v, At w b o v → (b ≠ B ∨ o < i ∨ i + 4 < o) → At (W5 w B i x0 x1 x2 x3 x4) b o v := by
  have h0 := h.set i x0
  have h1 := h0.set (i + 1) x1
  have h2 := h1.set (i + 2) x2
  have h3 := h2.set (i + 3) x3
  refine ⟨⟨?_, ?_, ?_, ?_, ?_⟩, h3.set _ _, fun b o v q hn => ?_⟩
  · exact set_other (set_other (set_other (set_other (set_same h (by omega) _) (by omega)) (by omega)) (by omega)) (by omega)
  · exact set_other (set_other (set_other (set_same h0 (by omega) _) (by omega)) (by omega)) (by omega)
  · exact set_other (set_other (set_same h1 (by omega) _) (by omega)) (by omega)
  · exact set_other (set_same h2 (by omega) _) (by omega)
  · exact set_same h3 (by omega) _
  · exact set_other (set_other (set_other (set_other (set_other q (by omega)) (by omega)) (by omega)) (by omega)) (by omega)
set_option maxRecDepth 100000 in
set_option maxHeartbeats 2000000 in
theorem toBytes (v : Value) (xs : List Int) (w : World) {lo : Nat} (h : Ints lo .u8 w v xs) (hn : xs.length ≤ 1048576) :
    Calls Tryd.prog 42 #[v] w fun e w' => ∃ v', e = .returned v' ∧ Ints w.heap.size .u8 w' v' xs ∧ Below w.heap.size w w' ∧ Unf w.heap.size w' := by
  obtain ⟨b, o, ⟨⟨a, cap, rfl, h1, h2⟩, h3⟩, -, hc⟩ := h.ex
  have g1 : (xs.length : Int) ≤ 1048576 := by omega
  obtain ⟨O, hmk, hrw⟩ := mk_row 44 5 (.int .u8 0) 1 1 Tryd.underlying44 (by kernel_rfl) xs.length (by omega) (by omega)
  have HR : Kp (∀ W : World, Rw (W.alloc O) W.heap.size (xs.length * 1)) := ⟨hrw⟩
  clear hrw
  go_enter Tryd.func42, Tryd.ntmps42
  go_wp2_with fail
  go_loopw [4] (fun s wr => ∃ i : Nat, i ≤ xs.length ∧ s = .int .i64 i ∧ Below w.heap.size w wr ∧ Unf w.heap.size wr ∧ Rw wr w.heap.size (xs.length * 1) ∧ ∀ j (hj : j < xs.length), j < i → At wr w.heap.size j (.int .u8 xs[j])) (fun s _ => xs.length - (intOf s).toNat)
  case atStart => exact ⟨0, Nat.zero_le _, rfl, bel_alloc _ _, Unf.new (HR.out w), HR.out w, fun j _ hj => absurd hj (Nat.not_lt_zero _)⟩
  case round =>
    obtain ⟨i, hi, rfl, hB, hU, hR, hd⟩ := hrel
    have HD : Kp _ := ⟨hd⟩
    clear hd
    by_cases hlt : i < xs.length
    · have ha := h2 (by omega)
      subst ha
      have cx := at_keep (hc i hlt) hB
      obtain ⟨z, cz, fz⟩ := hR.at (j := i) (by omega)
      clear hc
      go_wp2_with fail
      refine ⟨⟨i + 1, by omega, by go_num, hB.setCell (Nat.le_refl _) _, hU.set _ _ _, hR.set _ _, fun j hj hji => ?_⟩, by simp [intOf]; omega⟩
      by_cases e : j = i
      · subst e
        exact set_same hR (by omega) _
      · exact set_other (HD.out j hj (by omega)) (.inr e)
    · clear h2 hc hmk
      go_wp2_with fail
      go_ret
      exact ⟨_, rfl, ⟨w.heap.size, 0, ⟨⟨_, _, rfl, Nat.le_refl _, fun _ => rfl⟩, h3⟩, Nat.le_refl _, fun j hj => by rw [Nat.zero_add]; exact HD.out j hj (by omega)⟩, hB, hU⟩
set_option maxRecDepth 100000 in
set_option maxHeartbeats 2000000 in
theorem toGl (d : GlD) (vb : Value) (w : World) {lo : Nat} (h : Ints lo .u8 w vb d.bytes) (hn : glN d ≤ 1048576) :
    Calls Tryd.prog 27 #[glV d vb] w fun e w' => ∃ vb', e = .returned (glV d vb') ∧ Ints w.heap.size .u8 w' vb' d.bytes ∧ Below w.heap.size w w' ∧ Unf w.heap.size w' := by
  unfold glN at hn
  obtain ⟨name, link, fx, size, bytes⟩ := d
  dsimp only [glV] at *
  have n1 : bytes.length ≤ 1048576 := by omega
  obtain ⟨a0, k0, rfl⟩ := h.shape
  have HA : Kp (∀ W, Below w.heap.size w W → Ints lo .u8 W (.slice a0 bytes.length k0) bytes) := ⟨fun W q => h.keep q⟩
  clear h hn
  go_enter Tryd.func27, Tryd.ntmps27
  go_wp2_with fail
  obtain ⟨W0, hW⟩ : ∃ W0 : World, W0 = (((w.alloc (Obj.cells #[.string name, .int .i64 link, .bool fx, .int .i64 size, .slice a0 bytes.length k0] 53)).alloc (Obj.cells #[.string (ByteArray.mk #[]), .int .i64 0, .bool false, .int .i64 0, .slice none 0 0] 46)).alloc (Obj.cells #[.string name, .int .i64 link, .bool fx, .int .i64 size, .slice none 0 0] 46)) := ⟨_, rfl⟩
  rw [← hW]
  obtain ⟨B0, z0, r1, r2, u0, hx, hz⟩ := three w _ _ _ _ _ _ hW
  have p0 : At W0 (w.heap.size + 1 + 1) 0 (.string name) := hz _ _ rfl
  have p1 : At W0 (w.heap.size + 1 + 1) 1 (.int .i64 link) := hz _ _ rfl
  have p2 : At W0 (w.heap.size + 1 + 1) 2 (.bool fx) := hz _ _ rfl
  have p3 : At W0 (w.heap.size + 1 + 1) 3 (.int .i64 size) := hz _ _ rfl
  clear hW hx hz
  refine (toBytes _ bytes W0 (HA.out _ B0) n1).mono ?_
  rintro e w1 ⟨v', rfl, hA, hb1, hu1⟩
  have U1 := Kp.mk (u0.call hb1 hu1)
  clear u0 hu1
  rw [z0] at hA
  obtain ⟨a1, k1, rfl⟩ := hA.shape
  have q1 : Rw w1 (w.heap.size + 1) 5 := r1.keep hb1
  have q2 : Rw w1 (w.heap.size + 1 + 1) 5 := r2.keep hb1
  have o0 := at_keep p0 hb1
  have o1 := at_keep p1 hb1
  have o2 := at_keep p2 hb1
  have o3 := at_keep p3 hb1
  have B1 := Kp.mk (bel_trans B0 hb1)
  have HA1 := Kp.mk hA
  obtain ⟨_, c4, f4⟩ := q2.at (j := 4) (by omega)
  obtain ⟨_, d0, g0⟩ := q1.at (j := 0) (by omega)
  obtain ⟨_, d1, g1⟩ := q1.at (j := 1) (by omega)
  obtain ⟨_, d2, g2⟩ := q1.at (j := 2) (by omega)
  obtain ⟨_, d3, g3⟩ := q1.at (j := 3) (by omega)
  obtain ⟨_, d4, g4⟩ := q1.at (j := 4) (by omega)
  clear hA r1 r2 z0 B0 hb1 HA p0 p1 p2 p3
  go_wp2_with fail
  have l2 : w.heap.size ≤ w.heap.size + 1 + 1 := by omega
  have l1 : w.heap.size ≤ w.heap.size + 1 := by omega
  have P := put5 (q1.sets (w.heap.size + 1 + 1) 4 (.slice a1 bytes.length k1)) (by omega) (.string name) (.int .i64 link) (.bool fx) (.int .i64 size) (.slice a1 bytes.length k1)
  have K5 : Keeps (w.heap.size + 1 + 1 + 1) w1 (w1.setCell ⟨w.heap.size + 1 + 1, 4, none⟩ (.slice a1 bytes.length k1)) := keeps_set (by omega)
  have PZ := bel_set (k := 4) (bel_set (k := 3) (bel_set (k := 2) (bel_set (k := 1) (bel_set (k := 0) (bel_set (k := 4) B1.out l2 (.slice a1 bytes.length k1)) l1 (.string name)) l1 (.int .i64 link)) l1 (.bool fx)) l1 (.int .i64 size)) l1 (.slice a1 bytes.length k1)
  refine bodyPost_ret (v := .agg #[.string name, .int .i64 link, .bool fx, .int .i64 size, .slice a1 bytes.length k1]) ?_ rfl ⟨_, rfl, HA1.out.mono (by omega) (K5.trans (fun b o v l q => P b o v q (by omega))), PZ, (((((U1.out.set _ _ _).set _ _ _).set _ _ _).set _ _ _).set _ _ _).set _ _ _⟩
  clear PZ K5 P B1 HA1 U1 o0 o1 o2 o3 f4 q2
  simp [results, Tryd.results27, go_sem, d0, d1, d2, d3, d4]
set_option maxRecDepth 100000 in
set_option maxHeartbeats 2000000 in
theorem toGls (v : Value) (xs : List GlD) (w : World) {lo : Nat} (h : Gls lo w v xs) (hn : xs.length + glsN xs ≤ 1048576) :
    Calls Tryd.prog 14 #[v] w fun e w' => ∃ v', e = .returned v' ∧ Gls w.heap.size w' v' xs ∧ Below w.heap.size w w' ∧ Unf w.heap.size w' := by
  obtain ⟨b, o, ⟨⟨a, cap, rfl, h1, h2⟩, h3⟩, -, hc⟩ := h.ex
  have Hn := glsN_of xs
  have hnn := Hn.2
  have hN : Kp (∀ i (h : i < xs.length), glN xs[i] ≤ 1048576) := ⟨fun i h => by have := Hn.1 i h; omega⟩
  have g1 : (xs.length : Int) ≤ 1048576 := by omega
  clear Hn hn hnn
  obtain ⟨O, hmk, hrw⟩ := mk_row 31 46 (.agg #[.string (ByteArray.mk #[]), .int .i64 0, .bool false, .int .i64 0, .slice none 0 0]) 5 64 Tryd.underlying31 (by kernel_rfl) xs.length (by omega) (by omega)
  have HR : Kp (∀ W : World, Rw (W.alloc O) W.heap.size (xs.length * 5)) := ⟨hrw⟩
  clear hrw
  go_enter Tryd.func14, Tryd.ntmps14
  go_wp2_with fail
  go_loopw [4] (fun s wr => ∃ i : Nat, i ≤ xs.length ∧ s = .int .i64 i ∧ Below w.heap.size w wr ∧ Unf w.heap.size wr ∧ Rw wr w.heap.size (xs.length * 5) ∧ ∀ j (hj : j < xs.length), j < i → ∃ vb, GlAt (w.heap.size + 1) wr w.heap.size (j * 5) xs[j] vb) (fun s _ => xs.length - (intOf s).toNat)
  case atStart => exact ⟨0, Nat.zero_le _, rfl, bel_alloc _ _, Unf.new (HR.out w), HR.out w, fun j _ hj => absurd hj (Nat.not_lt_zero _)⟩
  case round =>
    obtain ⟨i, hi, rfl, hB, hU, hR, hd⟩ := hrel
    have HD : Kp _ := ⟨hd⟩
    clear hd
    by_cases hlt : i < xs.length
    · have ha := h2 (by omega)
      subst ha
      obtain ⟨vb, hq⟩ := hc i hlt
      have hl := Kp.mk hlt
      have nd := hN.out i hlt
      obtain ⟨d, hd⟩ : ∃ d, Kp (xs[i] = d) := ⟨_, ⟨rfl⟩⟩
      have hq := hq.keep hB
      rw [hd.out] at hq nd
      obtain ⟨hnm, c0, c1, c2, c3, c4, hv⟩ := hq
      have HNM := Kp.mk hnm
      clear hnm
      obtain ⟨a1, k1, rfl⟩ := hv.shape
      have hV := Kp.mk (toGl d _ wr hv nd)
      clear hc hv nd
      go_wp2_with fail
      refine hV.out.mono ?_
      rintro e w1 ⟨vb', rfl, hv, hb1, hu1⟩
      have hU1 := hU.call hb1 hu1
      obtain ⟨a1', k1', rfl⟩ := hv.shape
      have HV := Kp.mk hv
      have hR1 := hR.keep hb1
      clear hv hV c0 c1 c2 c3 c4
      obtain ⟨_, z0, f0⟩ := hR1.at (j := i * 5) (by omega)
      obtain ⟨_, z1, f1⟩ := hR1.at (j := i * 5 + 1) (by omega)
      obtain ⟨_, z2, f2⟩ := hR1.at (j := i * 5 + 2) (by omega)
      obtain ⟨_, z3, f3⟩ := hR1.at (j := i * 5 + 3) (by omega)
      obtain ⟨_, z4, f4⟩ := hR1.at (j := i * 5 + 4) (by omega)
      go_wp2_with fail
      have P := put5i hR1 (i := i * 5) (by omega) (.string d.name) (.int .i64 d.link) (.bool d.fx) (.int .i64 d.size) (.slice a1' d.bytes.length k1')
      have hlr := hR.lt
      refine ⟨⟨i + 1, by omega, by go_num, ?_, ((((hU1.set _ _ _).set _ _ _).set _ _ _).set _ _ _).set _ _ _, P.2.1, fun j hj hji => ?_⟩, by simp [intOf]; omega⟩
      · have l := Nat.le_refl w.heap.size
        have PB := bel_trans hB hb1
        exact bel_set (bel_set (bel_set (bel_set (bel_set PB l _) l _) l _) l _) l _
      · by_cases e : j = i
        · subst e
          rw [hd.out]
          obtain ⟨p0, p1, p2, p3, p4⟩ := P.1
          exact ⟨_, HNM.out, p0, p1, p2, p3, p4, HV.out.mono (by omega) (fun b o v l q => P.2.2 b o v q (by omega))⟩
        · obtain ⟨vb, q⟩ := HD.out j hj (by omega)
          have q := q.keep hb1
          exact ⟨_, q.n, P.2.2 _ _ _ q.c0 (by omega), P.2.2 _ _ _ q.c1 (by omega), P.2.2 _ _ _ q.c2 (by omega), P.2.2 _ _ _ q.c3 (by omega), P.2.2 _ _ _ q.c4 (by omega), q.y.mono (Nat.le_refl _) (fun b o v l q => P.2.2 b o v q (by omega))⟩
    · clear h2 hc hmk
      go_wp2_with fail
      go_ret
      exact ⟨_, rfl, ⟨w.heap.size, 0, ⟨⟨_, _, rfl, Nat.le_refl _, fun _ => rfl⟩, h3⟩, Nat.le_refl _, fun j hj => by
        rw [Nat.zero_add]
        obtain ⟨vb, q⟩ := HD.out j hj (by omega)
        exact ⟨vb, q.n, q.c0, q.c1, q.c2, q.c3, q.c4, q.y.mono (by omega) (fun _ _ _ _ h => h)⟩⟩, hB, hU⟩
set_option maxRecDepth 100000 in
set_option maxHeartbeats 2000000 in
theorem toFns (v : Value) (xs : List FnD) (w : World) {lo : Nat} (h : Fns lo w v xs) (hn : xs.length + fnsN xs ≤ 1048576) :
    Calls Tryd.prog 15 #[v] w fun e w' => ∃ v', e = .returned v' ∧ Fns w.heap.size w' v' xs ∧ Below w.heap.size w w' ∧ Unf w.heap.size w' := by
  obtain ⟨b, o, ⟨⟨a, cap, rfl, h1, h2⟩, h3⟩, -, hc⟩ := h.ex
  have Hn := fnsN_of xs
  have hnn := Hn.2
  have hN : Kp (∀ i (h : i < xs.length), fnN xs[i] ≤ 1048576) := ⟨fun i h => by have := Hn.1 i h; omega⟩
  have g1 : (xs.length : Int) ≤ 1048576 := by omega
  clear Hn hn hnn
  obtain ⟨O, hmk, hrw⟩ := mk_row 32 66 (.agg #[.string (ByteArray.mk #[]), .int .i64 0, .slice none 0 0, .int .i64 0, .slice none 0 0]) 5 80 Tryd.underlying32 (by kernel_rfl) xs.length (by omega) (by omega)
  have HR : Kp (∀ W : World, Rw (W.alloc O) W.heap.size (xs.length * 5)) := ⟨hrw⟩
  clear hrw
  go_enter Tryd.func15, Tryd.ntmps15
  go_wp2_with fail
  go_loopw [4] (fun s wr => ∃ i : Nat, i ≤ xs.length ∧ s = .int .i64 i ∧ Below w.heap.size w wr ∧ Unf w.heap.size wr ∧ Rw wr w.heap.size (xs.length * 5) ∧ ∀ j (hj : j < xs.length), j < i → ∃ vp vb, FcAt (w.heap.size + 1) wr w.heap.size (j * 5) xs[j] vp vb) (fun s _ => xs.length - (intOf s).toNat)
  case atStart => exact ⟨0, Nat.zero_le _, rfl, bel_alloc _ _, Unf.new (HR.out w), HR.out w, fun j _ hj => absurd hj (Nat.not_lt_zero _)⟩
  case round =>
    obtain ⟨i, hi, rfl, hB, hU, hR, hd⟩ := hrel
    have HD : Kp _ := ⟨hd⟩
    clear hd
    by_cases hlt : i < xs.length
    · have ha := h2 (by omega)
      subst ha
      obtain ⟨vp, vb, hq⟩ := hc i hlt
      have hl := Kp.mk hlt
      have nd := hN.out i hlt
      obtain ⟨d, hd⟩ : ∃ d, Kp (xs[i] = d) := ⟨_, ⟨rfl⟩⟩
      have hq := hq.keep hB
      rw [hd.out] at hq nd
      obtain ⟨c0, c1, c2, c3, c4, hv⟩ := hq
      obtain ⟨a1, k1, rfl⟩ := hv.p.shape
      obtain ⟨a2, k2, rfl⟩ := hv.b.shape
      have hV := Kp.mk (toFn d _ _ wr hv nd)
      clear hc hv nd
      go_wp2_with fail
      refine hV.out.mono ?_
      rintro e w1 ⟨vp', vb', rfl, hv, hb1, hu1⟩
      have hU1 := hU.call hb1 hu1
      obtain ⟨a1', k1', rfl⟩ := hv.p.shape
      obtain ⟨a2', k2', rfl⟩ := hv.b.shape
      have HV := Kp.mk hv
      have hR1 := hR.keep hb1
      clear hv hV c0 c1 c2 c3 c4
      obtain ⟨_, z0, f0⟩ := hR1.at (j := i * 5) (by omega)
      obtain ⟨_, z1, f1⟩ := hR1.at (j := i * 5 + 1) (by omega)
      obtain ⟨_, z2, f2⟩ := hR1.at (j := i * 5 + 2) (by omega)
      obtain ⟨_, z3, f3⟩ := hR1.at (j := i * 5 + 3) (by omega)
      obtain ⟨_, z4, f4⟩ := hR1.at (j := i * 5 + 4) (by omega)
      go_wp2_with fail
      have P := put5i hR1 (i := i * 5) (by omega) (.string d.name) (.int .i64 d.link) (.slice a1' d.params.length k1') (.int .i64 d.res) (.slice a2' d.blocks.length k2')
      have hlr := hR.lt
      refine ⟨⟨i + 1, by omega, by go_num, ?_, ((((hU1.set _ _ _).set _ _ _).set _ _ _).set _ _ _).set _ _ _, P.2.1, fun j hj hji => ?_⟩, by simp [intOf]; omega⟩
      · have l := Nat.le_refl w.heap.size
        have PB := bel_trans hB hb1
        exact bel_set (bel_set (bel_set (bel_set (bel_set PB l _) l _) l _) l _) l _
      · by_cases e : j = i
        · subst e
          rw [hd.out]
          obtain ⟨p0, p1, p2, p3, p4⟩ := P.1
          exact ⟨_, _, p0, p1, p2, p3, p4, HV.out.mono (by omega) (fun b o v l q => P.2.2 b o v q (by omega))⟩
        · obtain ⟨vp, vb, q⟩ := HD.out j hj (by omega)
          have q := q.keep hb1
          exact ⟨_, _, P.2.2 _ _ _ q.c0 (by omega), P.2.2 _ _ _ q.c1 (by omega), P.2.2 _ _ _ q.c2 (by omega), P.2.2 _ _ _ q.c3 (by omega), P.2.2 _ _ _ q.c4 (by omega), q.f.mono (Nat.le_refl _) (fun b o v l q => P.2.2 b o v q (by omega))⟩
    · clear h2 hc hmk
      go_wp2_with fail
      go_ret
      exact ⟨_, rfl, ⟨w.heap.size, 0, ⟨⟨_, _, rfl, Nat.le_refl _, fun _ => rfl⟩, h3⟩, Nat.le_refl _, fun j hj => by
        rw [Nat.zero_add]
        obtain ⟨vp, vb, q⟩ := HD.out j hj (by omega)
        exact ⟨vp, vb, q.c0, q.c1, q.c2, q.c3, q.c4, q.f.mono (by omega) (fun _ _ _ _ h => h)⟩⟩, hB, hU⟩
end Go.Proofs.YtikecpcgcccmoaaDoor
