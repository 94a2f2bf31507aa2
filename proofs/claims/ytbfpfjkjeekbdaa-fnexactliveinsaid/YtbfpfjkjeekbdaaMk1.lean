/- Marks set in every cell of what a function's data is: only cells that hold whole numbers turn. -/
import Derived.Test.YtbfpfjkjeekbdaaPl
namespace Go.Proofs.Ytbfpfjkjeekbdaa
open Go.ChangeShapes Go.WideShapes Go.ChangeAt Go.RowKit
open Go.Sort (grow)
set_option linter.unusedVariables false
set_option linter.unusedSimpArgs false
/-- Only whole numbers in blocks from lo on, below E, have turned, into such of their kind. -/
structure Mk (lo E : Nat) (w w' : World) : Prop where
  bel : Below lo w w'
  sz : w'.heap.size = w.heap.size
  hi : ∀ b, E ≤ b → w'.heap[b]? = w.heap[b]?
  slc : ∀ b o a n c, At w b o (.slice a n c) → At w' b o (.slice a n c)
  int : ∀ b o k x, At w b o (.int k x) → ∃ y, At w' b o (.int k y)
  frz : ∀ b o, w'.frozen? ⟨b, o, none⟩ = w.frozen? ⟨b, o, none⟩
theorem Mk.refl (lo E : Nat) (w : World) : Mk lo E w w := ⟨Below.refl _ _, rfl, fun _ _ => rfl, fun _ _ _ _ _ h => h, fun _ _ _ x h => ⟨x, h⟩, fun _ _ => rfl⟩
theorem Mk.trans {lo E : Nat} {a b c : World} (h : Mk lo E a b) (k : Mk lo E b c) : Mk lo E a c :=
  ⟨h.bel.trans k.bel, k.sz.trans h.sz, fun i hi => (k.hi i hi).trans (h.hi i hi), fun _ _ _ _ _ q => k.slc _ _ _ _ _ (h.slc _ _ _ _ _ q),
    fun _ _ _ _ q => by obtain ⟨y, q⟩ := h.int _ _ _ _ q; exact k.int _ _ _ _ q, fun _ _ => (k.frz _ _).trans (h.frz _ _)⟩
theorem Mk.set {lo E b o : Nat} {k : IntKind} {x : Int} {w W : World} (h : Mk lo E w W) (hc : At W b o (.int k x)) (h1 : lo ≤ b) (h2 : b < E) (y : Int) : Mk lo E w (W.setCell ⟨b, o, none⟩ (.int k y)) := by
  refine h.trans ⟨bel_set (Below.refl _ _) h1 _, World.size_setCell _ _ _, fun i hi => Below.heap_setCell W ⟨b, o, none⟩ _ i (show i ≠ b by omega), fun b' o' a n c q => ?_, fun b' o' k' x' q => ?_, fun _ _ => by rw [World.frozen?_setCell]⟩
  · by_cases e : b' = b ∧ o' = o
    · obtain ⟨rfl, rfl⟩ := e
      have e := Eq.trans (Eq.symm q) hc
      cases e
    · exact set_other q (by omega)
  · by_cases e : b' = b ∧ o' = o
    · obtain ⟨rfl, rfl⟩ := e
      have e := Eq.trans (Eq.symm q) hc
      cases e
      exact ⟨y, World.cell?_setCell_same _ _ _ q⟩
    · exact ⟨x', set_other q (by omega)⟩
/-- What is not frozen, from lo on, below E. -/
structure UnfE (lo E : Nat) (w : World) : Prop where
  out : ∀ b o, lo ≤ b → b < E → w.frozen? ⟨b, o, none⟩ = false
theorem UnfE.mkd {lo l E : Nat} {w w' : World} (h : UnfE lo E w) (m : Mk l E w w') : UnfE lo E w' := ⟨fun b o h1 h2 => (m.frz b o).trans (h.out b o h1 h2)⟩
theorem Unf.e {lo : Nat} {w : World} (h : Unf lo w) : UnfE lo w.heap.size w := ⟨h.out⟩
theorem UnfE.keep {lo E : Nat} {w w' : World} (h : UnfE lo E w) (hb : Below E w w') : UnfE lo E w' := ⟨fun b o h1 h2 => (hb.frozen (p := ⟨b, o, none⟩) h2).trans (h.out b o h1 h2)⟩
/-- A row of whole numbers, whatever they are. -/
structure IntsS (lo E : Nat) (k : IntKind) (w : World) (v : Value) (n : Nat) : Prop where
  ex : ∃ b o, Sl v n b o ∧ ∀ i, i < n → lo ≤ b ∧ b < E ∧ ∃ x, At w b (o + i) (.int k x)
structure Op4 (w : World) (b o : Nat) : Prop where
  c0 : ∃ x, At w b o (.int .i64 x)
  c1 : ∃ x, At w b (o + 1) (.int .i64 x)
  c2 : ∃ x, At w b (o + 2) (.int .i64 x)
  c3 : ∃ x, At w b (o + 3) (.int .u64 x)
structure OpsS (lo E : Nat) (w : World) (v : Value) (n : Nat) : Prop where
  ex : ∃ b o, Sl v n b o ∧ ∀ i, i < n → lo ≤ b ∧ b < E ∧ Op4 w b (o + i * 4)
structure In9 (lo E : Nat) (w : World) (b o : Nat) (d : InD) (va vb vw : Value) : Prop where
  c0 : ∃ x, At w b o (.int .i64 x)
  c1 : ∃ x, At w b (o + 1) (.int .i64 x)
  c2 : ∃ x, At w b (o + 2) (.int .i64 x)
  c3 : ∃ x, At w b (o + 3) (.int .i64 x)
  c4 : ∃ x, At w b (o + 4) (.int .i64 x)
  c5 : ∃ x, At w b (o + 5) (.int .i64 x)
  c6 : At w b (o + 6) va
  c7 : At w b (o + 7) vb
  c8 : At w b (o + 8) vw
  a : OpsS lo E w va d.args.length
  b : IntsS lo E .i64 w vb d.bl.length
  w : IntsS lo E .u64 w vw d.ws.length
structure InsS (lo E : Nat) (w : World) (v : Value) (xs : List InD) : Prop where
  ex : ∃ b o, Sl v xs.length b o ∧ ∀ i (h : i < xs.length), lo ≤ b ∧ b < E ∧ ∃ va vb vw, In9 lo E w b (o + i * 9) xs[i] va vb vw
structure BlsS (lo E : Nat) (w : World) (v : Value) (xs : List (List InD)) : Prop where
  ex : ∃ b o, Sl v xs.length b o ∧ ∀ i (h : i < xs.length), lo ≤ b ∧ b < E ∧ ∃ vi, At w b (o + i) vi ∧ InsS lo E w vi xs[i]
structure FnS (lo E : Nat) (w : World) (d : FnD) (vp vb : Value) : Prop where
  p : IntsS lo E .i64 w vp d.params.length
  b : BlsS lo E w vb d.blocks
theorem IntsS.mkd {lo E : Nat} {k : IntKind} {w w' : World} {v : Value} {n : Nat} (h : IntsS lo E k w v n) (m : Mk lo E w w') : IntsS lo E k w' v n := by
  obtain ⟨b, o, s, c⟩ := h.ex
  exact ⟨b, o, s, fun i hi => by obtain ⟨h1, h2, x, q⟩ := c i hi; exact ⟨h1, h2, m.int _ _ _ _ q⟩⟩
theorem Op4.mkd {lo E b o : Nat} {w w' : World} (h : Op4 w b o) (m : Mk lo E w w') : Op4 w' b o := by
  obtain ⟨⟨x0, h0⟩, ⟨x1, h1⟩, ⟨x2, h2⟩, ⟨x3, h3⟩⟩ := h
  exact ⟨m.int _ _ _ _ h0, m.int _ _ _ _ h1, m.int _ _ _ _ h2, m.int _ _ _ _ h3⟩
theorem OpsS.mkd {lo E : Nat} {w w' : World} {v : Value} {n : Nat} (h : OpsS lo E w v n) (m : Mk lo E w w') : OpsS lo E w' v n := by
  obtain ⟨b, o, s, c⟩ := h.ex
  exact ⟨b, o, s, fun i hi => by obtain ⟨h1, h2, q⟩ := c i hi; exact ⟨h1, h2, q.mkd m⟩⟩
theorem IntsS.slc {lo E : Nat} {k : IntKind} {w : World} {v : Value} {n : Nat} (h : IntsS lo E k w v n) : ∃ a c, v = .slice a n c := by
  obtain ⟨b, o, ⟨⟨a, c, rfl, _⟩, _⟩, _⟩ := h.ex
  exact ⟨a, c, rfl⟩
theorem OpsS.slc {lo E : Nat} {w : World} {v : Value} {n : Nat} (h : OpsS lo E w v n) : ∃ a c, v = .slice a n c := by
  obtain ⟨b, o, ⟨⟨a, c, rfl, _⟩, _⟩, _⟩ := h.ex
  exact ⟨a, c, rfl⟩
theorem InsS.slc {lo E : Nat} {w : World} {v : Value} {xs : List InD} (h : InsS lo E w v xs) : ∃ a c, v = .slice a xs.length c := by
  obtain ⟨b, o, ⟨⟨a, c, rfl, _⟩, _⟩, _⟩ := h.ex
  exact ⟨a, c, rfl⟩
theorem In9.mkd {lo E b o : Nat} {w w' : World} {d : InD} {va vb vw : Value} (h : In9 lo E w b o d va vb vw) (m : Mk lo E w w') : In9 lo E w' b o d va vb vw := by
  obtain ⟨⟨x0, h0⟩, ⟨x1, h1⟩, ⟨x2, h2⟩, ⟨x3, h3⟩, ⟨x4, h4⟩, ⟨x5, h5⟩, h6, h7, h8, ha, hb, hw⟩ := h
  obtain ⟨a1, k1, rfl⟩ := ha.slc
  obtain ⟨a2, k2, rfl⟩ := hb.slc
  obtain ⟨a3, k3, rfl⟩ := hw.slc
  exact ⟨m.int _ _ _ _ h0, m.int _ _ _ _ h1, m.int _ _ _ _ h2, m.int _ _ _ _ h3, m.int _ _ _ _ h4, m.int _ _ _ _ h5, m.slc _ _ _ _ _ h6, m.slc _ _ _ _ _ h7, m.slc _ _ _ _ _ h8, ha.mkd m, hb.mkd m, hw.mkd m⟩
theorem InsS.mkd {lo E : Nat} {w w' : World} {v : Value} {xs : List InD} (h : InsS lo E w v xs) (m : Mk lo E w w') : InsS lo E w' v xs := by
  obtain ⟨b, o, s, c⟩ := h.ex
  exact ⟨b, o, s, fun i hi => by obtain ⟨h1, h2, va, vb, vw, q⟩ := c i hi; exact ⟨h1, h2, va, vb, vw, q.mkd m⟩⟩
theorem BlsS.mkd {lo E : Nat} {w w' : World} {v : Value} {xs : List (List InD)} (h : BlsS lo E w v xs) (m : Mk lo E w w') : BlsS lo E w' v xs := by
  obtain ⟨b, o, s, c⟩ := h.ex
  exact ⟨b, o, s, fun i hi => by
    obtain ⟨h1, h2, vi, q, r⟩ := c i hi
    obtain ⟨a, k, rfl⟩ := r.slc
    exact ⟨h1, h2, _, m.slc _ _ _ _ _ q, r.mkd m⟩⟩
/-- The shape of data that lies there. -/
theorem Ints.s {lo : Nat} {k : IntKind} {w : World} {v : Value} {xs : List Int} (h : Ints lo k w v xs) : IntsS lo w.heap.size k w v xs.length := by
  obtain ⟨b, o, s, l, c⟩ := h.ex
  exact ⟨b, o, s, fun i hi => ⟨l, Lib.lt_of_cell (c i hi), _, c i hi⟩⟩
theorem Ops.s {lo : Nat} {w : World} {v : Value} {xs : List OpD} (h : Ops lo w v xs) : OpsS lo w.heap.size w v xs.length := by
  obtain ⟨b, o, s, l, c⟩ := h.ex
  exact ⟨b, o, s, fun i hi => ⟨l, Lib.lt_of_cell (c i hi).c0, ⟨_, (c i hi).c0⟩, ⟨_, (c i hi).c1⟩, ⟨_, (c i hi).c2⟩, ⟨_, (c i hi).c3⟩⟩⟩
theorem Ins.s {lo : Nat} {w : World} {v : Value} {xs : List InD} (h : Ins lo w v xs) : InsS lo w.heap.size w v xs := by
  obtain ⟨b, o, s, l, c⟩ := h.ex
  refine ⟨b, o, s, fun i hi => ?_⟩
  obtain ⟨va, vb, vw, q⟩ := c i hi
  exact ⟨l, Lib.lt_of_cell q.c0, va, vb, vw, ⟨_, q.c0⟩, ⟨_, q.c1⟩, ⟨_, q.c2⟩, ⟨_, q.c3⟩, ⟨_, q.c4⟩, ⟨_, q.c5⟩, q.c6, q.c7, q.c8, q.l.a.s, q.l.b.s, q.l.c.s⟩
theorem Bls.s {lo : Nat} {w : World} {v : Value} {xs : List (List InD)} (h : Bls lo w v xs) : BlsS lo w.heap.size w v xs := by
  obtain ⟨b, o, s, l, c⟩ := h.ex
  refine ⟨b, o, s, fun i hi => ?_⟩
  obtain ⟨vi, q, r⟩ := c i hi
  exact ⟨l, Lib.lt_of_cell q, vi, q, r.s⟩
theorem FnAt.s {lo : Nat} {w : World} {d : FnD} {vp vb : Value} (h : FnAt lo w d vp vb) : FnS lo w.heap.size w d vp vb := ⟨h.p.s, h.b.s⟩
set_option maxRecDepth 100000 in
set_option maxHeartbeats 2000000 in
theorem mkInts (lo E : Nat) (v : Value) (n : Nat) (k : Int) (w : World) (h : IntsS lo E .i64 w v n) (hu : UnfE lo E w) (hE : E ≤ w.heap.size) (hn : n ≤ 1048576) (k0 : 0 ≤ k) (k1 : k ≤ 1099511627776) :
    Calls Try.prog 13 #[v, .int .i64 k] w fun e w' => e = .returned (.int .i64 (k + n)) ∧ Mk lo E w w' := by
  obtain ⟨b, o, ⟨⟨a, cap, rfl, h1, h2⟩, h3⟩, hc⟩ := h.ex
  have g1 : (n : Int) ≤ 1048576 := by omega
  replace h2 := Kp.mk h2
  replace hc := Kp.mk hc
  clear h
  go_enter Try.func13, Try.ntmps13
  go_wp2_with fail
  go_loopw [1, 5] (fun r s wr => ∃ i : Nat, i ≤ n ∧ s = .int .i64 i ∧ r = .int .i64 (k + i) ∧ Mk lo E w wr) (fun _ s _ => n - (intOf s).toNat)
  case atStart => exact ⟨0, Nat.zero_le _, rfl, by simp, Mk.refl _ _ _⟩
  case round =>
    obtain ⟨i, hi, rfl, rfl, hM⟩ := hrel
    by_cases hlt : i < n
    · obtain rfl := h2.out (by omega)
      obtain ⟨l1, l2, x, cz⟩ := hc.out i hlt
      obtain ⟨z, cz⟩ := hM.int _ _ _ _ cz
      have fz := (hu.mkd hM).out b (o + i) l1 l2
      have hS := hM.set cz l1 l2 (k + i)
      replace hM := Kp.mk hM
      go_wp2_with fail
      exact ⟨⟨i + 1, by omega, by go_num, by go_num, hS⟩, by simp [intOf]; omega⟩
    · obtain rfl : i = n := by omega
      go_wp2_with fail
      go_ret
      exact ⟨rfl, hM⟩
set_option maxRecDepth 100000 in
set_option maxHeartbeats 2000000 in
theorem mkWords (lo E : Nat) (v : Value) (n : Nat) (k : Int) (w : World) (h : IntsS lo E .u64 w v n) (hu : UnfE lo E w) (hE : E ≤ w.heap.size) (hn : n ≤ 1048576) (k0 : 0 ≤ k) (k1 : k ≤ 1099511627776) :
    Calls Try.prog 78 #[v, .int .i64 k] w fun e w' => e = .returned (.int .i64 (k + n)) ∧ Mk lo E w w' := by
  obtain ⟨b, o, ⟨⟨a, cap, rfl, h1, h2⟩, h3⟩, hc⟩ := h.ex
  have g1 : (n : Int) ≤ 1048576 := by omega
  replace h2 := Kp.mk h2
  replace hc := Kp.mk hc
  clear h
  go_enter Try.func78, Try.ntmps78
  go_wp2_with fail
  go_loopw [1, 5] (fun r s wr => ∃ i : Nat, i ≤ n ∧ s = .int .i64 i ∧ r = .int .i64 (k + i) ∧ Mk lo E w wr) (fun _ s _ => n - (intOf s).toNat)
  case atStart => exact ⟨0, Nat.zero_le _, rfl, by simp, Mk.refl _ _ _⟩
  case round =>
    obtain ⟨i, hi, rfl, rfl, hM⟩ := hrel
    by_cases hlt : i < n
    · obtain rfl := h2.out (by omega)
      obtain ⟨l1, l2, x, cz⟩ := hc.out i hlt
      obtain ⟨z, cz⟩ := hM.int _ _ _ _ cz
      have fz := (hu.mkd hM).out b (o + i) l1 l2
      have hS := hM.set cz l1 l2 (k + i)
      replace hM := Kp.mk hM
      go_wp2_with fail
      exact ⟨⟨i + 1, by omega, by go_num, by go_num, hS⟩, by simp [intOf]; omega⟩
    · obtain rfl : i = n := by omega
      go_wp2_with fail
      go_ret
      exact ⟨rfl, hM⟩
set_option maxRecDepth 100000 in
set_option maxHeartbeats 2000000 in
theorem mkOps (lo E : Nat) (v : Value) (n : Nat) (k : Int) (w : World) (h : OpsS lo E w v n) (hu : UnfE lo E w) (hE : E ≤ w.heap.size) (hn : n ≤ 1048576) (k0 : 0 ≤ k) (k1 : k ≤ 1099511627776) :
    Calls Try.prog 77 #[v, .int .i64 k] w fun e w' => e = .returned (.int .i64 (k + 4 * n)) ∧ Mk lo E w w' := by
  obtain ⟨b, o, ⟨⟨a, cap, rfl, h1, h2⟩, h3⟩, hc⟩ := h.ex
  have g1 : (n : Int) ≤ 1048576 := by omega
  replace h2 := Kp.mk h2
  replace hc := Kp.mk hc
  clear h
  go_enter Try.func77, Try.ntmps77
  go_wp2_with fail
  go_loopw [1, 5] (fun r s wr => ∃ i : Nat, i ≤ n ∧ s = .int .i64 i ∧ r = .int .i64 (k + 4 * i) ∧ Mk lo E w wr) (fun _ s _ => n - (intOf s).toNat)
  case atStart => exact ⟨0, Nat.zero_le _, rfl, by simp, Mk.refl _ _ _⟩
  case round =>
    obtain ⟨i, hi, rfl, rfl, hM⟩ := hrel
    by_cases hlt : i < n
    · obtain rfl := h2.out (by omega)
      obtain ⟨l1, l2, q⟩ := hc.out i hlt
      obtain ⟨⟨x0, c0⟩, ⟨x1, c1⟩, ⟨x2, c2⟩, ⟨x3, c3⟩⟩ := q.mkd hM
      have fz := fun j => (hu.mkd hM).out b j l1 l2
      have f0 := fz (o + i * 4)
      have f1 := fz (o + i * 4 + 1)
      have f2 := fz (o + i * 4 + 2)
      have f3 := fz (o + i * 4 + 3)
      clear fz
      have hS := ((hM.set c0 l1 l2 (k + 4 * i)).set (set_other c1 (by omega)) l1 l2 (k + 4 * i + 1)).set (set_other (set_other c2 (by omega)) (by omega)) l1 l2 (k + 4 * i + 1 + 1) |>.set (set_other (set_other (set_other c3 (by omega)) (by omega)) (by omega)) l1 l2 (k + 4 * i + 1 + 1 + 1)
      replace hM := Kp.mk hM
      go_wp2_with fail
      exact ⟨⟨i + 1, by omega, by go_num, by go_num, hS⟩, by simp [intOf]; omega⟩
    · obtain rfl : i = n := by omega
      go_wp2_with fail
      go_ret
      exact ⟨rfl, hM⟩
end Go.Proofs.Ytbfpfjkjeekbdaa
namespace Go.Proofs.Ytbfpfjkjeekbdaa
open Go.ChangeShapes Go.WideShapes Go.ChangeAt Go.RowKit
open Go.Sort (grow)
set_option linter.unusedVariables false
set_option linter.unusedSimpArgs false
set_option maxRecDepth 100000 in
set_option maxHeartbeats 2000000 in
theorem mkIns (lo E : Nat) (v : Value) (xs : List InD) (k : Int) (w : World) (h : InsS lo E w v xs) (hu : UnfE lo E w) (hE : E ≤ w.heap.size) (hn : blN xs ≤ 1048576) (k0 : 0 ≤ k) (k1 : k ≤ 549755813888) :
    Calls Try.prog 58 #[v, .int .i64 k] w fun e w' => ∃ r, e = .returned (.int .i64 r) ∧ k ≤ r ∧ r ≤ k + 6 * blN xs ∧ Mk lo E w w' := by
  obtain ⟨b, o, ⟨⟨a, cap, rfl, h1, h2⟩, h3⟩, hc⟩ := h.ex
  have nn := insN_nn xs
  unfold blN at hn ⊢
  have g1 : (xs.length : Int) ≤ 1048576 := by omega
  have HS : Kp (∀ i (h : i < xs.length), insN (xs.take (i + 1)) = insN (xs.take i) + inN xs[i] ∧ insN (xs.take (i + 1)) ≤ insN xs ∧ 0 ≤ insN (xs.take i)) := ⟨fun i h => ⟨insN_snoc xs i h, insN_le xs (i + 1), insN_nn _⟩⟩
  have HI : Kp (∀ i, insN (xs.take i) ≤ insN xs ∧ 0 ≤ insN (xs.take i)) := ⟨fun i => ⟨insN_le xs i, insN_nn _⟩⟩
  replace h2 := Kp.mk h2
  replace hc := Kp.mk hc
  clear h
  go_enter Try.func58, Try.ntmps58
  go_wp2_with fail
  go_loopw [1, 5] (fun r s wr => ∃ (i : Nat) (q : Int), i ≤ xs.length ∧ s = .int .i64 i ∧ r = .int .i64 q ∧ k ≤ q ∧ q ≤ k + (6 * i + 4 * insN (xs.take i)) ∧ Mk lo E w wr) (fun _ s _ => xs.length - (intOf s).toNat)
  case atStart => exact ⟨0, k, Nat.zero_le _, rfl, rfl, Int.le_refl _, by simp [insN], Mk.refl _ _ _⟩
  case round =>
    obtain ⟨i, r, hi, rfl, rfl, r0, r1, hM⟩ := hrel
    by_cases hlt : i < xs.length
    · obtain rfl := h2.out (by omega)
      obtain ⟨l1, l2, va, vb, vw, Q⟩ := hc.out i hlt
      obtain ⟨s1, s2, s3⟩ := HS.out i hlt
      have hIN := s1
      unfold inN at hIN
      have d0 : xs[i].args.length ≤ 1048576 := by omega
      have d1 : xs[i].bl.length ≤ 1048576 := by omega
      have d2 : xs[i].ws.length ≤ 1048576 := by omega
      have d3 : (xs[i].args.length : Int) + xs[i].bl.length + xs[i].ws.length = insN (xs.take (i + 1)) - insN (xs.take i) := by omega
      clear s1 hIN
      have QK : Kp _ := ⟨Q⟩
      obtain ⟨a1, k1', rfl⟩ := Q.a.slc
      obtain ⟨a2, k2', rfl⟩ := Q.b.slc
      obtain ⟨a3, k3', rfl⟩ := Q.w.slc
      generalize xs[i] = d at *
      obtain ⟨⟨x0, c0⟩, ⟨x1, c1⟩, ⟨x2, c2⟩, ⟨x3, c3⟩, ⟨x4, c4⟩, ⟨x5, c5⟩, c6, -, -, -, -, -⟩ := Q.mkd hM
      clear Q
      have fz := fun j => (hu.mkd hM).out b j l1 l2
      have f0 := fz (o + i * 9)
      have f1 := fz (o + i * 9 + 1)
      have f2 := fz (o + i * 9 + 2)
      have f3 := fz (o + i * 9 + 3)
      have f4 := fz (o + i * 9 + 4)
      have f5 := fz (o + i * 9 + 5)
      clear fz
      obtain ⟨n0, n1⟩ := HI.out i
      obtain ⟨n2, n3⟩ := HI.out (i + 1)
      have kb : r ≤ 1099511627776 - 8388608 := by omega
      have hS := ((((((hM.set c0 l1 l2 r).set (set_other c1 (by omega)) l1 l2 (r + 1)).set (set_other (set_other c2 (by omega)) (by omega)) l1 l2 (r + 1 + 1)).set (set_other (set_other (set_other c3 (by omega)) (by omega)) (by omega)) l1 l2 (r + 1 + 1 + 1)).set (set_other (set_other (set_other (set_other c4 (by omega)) (by omega)) (by omega)) (by omega)) l1 l2 (r + 1 + 1 + 1 + 1)).set (set_other (set_other (set_other (set_other (set_other c5 (by omega)) (by omega)) (by omega)) (by omega)) (by omega)) l1 l2 (r + 1 + 1 + 1 + 1 + 1))
      replace hM := Kp.mk hM
      go_wp2_with fail
      refine (mkOps lo E _ _ _ _ (QK.out.mkd hS).a (hu.mkd hS) (by rw [hS.sz]; exact hE) d0 (by omega) (by omega)).mono ?_
      rintro e w1 ⟨rfl, hM1⟩
      have hT1 := hS.trans hM1
      have c7 := (QK.out.mkd hT1).c7
      clear c0 c1 c2 c3 c4 c5 c6 f0 f1 f2 f3 f4 f5 hS hM1 hM
      go_wp2_with fail
      refine (mkInts lo E _ _ _ _ (QK.out.mkd hT1).b (hu.mkd hT1) (by rw [hT1.sz]; exact hE) d1 (by omega) (by omega)).mono ?_
      rintro e w2 ⟨rfl, hM2⟩
      have hT2 := hT1.trans hM2
      have c8 := (QK.out.mkd hT2).c8
      clear c7 hM2 hT1
      go_wp2_with fail
      refine (mkWords lo E _ _ _ _ (QK.out.mkd hT2).w (hu.mkd hT2) (by rw [hT2.sz]; exact hE) d2 (by omega) (by omega)).mono ?_
      rintro e w3 ⟨rfl, hM3⟩
      have hT3 := hT2.trans hM3
      clear c8 hM3 hT2
      go_wp2_with fail
      exact ⟨⟨i + 1, _, by omega, by go_num, rfl, by omega, by omega, hT3⟩, by simp [intOf]; omega⟩
    · obtain rfl : i = xs.length := by omega
      rw [List.take_length] at r1
      go_wp2_with fail
      go_ret
      exact ⟨r, rfl, r0, by omega, hM⟩
set_option maxRecDepth 100000 in
set_option maxHeartbeats 2000000 in
theorem mkBls (lo E : Nat) (v : Value) (xs : List (List InD)) (k : Int) (w : World) (h : BlsS lo E w v xs) (hu : UnfE lo E w) (hE : E ≤ w.heap.size) (hn : xs.length + blsN xs ≤ 1048576) (k0 : 0 ≤ k) (k1 : k ≤ 274877906944) :
    Calls Try.prog 35 #[v, .int .i64 k] w fun e w' => ∃ r, e = .returned (.int .i64 r) ∧ k ≤ r ∧ r ≤ k + 6 * blsN xs ∧ Mk lo E w w' := by
  obtain ⟨b, o, ⟨⟨a, cap, rfl, h1, h2⟩, h3⟩, hc⟩ := h.ex
  have nn := blsN_nn xs
  have g1 : (xs.length : Int) ≤ 1048576 := by omega
  have Hn := blsN_of xs
  have HS : Kp (∀ i (h : i < xs.length), blsN (xs.take (i + 1)) = blsN (xs.take i) + blN xs[i] ∧ blN xs[i] ≤ 1048576) := ⟨fun i h => ⟨blsN_snoc xs i h, by have := Hn.1 i h; omega⟩⟩
  have HI : Kp (∀ i, blsN (xs.take i) ≤ blsN xs ∧ 0 ≤ blsN (xs.take i)) := ⟨fun i => ⟨blsN_le xs i, blsN_nn _⟩⟩
  replace h2 := Kp.mk h2
  replace hc := Kp.mk hc
  clear h Hn
  go_enter Try.func35, Try.ntmps35
  go_wp2_with fail
  go_loopw [1, 5] (fun r s wr => ∃ (i : Nat) (q : Int), i ≤ xs.length ∧ s = .int .i64 i ∧ r = .int .i64 q ∧ k ≤ q ∧ q ≤ k + 6 * blsN (xs.take i) ∧ Mk lo E w wr) (fun _ s _ => xs.length - (intOf s).toNat)
  case atStart => exact ⟨0, k, Nat.zero_le _, rfl, rfl, Int.le_refl _, by simp [blsN], Mk.refl _ _ _⟩
  case round =>
    obtain ⟨i, r, hi, rfl, rfl, r0, r1, hM⟩ := hrel
    by_cases hlt : i < xs.length
    · obtain rfl := h2.out (by omega)
      obtain ⟨l1, l2, vi, q, Q⟩ := hc.out i hlt
      obtain ⟨s1, s2⟩ := HS.out i hlt
      have Q1 := Q.mkd hM
      obtain ⟨ai, ki, rfl⟩ := Q.slc
      have c0 := hM.slc _ _ _ _ _ q
      generalize xs[i] = ys at *
      obtain ⟨n0, n1⟩ := HI.out i
      have C := Kp.mk (mkIns lo E _ ys r wr Q1 (hu.mkd hM) (by rw [hM.sz]; exact hE) s2 (by omega) (by omega))
      clear q Q Q1
      go_wp2_with fail
      refine C.out.mono ?_
      rintro e w1 ⟨r', rfl, p1, p2, hM1⟩
      go_wp2_with fail
      exact ⟨⟨i + 1, r', by omega, by go_num, rfl, by omega, by omega, hM.trans hM1⟩, by simp [intOf]; omega⟩
    · obtain rfl : i = xs.length := by omega
      rw [List.take_length] at r1
      go_wp2_with fail
      go_ret
      exact ⟨r, rfl, r0, r1, hM⟩
/-- The shape is kept where the blocks below E are. -/
theorem IntsS.keep {lo E : Nat} {k : IntKind} {w w' : World} {v : Value} {n : Nat} (h : IntsS lo E k w v n) (m : Below E w w') : IntsS lo E k w' v n := by
  obtain ⟨b, o, s, c⟩ := h.ex
  exact ⟨b, o, s, fun i hi => by obtain ⟨h1, h2, x, q⟩ := c i hi; exact ⟨h1, h2, x, (m.cell (p := ⟨_, _, none⟩) h2).trans q⟩⟩
theorem Op4.keep {E b o : Nat} {w w' : World} (h : Op4 w b o) (m : Below E w w') (hb : b < E) : Op4 w' b o := by
  have t : ∀ o v, At w b o v → At w' b o v := fun o v q => (m.cell (p := ⟨_, _, none⟩) hb).trans q
  obtain ⟨⟨x0, h0⟩, ⟨x1, h1⟩, ⟨x2, h2⟩, ⟨x3, h3⟩⟩ := h
  exact ⟨⟨_, t _ _ h0⟩, ⟨_, t _ _ h1⟩, ⟨_, t _ _ h2⟩, ⟨_, t _ _ h3⟩⟩
theorem OpsS.keep {lo E : Nat} {w w' : World} {v : Value} {n : Nat} (h : OpsS lo E w v n) (m : Below E w w') : OpsS lo E w' v n := by
  obtain ⟨b, o, s, c⟩ := h.ex
  exact ⟨b, o, s, fun i hi => by obtain ⟨h1, h2, q⟩ := c i hi; exact ⟨h1, h2, q.keep m h2⟩⟩
theorem In9.keep {lo E b o : Nat} {w w' : World} {d : InD} {va vb vw : Value} (h : In9 lo E w b o d va vb vw) (m : Below E w w') (hb : b < E) : In9 lo E w' b o d va vb vw := by
  have t : ∀ o v, At w b o v → At w' b o v := fun o v q => (m.cell (p := ⟨_, _, none⟩) hb).trans q
  obtain ⟨⟨x0, h0⟩, ⟨x1, h1⟩, ⟨x2, h2⟩, ⟨x3, h3⟩, ⟨x4, h4⟩, ⟨x5, h5⟩, h6, h7, h8, ha, hb, hw⟩ := h
  exact ⟨⟨_, t _ _ h0⟩, ⟨_, t _ _ h1⟩, ⟨_, t _ _ h2⟩, ⟨_, t _ _ h3⟩, ⟨_, t _ _ h4⟩, ⟨_, t _ _ h5⟩, t _ _ h6, t _ _ h7, t _ _ h8, ha.keep m, hb.keep m, hw.keep m⟩
theorem InsS.keep {lo E : Nat} {w w' : World} {v : Value} {xs : List InD} (h : InsS lo E w v xs) (m : Below E w w') : InsS lo E w' v xs := by
  obtain ⟨b, o, s, c⟩ := h.ex
  exact ⟨b, o, s, fun i hi => by obtain ⟨h1, h2, va, vb, vw, q⟩ := c i hi; exact ⟨h1, h2, va, vb, vw, q.keep m h2⟩⟩
theorem BlsS.keep {lo E : Nat} {w w' : World} {v : Value} {xs : List (List InD)} (h : BlsS lo E w v xs) (m : Below E w w') : BlsS lo E w' v xs := by
  obtain ⟨b, o, s, c⟩ := h.ex
  exact ⟨b, o, s, fun i hi => by obtain ⟨h1, h2, vi, q, r⟩ := c i hi; exact ⟨h1, h2, vi, (m.cell (p := ⟨_, _, none⟩) h2).trans q, r.keep m⟩⟩
theorem FnS.keep {lo E : Nat} {w w' : World} {d : FnD} {vp vb : Value} (h : FnS lo E w d vp vb) (m : Below E w w') : FnS lo E w' d vp vb := ⟨h.p.keep m, h.b.keep m⟩
theorem BlsS.slc {lo E : Nat} {w : World} {v : Value} {xs : List (List InD)} (h : BlsS lo E w v xs) : ∃ a c, v = .slice a xs.length c := by
  obtain ⟨b, o, ⟨⟨a, c, rfl, _⟩, _⟩, _⟩ := h.ex
  exact ⟨a, c, rfl⟩
set_option maxRecDepth 100000 in
set_option maxHeartbeats 2000000 in
theorem mkFn (lo E : Nat) (d : FnD) (vp vb : Value) (k : Int) (w : World) (h : FnS lo E w d vp vb) (hu : UnfE lo E w) (hE : E ≤ w.heap.size) (hl : lo ≤ w.heap.size) (hn : fnN d ≤ 1048576) (k0 : 0 ≤ k) (k1 : k ≤ 1048576) :
    Calls Try.prog 12 #[fnV d vp vb, .int .i64 k] w fun e w' => ∃ r W, e = .returned (.int .i64 r) ∧ k ≤ r ∧ r ≤ k + 8388608 ∧ Below w.heap.size w W ∧ Mk lo E W w' := by
  unfold fnN at hn
  obtain ⟨name, link, params, res, blocks⟩ := d
  obtain ⟨hp, hb⟩ := h
  dsimp only [fnV] at *
  have nn := blsN_nn blocks
  have n1 : params.length ≤ 1048576 := by omega
  have n2 : (blocks.length : Int) + blsN blocks ≤ 1048576 := by omega
  have n3 : blsN blocks ≤ 1048576 := by omega
  clear hn
  obtain ⟨a1, c1, rfl⟩ := hp.slc
  obtain ⟨a2, c2, rfl⟩ := hb.slc
  obtain ⟨W, hW⟩ : ∃ W, W = w.alloc (Go.Obj.cells #[.string name, .int .i64 link, .slice a1 params.length c1, .int .i64 res, .slice a2 blocks.length c2] 30) := ⟨_, rfl⟩
  have hB : Below w.heap.size w W := by rw [hW]; exact bel_alloc _ _
  have HP := hp.keep (hB.mono hE)
  have HB := hb.keep (hB.mono hE)
  have hU : UnfE lo E W := hu.keep (hB.mono hE)
  have hz : E ≤ W.heap.size := Nat.le_trans hE hB.size
  have C1 := Kp.mk (mkInts lo E _ _ k W HP hU hz n1 k0 (by omega))
  have C2 : Kp (∀ w1, Mk lo E W w1 → _) := ⟨fun w1 hM => mkBls lo E _ blocks (k + params.length) w1 (HB.mkd hM) (hU.mkd hM) (by rw [hM.sz]; exact hz) n2 (by omega) (by omega)⟩
  have hc : Kp (∀ w1, Mk lo E W w1 → At w1 w.heap.size 4 (.slice a2 blocks.length c2)) := ⟨fun w1 hM => hM.slc _ _ _ _ _ (by rw [hW]; exact at_cells (MapKept.heap_alloc w _).1 rfl)⟩
  go_enter Try.func12, Try.ntmps12
  go_wp2_with fail
  rw [← hW]
  refine C1.out.mono ?_
  rintro e w1 ⟨rfl, hM1⟩
  have x4 := hc.out _ hM1
  clear hW
  go_wp2_with fail
  refine (C2.out _ hM1).mono ?_
  rintro e w2 ⟨r, rfl, r0, r1, hM2⟩
  go_wp2_with fail
  go_ret
  exact ⟨r, W, rfl, by omega, by omega, hB, hM1.trans hM2⟩
end Go.Proofs.Ytbfpfjkjeekbdaa
