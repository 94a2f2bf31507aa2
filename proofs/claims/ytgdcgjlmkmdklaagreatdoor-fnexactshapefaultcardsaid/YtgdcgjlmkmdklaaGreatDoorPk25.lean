/- Texts of one claim. -/
import Derived.Test.YtgdcgjlmkmdklaaGreatDoorPk1
import Derived.Laws.MathBits
import Derived.Shelf.Spec.BitsCarry
import Derived.Test.YtgdcgjlmkmdklaaGreatDoorPk24
import Derived.Laws.CopyOwn
import Derived.Deep.RegionLaw
import Derived.Test.YtgdcgjlmkmdklaaGreatDoorPk0
import Derived.Test.YtgdcgjlmkmdklaaGreatDoorPk6
import Derived.Lib.SliceRun
import Derived.Deep.RegionWith
namespace Go.Proofs.YtgdcgjlmkmdklaaGreatDoor
open Go.ChangeShapes Go.WideShapes Go.ChangeAt Go.RowKit
set_option linter.unusedVariables false
set_option linter.unusedSimpArgs false
def mLo (T : Int) : Int := T % 18446744073709551616
theorem wrapU_bd (n : Int) : 0 ≤ IntKind.u64.wrap n ∧ IntKind.u64.wrap n ≤ 18446744073709551615 := by rw [IntKind.wrap_u64]; omega
theorem and_32 (z : Int) (h0 : 0 ≤ z) (h1 : z ≤ 18446744073709551615) : bits .and .u64 z 4294967295 = z % 4294967296 := and_low32 z h0 (by omega)
set_option maxHeartbeats 1000000 in
theorem mul64_any (a c : Int) (w : World) (a0 : 0 ≤ a) (c0 : 0 ≤ c) (a1 : a ≤ 18446744073709551615) (c1 : c ≤ 18446744073709551615) :
  Calls Tryz.prog 228 #[.int .u64 a, .int .u64 c] w fun e w' => e = .returned (.tuple #[.int .u64 (a * c / 18446744073709551616), .int .u64 (mLo (a * c))]) ∧ w' = w := by
 have H := mul64_arith a c a0 (by omega) c0 (by omega)
 have H' : Hid _ := H
 clear H
 go_enter Tryz.func228, Tryz.ntmps228
 go_wp2_with fail
 go_ret2
 refine ⟨?_, rfl⟩
 have A1 := and_32 a a0 a1
 have C1 := and_32 c c0 c1
 simp only [A1, C1]
 rw [and_32 _ (wrapU_bd _).1 (wrapU_bd _).2]
 simp only [IntKind.wrap_u64]
 rw [H'.out]
 rfl
theorem mul_any (a c : Int) (w : World) (a0 : 0 ≤ a) (c0 : 0 ≤ c) (a1 : a ≤ 18446744073709551615) (c1 : c ≤ 18446744073709551615) :
  Calls Tryz.prog 226 #[.int .u64 a, .int .u64 c] w fun e w' => e = .returned (.tuple #[.int .u64 (a * c / 18446744073709551616), .int .u64 (mLo (a * c))]) ∧ w' = w := by
 have M := Kp.mk (mul64_any a c w a0 c0 a1 c1)
 generalize a * c / 18446744073709551616 = H at *
 generalize mLo (a * c) = L at *
 go_enter Tryz.func226, Tryz.ntmps226
 go_wp2_with fail
 refine M.out.mono ?_
 rintro e w1 ⟨rfl, rfl⟩
 go_wp2_with fail
 go_ret2
 exact ⟨rfl, rfl⟩
end Go.Proofs.YtgdcgjlmkmdklaaGreatDoor

namespace Go.Proofs.YtgdcgjlmkmdklaaGreatDoor
open Go.ChangeShapes Go.WideShapes Go.ChangeAt Go.RowKit
set_option linter.unusedVariables false
set_option linter.unusedSimpArgs false
theorem splice_rep {cur : List Value} {V : Value} {k m : Nat} (hk : k + m ≤ cur.length) (h : ∀ j, j < k → cur[j]? = some V) : ∀ j, j < k + m → (splice cur k (List.replicate m V))[j]? = some V := fun j hj => by
 unfold splice
 rw [List.getElem?_append]
 have hl : (cur.take k).length = k := by rw [List.length_take]; omega
 rw [hl]
 split
 ·rename_i q
  rw [List.getElem?_take_of_lt q]
  exact h j q
 ·rename_i q
  rw [List.getElem?_append_left (by rw [List.length_replicate]; omega), List.getElem?_replicate, if_pos (by omega)]
set_option maxRecDepth 100000 in
set_option maxHeartbeats 4000000 in
theorem repI (ty : Int) (bx n : Nat) (w : World) (hx : At w bx 0 (.int .i64 ty)) (h1 : 1 ≤ n) (h2 : n ≤ 1048576) :
  Calls Tryz.prog 225 #[.slice (some ⟨bx, 0, none⟩) 1 1, .int .i64 n] w fun e w' => ∃ v, e = .returned v ∧ Ints 0 .i64 w' v (List.replicate n ty) ∧ Below w.heap.size w w' := by
 have g1 : (n : Int) ≤ 1048576 := by omega
 have g0 : ¬ (n : Int) < 0 := by omega
 have hw : IntKind.u64.wrap (n : Int) = n := by rw [IntKind.wrap_u64]; omega
 have hw2 : IntKind.i64.wrap (n : Int) = n := by rw [IntKind.wrap_i64]; omega
 have MU : Kp (∀ w, Calls Tryz.prog 226 #[.int .u64 1, .int .u64 n] w fun e w' => e = .returned (.tuple #[.int .u64 0, .int .u64 n]) ∧ w' = w) := ⟨fun w => by
  have q := mul_any 1 n w (by decide) (by omega) (by decide) (by omega)
  rwa [show (1 : Int) * (n : Int) / 18446744073709551616 = 0 by omega, show mLo (1 * (n : Int)) = n by unfold mLo; omega] at q⟩
 obtain ⟨O, hmk, hrw⟩ := mk_row 50 2 (.int .i64 0) 1 8 Tryz.underlying50 (by kernel_rfl) n (by omega) (by omega)
 have HR := Kp.mk (hrw w)
 have hx1 := at_keep hx (bel_alloc w O)
 have hB0 := bel_alloc w O
 clear hrw
 obtain ⟨W0, hW0⟩ : ∃ W0, W0 = w.alloc O := ⟨_, rfl⟩
 rw [← hW0] at HR hx1 hB0
 obtain ⟨t, f, cur, hg, hsz, -⟩ := HR.out.ex
 rw [Nat.mul_one] at hsz
 have hg' : W0.heap[w.heap.size]? = some (Go.Obj.cells cur.toList.toArray t (0, 0)) := by simpa using hg
 have hl : cur.toList.length = n := by simpa using hsz
 generalize cur.toList = L at *
 clear hg hsz HR
 replace hW0 := Kp.mk hW0
 go_enter Tryz.func225, Tryz.ntmps225
 go_wp2_with fail
 refine (MU.out _).mono ?_
 rintro e w1 ⟨rfl, rfl⟩
 go_upto_region 7 with fail
 rw [← hW0.out]
 clear hW0
 obtain ⟨W4, hcp, hg4, hb4⟩ : ∃ W4 : World, (Builtin.copy_ #[50, 50] 3 #[.slice (some ⟨w1.heap.size, 0, none⟩) n n, .slice (some ⟨bx, 0, none⟩) 1 1]).run Tryz.prog W0 = .ok (goInt 1) W4 ∧ W4.heap[w1.heap.size]? = some (Go.Obj.cells (splice L 0 [.int .i64 ty]).toArray t (0, 0)) ∧ Below w1.heap.size w1 W4 := by
  have q := run_copy_row (P := Tryz.prog) W0 50 50 3 2 w1.heap.size 0 n n ⟨bx, 0, none⟩ 1 1 L.toArray t [.int .i64 ty] Tryz.underlying50 (by kernel_rfl) hg' (Nat.min_eq_left h1).symm (fun j v hj => by
   have : j = 0 := by
    have := (List.getElem?_eq_some_iff.1 hj).1
    simpa using this
   subst this
   simp at hj
   subst hj
   rw [Go.WideShapes.add_plain]
   exact hx1) (by simp; omega) (fun u hu => by simp at hu; subst hu; rfl)
  refine ⟨_, q, ?_, below_setRow hB0 (Nat.le_refl _) _⟩
  rw [setRow_heap W0 w1.heap.size _ _ t _ hg']
  simp [splice]
 have hd : ∀ j, j < 1 → (splice L 0 [Value.int .i64 ty])[j]? = some (.int .i64 ty) := by
  have := splice_rep (cur := L) (V := .int .i64 ty) (k := 0) (m := 1) (by omega) (fun j hj => absurd hj (by omega))
  simpa using this
 have hl4 : (splice L 0 [Value.int .i64 ty]).length = n := by rw [length_splice _ _ _ (by simp; omega)]; exact hl
 replace hg4 := Kp.mk hg4
 replace hd := Kp.mk hd
 generalize splice L 0 [Value.int .i64 ty] = L4 at *
 clear hg' hx1 hl hmk hB0
 go_wp2_with fail
 go_loopw [8] (fun s wr => ∃ k : Nat, 1 ≤ k ∧ k ≤ n ∧ s = .int .i64 k ∧ Below w1.heap.size w1 wr ∧ ∃ M : List Value, M.length = n ∧ Kp (wr.heap[w1.heap.size]? = some (Go.Obj.cells M.toArray t (0, 0))) ∧ Kp (∀ j, j < k → M[j]? = some (.int .i64 ty))) (fun s _ => n - (intOf s).toNat)
 case atStart => exact ⟨1, Nat.le_refl _, h1, rfl, hb4, L4, hl4, hg4, hd⟩
 case round =>
  clear hl4 hg4 hd hb4
  obtain ⟨k, hk1, hk2, rfl, hB, M, hM, hg, hd⟩ := hrel
  by_cases hlt : k < n
  ·have hlt' : (k : Int) < (n : Int) := by omega
   have hk3 : (k : Int) ≤ n := by omega
   have hk0 : (0 : Int) ≤ k := by omega
   obtain ⟨m, hm⟩ : ∃ m, m = Nat.min k (n - k) := ⟨_, rfl⟩
   have hm1 : 1 ≤ m := by rw [hm]; exact Nat.le_min.2 ⟨hk1, by omega⟩
   have hm2 : m ≤ k ∧ m ≤ n - k := ⟨by rw [hm]; exact Nat.min_le_left _ _, by rw [hm]; exact Nat.min_le_right _ _⟩
   obtain ⟨W5, hcp, hg5, hb5⟩ : ∃ W5 : World, (Builtin.copy_ #[50, 50] 3 #[.slice (some ⟨w1.heap.size, k, none⟩) (n - k) (n - k), .slice (some ⟨w1.heap.size, 0, none⟩) k n]).run Tryz.prog wr.drew = .ok (goInt m) W5 ∧ W5.heap[w1.heap.size]? = some (Go.Obj.cells (splice M k (List.replicate m (.int .i64 ty))).toArray t (0, 0)) ∧ Below w1.heap.size w1 W5 := by
    have hgd : wr.drew.heap[w1.heap.size]? = some (Go.Obj.cells M.toArray t (0, 0)) := hg.out
    have q := run_copy_row (P := Tryz.prog) wr.drew 50 50 3 2 w1.heap.size k (n - k) (n - k) ⟨w1.heap.size, 0, none⟩ k n M.toArray t (List.replicate m (.int .i64 ty)) Tryz.underlying50 (by kernel_rfl) hgd (by simp [hm]) (fun j v hj => by
     have hjm : j < m := by
      have := (List.getElem?_eq_some_iff.1 hj).1
      simpa using this
     rw [List.getElem?_replicate, if_pos hjm] at hj
     cases hj
     have := hd.out j (by omega)
     have hc : At wr.drew w1.heap.size j (.int .i64 ty) := cells_at hgd (by simpa using this)
     unfold Addr.add
     split
     ·rename_i q0; rw [q0] at hc; exact hc
     ·rw [Nat.zero_add]; exact hc) (by simp; omega) (fun u hu => by rw [(List.mem_replicate.1 hu).2]; rfl)
    rw [List.length_replicate] at q
    refine ⟨_, q, ?_, below_setRow hB.drew (Nat.le_refl _) _⟩
    rw [setRow_heap wr.drew w1.heap.size _ _ t _ hgd]
    simp [splice]
   have hd5 : ∀ j, j < k + m → (splice M k (List.replicate m (Value.int .i64 ty)))[j]? = some (.int .i64 ty) := splice_rep (by omega) hd.out
   have hl5 : (splice M k (List.replicate m (Value.int .i64 ty))).length = n := by rw [length_splice _ _ _ (by simp; omega)]; exact hM
   replace hg5 := Kp.mk hg5
   replace hd5 := Kp.mk hd5
   generalize splice M k (List.replicate m (Value.int .i64 ty)) = M5 at *
   have hm3 : (k : Int) + (m : Int) ≤ n := by omega
   clear hg hd hM hB hm
   go_wp2_with fail
   go_region
   go_wp2_with fail
   exact ⟨⟨k + m, by omega, by omega, by go_num, hb5, M5, hl5, hg5, hd5⟩, by simp [intOf]; omega⟩
  ·have hlt' : ¬ (k : Int) < (n : Int) := by omega
   obtain rfl : k = n := by omega
   go_wp2_with fail
   go_ret
   refine ⟨_, rfl, ⟨w1.heap.size, 0, by rw [List.length_replicate]; exact ⟨⟨_, _, rfl, Nat.le_refl _, fun _ => rfl⟩, by omega⟩, Nat.zero_le _, fun j hj => ?_⟩, hB⟩
   rw [List.length_replicate] at hj
   rw [List.getElem_replicate, Nat.zero_add]
   exact cells_at hg.out (by simpa using hd.out j hj)
def wanJ (op ty : Int) (n : Nat) : List Int := if op = 20 then List.replicate n ty else if op = 28 then [1] else []
set_option maxRecDepth 100000 in
set_option maxHeartbeats 4000000 in
theorem jnWan (op ty : Int) (a b : Option Addr) (n c m d : Nat) (a1 a2 a3 a4 a5 : Option Addr) (n1 n2 n3 n4 n5 c1 c2 c3 c4 c5 : Nat) (name : ByteArray) (link res bk : Int) (w : World) (hn1 : op = 20 → 1 ≤ n) (hn : n ≤ 1048576) :
  Calls Tryz.prog 224 #[.agg #[.int .i64 op, .int .i64 ty, .slice a n c, .slice b m d], scV (.slice a1 n1 c1) (.slice a2 n2 c2) name link (.slice a3 n3 c3) res (.slice a4 n4 c4) (.slice a5 n5 c5) bk] w fun e w' => ∃ v, e = .returned v ∧ Ints 0 .i64 w' v (wanJ op ty n) ∧ Below w.heap.size w w' := by
 have g1 : (n : Int) ≤ 1048576 := by omega
 by_cases e20 : op = 20
 ·subst e20
  have h1 := hn1 rfl
  rw [show wanJ 20 ty n = List.replicate n ty by simp [wanJ]]
  obtain ⟨-, B3, -, -, x3⟩ := boxes3 (w := w) (o1 := Go.Obj.cells #[.int .i64 20, .int .i64 ty, .slice a n c, .slice b m d] 187) (o2 := scC (.slice a1 n1 c1) (.slice a2 n2 c2) name link (.slice a3 n3 c3) res (.slice a4 n4 c4) (.slice a5 n5 c5) bk) (o3 := Go.Obj.cells #[.int .i64 ty] 2) rfl
  have RE := Kp.mk (repI ty (w.heap.size + 1 + 1) n _ (cells_at x3 rfl) h1 hn)
  clear hn1
  replace B3 := Kp.mk B3
  clear x3
  go_enter Tryz.func224, Tryz.ntmps224
  go_wp2_with fail
  refine RE.out.mono ?_
  rintro e w1 ⟨v, rfl, hi, hb1⟩
  go_wp2_with fail
  go_ret
  exact ⟨_, rfl, hi, bel_trans B3.out hb1⟩
 by_cases e28 : op = 28
 ·subst e28
  rw [show wanJ 28 ty n = [1] by simp [wanJ]]
  clear hn1
  go_enter Tryz.func224, Tryz.ntmps224
  go_wp2_with fail
  go_ret
  obtain ⟨-, B3, -, -, x3⟩ := boxes3 (w := w) (o1 := Go.Obj.cells #[.int .i64 28, .int .i64 ty, .slice a n c, .slice b m d] 187) (o2 := scC (.slice a1 n1 c1) (.slice a2 n2 c2) name link (.slice a3 n3 c3) res (.slice a4 n4 c4) (.slice a5 n5 c5) bk) (o3 := Go.Obj.cells #[.int .i64 1] 2) rfl
  exact ⟨_, rfl, ints1 x3, B3⟩
 rw [show wanJ op ty n = [] by simp [wanJ, e20, e28]]
 have n20 := nb e20
 have n28 := nb e28
 clear e20 e28 hn1
 go_enter Tryz.func224, Tryz.ntmps224
 go_wp2_with fail
 go_ret
 exact ⟨_, rfl, ints0 _, bel_trans (bel_alloc _ _) (bel_alloc _ _)⟩
end Go.Proofs.YtgdcgjlmkmdklaaGreatDoor

namespace Go.Proofs.YtgdcgjlmkmdklaaGreatDoor
open Go.ChangeShapes Go.WideShapes Go.ChangeAt Go.RowKit
open Go.Sort (grow)
set_option linter.unusedVariables false
set_option linter.unusedSimpArgs false
structure Mk (lo E : Nat) (w w' : World) : Prop where
 bel : Below lo w w'
 sz : w'.heap.size = w.heap.size
 hi : ∀ b, E ≤ b → w'.heap[b]? = w.heap[b]?
 slc : ∀ b o a n c, At w b o (.slice a n c) → At w' b o (.slice a n c)
 int : ∀ b o k x, At w b o (.int k x) → ∃ y, At w' b o (.int k y)
 frz : ∀ b o, w'.frozen? ⟨b, o, none⟩ = w.frozen? ⟨b, o, none⟩
theorem Mk.refl (lo E : Nat) (w : World) : Mk lo E w w := ⟨Below.refl _ _, rfl, fun _ _ => rfl, fun _ _ _ _ _ h => h, fun _ _ _ x h => ⟨x, h⟩, fun _ _ => rfl⟩
theorem Mk.trans {lo E : Nat} {a b c : World} (h : Mk lo E a b) (k : Mk lo E b c) : Mk lo E a c :=
 ⟨h.bel.trans k.bel, k.sz.trans h.sz, fun i hi => (k.hi i hi).trans (h.hi i hi), fun _ _ _ _ _ q => k.slc _ _ _ _ _ (h.slc _ _ _ _ _ q),
  fun _ _ _ _ q => by obtain ⟨y, q⟩ := h.int _ _ _ _ q; exact k.int _ _ _ _ q, fun _ _ => (k.frz _ _).trans (h.frz _ _)⟩
theorem Mk.set {lo E b o : Nat} {k : IntKind} {x : Int} {w W : World} (h : Mk lo E w W) (hc : At W b o (.int k x)) (h1 : lo ≤ b) (h2 : b < E) (y : Int) : Mk lo E w (W.setCell ⟨b, o, none⟩ (.int k y)) := by
 refine h.trans ⟨bel_set (Below.refl _ _) h1 _, World.size_setCell _ _ _, fun i hi => Below.heap_setCell W ⟨b, o, none⟩ _ i (show i ≠ b by omega), fun b' o' a n c q => ?_, fun b' o' k' x' q => ?_, fun _ _ => by rw [World.frozen?_setCell]⟩
 ·by_cases e : b' = b ∧ o' = o
  ·obtain ⟨rfl, rfl⟩ := e
   have e := Eq.trans (Eq.symm q) hc
   cases e
  ·exact set_other q (by omega)
 ·by_cases e : b' = b ∧ o' = o
  ·obtain ⟨rfl, rfl⟩ := e
   have e := Eq.trans (Eq.symm q) hc
   cases e
   exact ⟨y, World.cell?_setCell_same _ _ _ q⟩
  ·exact ⟨x', set_other q (by omega)⟩
structure UnfE (lo E : Nat) (w : World) : Prop where
 out : ∀ b o, lo ≤ b → b < E → w.frozen? ⟨b, o, none⟩ = false
theorem UnfE.mkd {lo l E : Nat} {w w' : World} (h : UnfE lo E w) (m : Mk l E w w') : UnfE lo E w' := ⟨fun b o h1 h2 => (m.frz b o).trans (h.out b o h1 h2)⟩
theorem Unf.e {lo : Nat} {w : World} (h : Unf lo w) : UnfE lo w.heap.size w := ⟨h.out⟩
theorem UnfE.keep {lo E : Nat} {w w' : World} (h : UnfE lo E w) (hb : Below E w w') : UnfE lo E w' := ⟨fun b o h1 h2 => (hb.frozen (p := ⟨b, o, none⟩) h2).trans (h.out b o h1 h2)⟩
structure IntsS (lo E : Nat) (k : IntKind) (w : World) (v : Value) (n : Nat) : Prop where
 ex : ∃ b o, Sl v n b o ∧ ∀ i, i < n → lo ≤ b ∧ b < E ∧ ∃ x, At w b (o + i) (.int k x)
structure Op4 (w : World) (b o : Nat) : Prop where
 c0 : ∃ x, At w b o (.int .i64 x)
 c1 : ∃ x, At w b (o + 1) (.int .i64 x)
 c2 : ∃ x, At w b (o + 2) (.int .i64 x)
 c3 : ∃ x, At w b (o + 3) (.int .u64 x)
structure OpsS (lo E : Nat) (w : World) (v : Value) (n : Nat) : Prop where
 ex : ∃ b o, Sl v n b o ∧ ∀ i, i < n → lo ≤ b ∧ b < E ∧ Op4 w b (o + i * 4)
structure In9 (lo E : Nat) (w : World) (b o : Nat) (d : InD) (va vb vw : Value) : Prop where
 c0 : ∃ x, At w b o (.int .i64 x)
 c1 : ∃ x, At w b (o + 1) (.int .i64 x)
 c2 : ∃ x, At w b (o + 2) (.int .i64 x)
 c3 : ∃ x, At w b (o + 3) (.int .i64 x)
 c4 : ∃ x, At w b (o + 4) (.int .i64 x)
 c5 : ∃ x, At w b (o + 5) (.int .i64 x)
 c6 : At w b (o + 6) va
 c7 : At w b (o + 7) vb
 c8 : At w b (o + 8) vw
 a : OpsS lo E w va d.args.length
 b : IntsS lo E .i64 w vb d.bl.length
 w : IntsS lo E .u64 w vw d.ws.length
structure InsS (lo E : Nat) (w : World) (v : Value) (xs : List InD) : Prop where
 ex : ∃ b o, Sl v xs.length b o ∧ ∀ i (h : i < xs.length), lo ≤ b ∧ b < E ∧ ∃ va vb vw, In9 lo E w b (o + i * 9) xs[i] va vb vw
structure BlsS (lo E : Nat) (w : World) (v : Value) (xs : List (List InD)) : Prop where
 ex : ∃ b o, Sl v xs.length b o ∧ ∀ i (h : i < xs.length), lo ≤ b ∧ b < E ∧ ∃ vi, At w b (o + i) vi ∧ InsS lo E w vi xs[i]
structure FnS (lo E : Nat) (w : World) (d : FnD) (vp vb : Value) : Prop where
 p : IntsS lo E .i64 w vp d.params.length
 b : BlsS lo E w vb d.blocks
theorem IntsS.mkd {lo E : Nat} {k : IntKind} {w w' : World} {v : Value} {n : Nat} (h : IntsS lo E k w v n) (m : Mk lo E w w') : IntsS lo E k w' v n := by
 obtain ⟨b, o, s, c⟩ := h.ex
 exact ⟨b, o, s, fun i hi => by obtain ⟨h1, h2, x, q⟩ := c i hi; exact ⟨h1, h2, m.int _ _ _ _ q⟩⟩
theorem Op4.mkd {lo E b o : Nat} {w w' : World} (h : Op4 w b o) (m : Mk lo E w w') : Op4 w' b o := by
 obtain ⟨⟨x0, h0⟩, ⟨x1, h1⟩, ⟨x2, h2⟩, ⟨x3, h3⟩⟩ := h
 exact ⟨m.int _ _ _ _ h0, m.int _ _ _ _ h1, m.int _ _ _ _ h2, m.int _ _ _ _ h3⟩
theorem OpsS.mkd {lo E : Nat} {w w' : World} {v : Value} {n : Nat} (h : OpsS lo E w v n) (m : Mk lo E w w') : OpsS lo E w' v n := by
 obtain ⟨b, o, s, c⟩ := h.ex
 exact ⟨b, o, s, fun i hi => by obtain ⟨h1, h2, q⟩ := c i hi; exact ⟨h1, h2, q.mkd m⟩⟩
theorem IntsS.slc {lo E : Nat} {k : IntKind} {w : World} {v : Value} {n : Nat} (h : IntsS lo E k w v n) : ∃ a c, v = .slice a n c := by
 exact tl72
theorem OpsS.slc {lo E : Nat} {w : World} {v : Value} {n : Nat} (h : OpsS lo E w v n) : ∃ a c, v = .slice a n c := by
 exact tl72
theorem InsS.slc {lo E : Nat} {w : World} {v : Value} {xs : List InD} (h : InsS lo E w v xs) : ∃ a c, v = .slice a xs.length c := by
 exact tl72
theorem In9.mkd {lo E b o : Nat} {w w' : World} {d : InD} {va vb vw : Value} (h : In9 lo E w b o d va vb vw) (m : Mk lo E w w') : In9 lo E w' b o d va vb vw := by
 obtain ⟨⟨x0, h0⟩, ⟨x1, h1⟩, ⟨x2, h2⟩, ⟨x3, h3⟩, ⟨x4, h4⟩, ⟨x5, h5⟩, h6, h7, h8, ha, hb, hw⟩ := h
 obtain ⟨a1, k1, rfl⟩ := ha.slc
 obtain ⟨a2, k2, rfl⟩ := hb.slc
 obtain ⟨a3, k3, rfl⟩ := hw.slc
 exact ⟨m.int _ _ _ _ h0, m.int _ _ _ _ h1, m.int _ _ _ _ h2, m.int _ _ _ _ h3, m.int _ _ _ _ h4, m.int _ _ _ _ h5, m.slc _ _ _ _ _ h6, m.slc _ _ _ _ _ h7, m.slc _ _ _ _ _ h8, ha.mkd m, hb.mkd m, hw.mkd m⟩
theorem InsS.mkd {lo E : Nat} {w w' : World} {v : Value} {xs : List InD} (h : InsS lo E w v xs) (m : Mk lo E w w') : InsS lo E w' v xs := by
 obtain ⟨b, o, s, c⟩ := h.ex
 exact ⟨b, o, s, fun i hi => by obtain ⟨h1, h2, va, vb, vw, q⟩ := c i hi; exact ⟨h1, h2, va, vb, vw, q.mkd m⟩⟩
theorem BlsS.mkd {lo E : Nat} {w w' : World} {v : Value} {xs : List (List InD)} (h : BlsS lo E w v xs) (m : Mk lo E w w') : BlsS lo E w' v xs := by
 obtain ⟨b, o, s, c⟩ := h.ex
 exact ⟨b, o, s, fun i hi => by
  obtain ⟨h1, h2, vi, q, r⟩ := c i hi
  obtain ⟨a, k, rfl⟩ := r.slc
  exact ⟨h1, h2, _, m.slc _ _ _ _ _ q, r.mkd m⟩⟩
theorem Ints.s {lo : Nat} {k : IntKind} {w : World} {v : Value} {xs : List Int} (h : Ints lo k w v xs) : IntsS lo w.heap.size k w v xs.length := by
 obtain ⟨b, o, s, l, c⟩ := h.ex
 exact ⟨b, o, s, fun i hi => ⟨l, Lib.lt_of_cell (c i hi), _, c i hi⟩⟩
theorem Ops.s {lo : Nat} {w : World} {v : Value} {xs : List OpD} (h : Ops lo w v xs) : OpsS lo w.heap.size w v xs.length := by
 obtain ⟨b, o, s, l, c⟩ := h.ex
 exact ⟨b, o, s, fun i hi => ⟨l, Lib.lt_of_cell (c i hi).c0, ⟨_, (c i hi).c0⟩, ⟨_, (c i hi).c1⟩, ⟨_, (c i hi).c2⟩, ⟨_, (c i hi).c3⟩⟩⟩
theorem Ins.s {lo : Nat} {w : World} {v : Value} {xs : List InD} (h : Ins lo w v xs) : InsS lo w.heap.size w v xs := by
 obtain ⟨b, o, s, l, c⟩ := h.ex
 refine ⟨b, o, s, fun i hi => ?_⟩
 obtain ⟨va, vb, vw, q⟩ := c i hi
 exact ⟨l, Lib.lt_of_cell q.c0, va, vb, vw, ⟨_, q.c0⟩, ⟨_, q.c1⟩, ⟨_, q.c2⟩, ⟨_, q.c3⟩, ⟨_, q.c4⟩, ⟨_, q.c5⟩, q.c6, q.c7, q.c8, q.l.a.s, q.l.b.s, q.l.c.s⟩
theorem Bls.s {lo : Nat} {w : World} {v : Value} {xs : List (List InD)} (h : Bls lo w v xs) : BlsS lo w.heap.size w v xs := by
 obtain ⟨b, o, s, l, c⟩ := h.ex
 refine ⟨b, o, s, fun i hi => ?_⟩
 obtain ⟨vi, q, r⟩ := c i hi
 exact ⟨l, Lib.lt_of_cell q, vi, q, r.s⟩
theorem FnAt.s {lo : Nat} {w : World} {d : FnD} {vp vb : Value} (h : FnAt lo w d vp vb) : FnS lo w.heap.size w d vp vb := ⟨h.p.s, h.b.s⟩
end Go.Proofs.YtgdcgjlmkmdklaaGreatDoor

namespace Go.Proofs.YtgdcgjlmkmdklaaGreatDoor
open Go.ChangeShapes Go.WideShapes Go.ChangeAt Go.RowKit
open Go.Sort (grow)
set_option linter.unusedVariables false
set_option linter.unusedSimpArgs false
theorem IntsS.keep {lo E : Nat} {k : IntKind} {w w' : World} {v : Value} {n : Nat} (h : IntsS lo E k w v n) (m : Below E w w') : IntsS lo E k w' v n := by
 obtain ⟨b, o, s, c⟩ := h.ex
 exact ⟨b, o, s, fun i hi => by obtain ⟨h1, h2, x, q⟩ := c i hi; exact ⟨h1, h2, x, (m.cell (p := ⟨_, _, none⟩) h2).trans q⟩⟩
theorem Op4.keep {E b o : Nat} {w w' : World} (h : Op4 w b o) (m : Below E w w') (hb : b < E) : Op4 w' b o := by
 have t : ∀ o v, At w b o v → At w' b o v := fun o v q => (m.cell (p := ⟨_, _, none⟩) hb).trans q
 obtain ⟨⟨x0, h0⟩, ⟨x1, h1⟩, ⟨x2, h2⟩, ⟨x3, h3⟩⟩ := h
 exact ⟨⟨_, t _ _ h0⟩, ⟨_, t _ _ h1⟩, ⟨_, t _ _ h2⟩, ⟨_, t _ _ h3⟩⟩
theorem OpsS.keep {lo E : Nat} {w w' : World} {v : Value} {n : Nat} (h : OpsS lo E w v n) (m : Below E w w') : OpsS lo E w' v n := by
 obtain ⟨b, o, s, c⟩ := h.ex
 exact ⟨b, o, s, fun i hi => by obtain ⟨h1, h2, q⟩ := c i hi; exact ⟨h1, h2, q.keep m h2⟩⟩
theorem In9.keep {lo E b o : Nat} {w w' : World} {d : InD} {va vb vw : Value} (h : In9 lo E w b o d va vb vw) (m : Below E w w') (hb : b < E) : In9 lo E w' b o d va vb vw := by
 have t : ∀ o v, At w b o v → At w' b o v := fun o v q => (m.cell (p := ⟨_, _, none⟩) hb).trans q
 obtain ⟨⟨x0, h0⟩, ⟨x1, h1⟩, ⟨x2, h2⟩, ⟨x3, h3⟩, ⟨x4, h4⟩, ⟨x5, h5⟩, h6, h7, h8, ha, hb, hw⟩ := h
 exact ⟨⟨_, t _ _ h0⟩, ⟨_, t _ _ h1⟩, ⟨_, t _ _ h2⟩, ⟨_, t _ _ h3⟩, ⟨_, t _ _ h4⟩, ⟨_, t _ _ h5⟩, t _ _ h6, t _ _ h7, t _ _ h8, ha.keep m, hb.keep m, hw.keep m⟩
theorem InsS.keep {lo E : Nat} {w w' : World} {v : Value} {xs : List InD} (h : InsS lo E w v xs) (m : Below E w w') : InsS lo E w' v xs := by
 obtain ⟨b, o, s, c⟩ := h.ex
 exact ⟨b, o, s, fun i hi => by obtain ⟨h1, h2, va, vb, vw, q⟩ := c i hi; exact ⟨h1, h2, va, vb, vw, q.keep m h2⟩⟩
theorem BlsS.keep {lo E : Nat} {w w' : World} {v : Value} {xs : List (List InD)} (h : BlsS lo E w v xs) (m : Below E w w') : BlsS lo E w' v xs := by
 obtain ⟨b, o, s, c⟩ := h.ex
 exact ⟨b, o, s, fun i hi => by obtain ⟨h1, h2, vi, q, r⟩ := c i hi; exact ⟨h1, h2, vi, (m.cell (p := ⟨_, _, none⟩) h2).trans q, r.keep m⟩⟩
theorem FnS.keep {lo E : Nat} {w w' : World} {d : FnD} {vp vb : Value} (h : FnS lo E w d vp vb) (m : Below E w w') : FnS lo E w' d vp vb := ⟨h.p.keep m, h.b.keep m⟩
theorem BlsS.slc {lo E : Nat} {w : World} {v : Value} {xs : List (List InD)} (h : BlsS lo E w v xs) : ∃ a c, v = .slice a xs.length c := by
 exact tl72
end Go.Proofs.YtgdcgjlmkmdklaaGreatDoor

namespace Go.Proofs.YtgdcgjlmkmdklaaGreatDoor
open Go.ChangeShapes Go.WideShapes Go.ChangeAt Go.RowKit
open Go.Sort (grow)
set_option linter.unusedVariables false
set_option linter.unusedSimpArgs false
set_option maxRecDepth 100000 in
set_option maxHeartbeats 2000000 in
theorem cloneI (v : Value) (xs : List Int) (w : World) {lo : Nat} (h : Ints lo .i64 w v xs) (hn : xs.length ≤ 1048576) :
  Calls Tryz.prog 103 #[v] w fun e w' => ∃ v', e = .returned v' ∧ w'.ownsRow w.heap.size 2 1 v' xs.length (xs.map (Value.int .i64)) ∧ Below w.heap.size w w' := by
 obtain ⟨b, o, ⟨⟨a, cap, rfl, h1, h2⟩, h3⟩, -, hc⟩ := h.ex
 obtain ⟨i0, hi0, hz0, hz1, hz2⟩ := info_parts info64
 have q22 : ∀ (w : World) (a : Option Addr) (n c n' c' : Nat), (binOp .eql 50 (.slice a n c) (.slice none n' c')).run Tryz.prog w = .ok (.bool a.isNone) w := fun w a n c n' c' => Lib.run_eql_slice_nil w _ _ a n c n' c' Tryz.underlying50
 cases a with
 | none =>
  obtain rfl : xs = [] := by
   cases xs with
   | nil => rfl
   | cons x r => cases h2 (by simp)
  clear hc h2
  go_enter Tryz.func103, Tryz.ntmps103
  go_wp2
  go_ret
  exact ⟨_, rfl, ⟨rfl, .inl ⟨rfl, rfl⟩⟩, Below.refl _ _⟩
 | some ad =>
  have hr := World.ownsRow_made (base := w.heap.size) (e := 2) (size := 1) w #[] 0 (Nat.le_refl _) (Nat.zero_le _) rfl
  replace hc := Kp.mk hc
  replace h2 := Kp.mk h2
  replace hr := Kp.mk hr
  go_enter Tryz.func103, Tryz.ntmps103
  go_wp2_with (at_builtin; refine wpList_append_vals _ rfl _ _ 50 rfl w.heap.size 2 i0 (.int .i64 0) 1 8 Tryz.underlying50 hi0 hz0 hz1 hz2 rfl (by decide) _ _ _ rfl hr.out (some ad) b o xs.length cap (xs.map (Value.int .i64)) rfl h2.out ?qc1 ?qc2 ?qc3 ?qc4 ?qc5 ?qc6 ?_)
  case qc1 => simp
  case qc2 =>
   exact tl132
  case qc3 => intro u hu; obtain ⟨x, _, rfl⟩ := List.mem_map.1 hu; rfl
  case qc4 => unfold maxLen; omega
  case qc5 => omega
  case qc6 => simp
  intro v' w1 hown hgrow
  have hB := own_bel (bel_alloc w _) hr.out hgrow (by simp)
  go_wp2
  go_ret
  exact ⟨v', rfl, by simpa using hown, hB⟩
end Go.Proofs.YtgdcgjlmkmdklaaGreatDoor

namespace Go.Proofs.YtgdcgjlmkmdklaaGreatDoor
open Go.ChangeShapes Go.WideShapes Go.ChangeAt Go.RowKit
set_option linter.unusedVariables false
set_option linter.unusedSimpArgs false
def opC (q : OpD) : List Value := [.int .i64 q.k, .int .i64 q.t, .int .i64 q.i, .int .u64 q.w]
theorem opC_len (xs : List OpD) : (xs.flatMap opC).length = xs.length * 4 := by
 induction xs with
 | nil => rfl
 | cons x r ih => rw [List.flatMap_cons, List.length_append, ih, List.length_cons, show (opC x).length = 4 from rfl]; omega
theorem opC_get (xs : List OpD) : ∀ i (h : i < xs.length) r, r < 4 → (xs.flatMap opC)[i * 4 + r]? = (opC xs[i])[r]? := by
 induction xs with
 | nil => intro i h; simp at h
 | cons x l ih =>
  intro i h r hr
  rw [List.flatMap_cons]
  cases i with
  | zero => rw [List.getElem?_append_left (by simp [opC]; omega)]; simp
  | succ i =>
   rw [List.getElem?_append_right (by simp [opC]; omega), show (i + 1) * 4 + r - (opC x).length = i * 4 + r by simp [opC]; omega, ih i (by simpa using h) r hr]
   simp
theorem infoOp : (Tryz.prog.info? 135).map (fun i => (i.zero, i.size, i.bytes)) = some (some (.agg #[.int .i64 0, .int .i64 0, .int .i64 0, .int .u64 0]), 4, 32) := by kernel_rfl
theorem infoW : (Tryz.prog.info? 119).map (fun i => (i.zero, i.size, i.bytes)) = some (some (.int .u64 0), 1, 8) := by kernel_rfl
theorem row_ops {w : World} {base : Nat} {v : Value} {xs : List OpD} (h : w.ownsRow base 135 4 v xs.length (xs.flatMap opC)) (hn : xs.length ≤ 1048576) : Ops base w v xs := by
 obtain ⟨hl, h0 | ⟨g, cap, cur, rfl, hb, hg, h1, h2, h3, h4⟩⟩ := h
 ·exact tl62
 ·refine ⟨g, 0, ⟨⟨_, _, rfl, h1, fun _ => rfl⟩, by omega⟩, hb, fun i hi => ?_⟩
  have key : ∀ r, r < 4 → At w g (0 + i * 4 + r) ((opC xs[i]).getD r undef) := fun r hr => by
   refine at_cells hg ?_
   have e : (cur.toList.take (xs.length * 4))[i * 4 + r]? = (opC xs[i])[r]? := by rw [h4]; exact opC_get xs i hi r hr
   rw [List.getElem?_take] at e
   rw [if_pos (by omega)] at e
   rw [Nat.zero_add, ← Array.getElem?_toList, e]
   simp [List.getD_eq_getElem?_getD, show r < (opC xs[i]).length by simpa [opC] using hr]
  exact ⟨key 0 (by omega), key 1 (by omega), key 2 (by omega), key 3 (by omega)⟩
theorem row_words {w : World} {base : Nat} {v : Value} {xs : List Int} (h : w.ownsRow base 119 1 v xs.length (xs.map (Value.int .u64))) (hn : xs.length ≤ 1048576) : Ints base .u64 w v xs := by
 obtain ⟨hl, h0 | ⟨g, cap, cur, rfl, hb, hg, h1, h2, h3, h4⟩⟩ := h
 ·exact tl62
 ·refine ⟨g, 0, ⟨⟨_, _, rfl, h1, fun _ => rfl⟩, by omega⟩, hb, fun i hi => ?_⟩
  refine at_cells hg ?_
  have : (cur.toList.take (xs.length * 1))[i]? = some (.int .u64 xs[i]) := by rw [h4]; simp [hi]
  exact tl98
set_option maxRecDepth 100000 in
set_option maxHeartbeats 2000000 in
theorem cloneW (v : Value) (xs : List Int) (w : World) {lo : Nat} (h : Ints lo .u64 w v xs) (hn : xs.length ≤ 1048576) :
  Calls Tryz.prog 154 #[v] w fun e w' => ∃ v', e = .returned v' ∧ Ints w.heap.size .u64 w' v' xs ∧ Below w.heap.size w w' := by
 obtain ⟨b, o, ⟨⟨a, cap, rfl, h1, h2⟩, h3⟩, -, hc⟩ := h.ex
 obtain ⟨i0, hi0, hz0, hz1, hz2⟩ := info_parts infoW
 have q22 : ∀ (w : World) (a : Option Addr) (n c n' c' : Nat), (binOp .eql 71 (.slice a n c) (.slice none n' c')).run Tryz.prog w = .ok (.bool a.isNone) w := fun w a n c n' c' => Lib.run_eql_slice_nil w _ _ a n c n' c' Tryz.underlying71
 cases a with
 | none =>
  obtain rfl : xs = [] := by
   cases xs with
   | nil => rfl
   | cons x r => cases h2 (by simp)
  clear hc h2
  go_enter Tryz.func154, Tryz.ntmps154
  go_wp2
  go_ret
  exact ⟨_, rfl, row_words ⟨rfl, .inl ⟨rfl, rfl⟩⟩ (by simp), Below.refl _ _⟩
 | some ad =>
  have hr := World.ownsRow_made (base := w.heap.size) (e := 119) (size := 1) w #[] 0 (Nat.le_refl _) (Nat.zero_le _) rfl
  replace hc := Kp.mk hc
  replace h2 := Kp.mk h2
  replace hr := Kp.mk hr
  go_enter Tryz.func154, Tryz.ntmps154
  go_wp2_with (at_builtin; refine wpList_append_vals _ rfl _ _ 71 rfl w.heap.size 119 i0 (.int .u64 0) 1 8 Tryz.underlying71 hi0 hz0 hz1 hz2 rfl (by decide) _ _ _ rfl hr.out (some ad) b o xs.length cap (xs.map (Value.int .u64)) rfl h2.out ?qc1 ?qc2 ?qc3 ?qc4 ?qc5 ?qc6 ?_)
  case qc1 => simp
  case qc2 =>
   exact tl132
  case qc3 => intro u hu; obtain ⟨x, _, rfl⟩ := List.mem_map.1 hu; rfl
  case qc4 => unfold maxLen; omega
  case qc5 => omega
  case qc6 => simp
  intro v' w1 hown hgrow
  have hB := own_bel (bel_alloc w _) hr.out hgrow (by simp)
  go_wp2
  go_ret
  exact ⟨v', rfl, row_words (by simpa using hown) hn, hB⟩
set_option maxRecDepth 100000 in
set_option maxHeartbeats 2000000 in
theorem cloneO (v : Value) (xs : List OpD) (w : World) {lo : Nat} (h : Ops lo w v xs) (hn : xs.length ≤ 1048576) :
  Calls Tryz.prog 210 #[v] w fun e w' => ∃ v', e = .returned v' ∧ Ops w.heap.size w' v' xs ∧ Below w.heap.size w w' := by
 obtain ⟨b, o, ⟨⟨a, cap, rfl, h1, h2⟩, h3⟩, -, hc⟩ := h.ex
 obtain ⟨i0, hi0, hz0, hz1, hz2⟩ := info_parts infoOp
 have q22 : ∀ (w : World) (a : Option Addr) (n c n' c' : Nat), (binOp .eql 70 (.slice a n c) (.slice none n' c')).run Tryz.prog w = .ok (.bool a.isNone) w := fun w a n c n' c' => Lib.run_eql_slice_nil w _ _ a n c n' c' Tryz.underlying70
 cases a with
 | none =>
  obtain rfl : xs = [] := by
   cases xs with
   | nil => rfl
   | cons x r => cases h2 (by simp)
  clear hc h2
  go_enter Tryz.func210, Tryz.ntmps210
  go_wp2
  go_ret
  exact ⟨_, rfl, row_ops ⟨rfl, .inl ⟨rfl, rfl⟩⟩ (by simp), Below.refl _ _⟩
 | some ad =>
  have hr := World.ownsRow_made (base := w.heap.size) (e := 135) (size := 4) w #[] 0 (Nat.le_refl _) (Nat.zero_le _) rfl
  replace hc := Kp.mk hc
  replace h2 := Kp.mk h2
  replace hr := Kp.mk hr
  go_enter Tryz.func210, Tryz.ntmps210
  go_wp2_with (at_builtin; refine wpList_append_vals _ rfl _ _ 70 rfl w.heap.size 135 i0 (.agg #[.int .i64 0, .int .i64 0, .int .i64 0, .int .u64 0]) 4 32 Tryz.underlying70 hi0 hz0 hz1 hz2 rfl (by decide) _ _ _ rfl hr.out (some ad) b o xs.length cap (xs.flatMap opC) rfl h2.out ?qc1 ?qc2 ?qc3 ?qc4 ?qc5 ?qc6 ?_)
  case qc1 => exact opC_len xs
  case qc2 =>
   intro j hj
   have hj' : j < xs.length * 4 := by rwa [opC_len] at hj
   have hi : j / 4 < xs.length := by omega
   have hr4 : j % 4 < 4 := by omega
   have e := opC_get xs (j / 4) hi (j % 4) hr4
   rw [show j / 4 * 4 + j % 4 = j by omega, List.getElem?_eq_getElem hj] at e
   have q := (hc.out (j / 4) hi).keep (bel_alloc w (Go.Obj.cells #[] 135))
   have key : ∀ r, r < 4 → ∀ x, (opC xs[j / 4])[r]? = some x → At (w.alloc (Go.Obj.cells #[] 135)) b (o + (j / 4 * 4 + r)) x := fun r hr x hx => by
    rw [← Nat.add_assoc]
    rcases (show r = 0 ∨ r = 1 ∨ r = 2 ∨ r = 3 by omega) with rfl | rfl | rfl | rfl
    ·simp [opC] at hx; rw [← hx]; exact q.c0
    ·simp [opC] at hx; rw [← hx]; exact q.c1
    ·simp [opC] at hx; rw [← hx]; exact q.c2
    ·simp [opC] at hx; rw [← hx]; exact q.c3
   have := key (j % 4) hr4 _ e.symm
   rwa [show j / 4 * 4 + j % 4 = j by omega] at this
  case qc3 =>
   intro u hu
   obtain ⟨x, _, hx⟩ := List.mem_flatMap.1 hu
   simp [opC] at hx
   rcases hx with rfl | rfl | rfl | rfl <;> rfl
  case qc4 => unfold maxLen; omega
  case qc5 => omega
  case qc6 => simp
  intro v' w1 hown hgrow
  have hB := own_bel (bel_alloc w _) hr.out hgrow (by simp)
  go_wp2
  go_ret
  exact ⟨v', rfl, row_ops (by simpa using hown) hn, hB⟩
end Go.Proofs.YtgdcgjlmkmdklaaGreatDoor
