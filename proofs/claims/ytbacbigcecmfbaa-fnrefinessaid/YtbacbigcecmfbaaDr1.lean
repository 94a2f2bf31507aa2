/- The draws of the specification: a source of numbers in a box of its own, each draw turns it alone. -/
import Derived.Test.YtbacbigcecmfbaaBi0
import Derived.Handy
import Derived.BigRegion
import Derived.Deep.DeepFit
namespace Go.Proofs.Ytbacbigcecmfbaa
open Go.ChangeShapes Go.WideShapes Go.ChangeAt Go.RowKit
open Go.Sort (grow)
set_option linter.unusedVariables false
set_option linter.unusedSimpArgs false
/-- But for the block S, what lay in w lies in w'. -/
structure Asd (S : Nat) (w w' : World) : Prop where
  os : w'.os = w.os
  tape : w'.tape = w.tape
  output : w'.output = w.output
  size : w.heap.size ≤ w'.heap.size
  block : ∀ k, k < w.heap.size → k ≠ S → w'.heap[k]? = w.heap[k]?
theorem Asd.refl (S : Nat) (w : World) : Asd S w w := ⟨rfl, rfl, rfl, Nat.le_refl _, fun _ _ _ => rfl⟩
theorem Asd.trans {S : Nat} {a b c : World} (h : Asd S a b) (k : Asd S b c) : Asd S a c :=
  ⟨k.os.trans h.os, k.tape.trans h.tape, k.output.trans h.output, Nat.le_trans h.size k.size, fun i hi hn => (k.block i (Nat.lt_of_lt_of_le hi h.size) hn).trans (h.block i hi hn)⟩
theorem Below.asd {w w' : World} (h : Below w.heap.size w w') (S : Nat) : Asd S w w' := ⟨h.os, h.tape, h.output, h.size, fun k hk _ => h.block k hk⟩
theorem Asd.bel {S B : Nat} {a w w' : World} (h : Below B a w) (k : Asd S w w') (hS : B ≤ S) (hB : B ≤ w.heap.size) : Below B a w' :=
  ⟨k.os.trans h.os, k.tape.trans h.tape, k.output.trans h.output, Nat.le_trans h.size k.size, fun i hi => (k.block i (by omega) (by omega)).trans (h.block i hi)⟩
theorem Asd.set {S : Nat} {w w' : World} (h : Asd S w w') (k : Nat) (x : Value) : Asd S w (w'.setCell ⟨S, k, none⟩ x) :=
  ⟨h.os, h.tape, h.output, by rw [World.size_setCell]; exact h.size, fun i hi hn => by
    show (w'.heap.modify S _)[i]? = _
    rw [Array.getElem?_modify, if_neg (fun e => hn e.symm)]
    exact h.block i hi hn⟩
theorem Asd.at {S : Nat} {w w' : World} (h : Asd S w w') {b o : Nat} {v : Value} (hc : At w b o v) (hn : b ≠ S) : At w' b o v :=
  (World.cell?_of_block (w := w) (a := ⟨b, o, none⟩) (h.block b (Lib.lt_of_cell hc) hn)).trans hc
theorem Asd.cells {S : Nat} {w w' : World} (h : Asd S w w') {b : Nat} {o : Obj} (hc : w.heap[b]? = some o) (hn : b ≠ S) : w'.heap[b]? = some o :=
  (h.block b (Array.getElem?_eq_some_iff.1 hc).1 hn).trans hc
/-- A source of draws: its row of bytes, where it stands, how large. -/
structure Src (w : World) (S : Nat) (v : Value) (xs : List Int) (at_ sz : Int) : Prop where
  box : w.heap[S]? = some (Go.Obj.cells #[v, .int .i64 at_, .int .i64 sz] 50 (0, 0))
  row : Ints 0 .u8 w v xs
  bytes : ∀ i (h : i < xs.length), 0 ≤ xs[i] ∧ xs[i] < 256
  len : xs.length ≤ 1048576
  pos : 0 ≤ at_
theorem src_apart {w : World} {S b o : Nat} {a : Option Addr} {n c : Nat} {p q z : Int} {T : TypeId} (hS : w.heap[S]? = some (Go.Obj.cells #[.slice a n c, .int .i64 p, .int .i64 q] T (0, 0))) (hc : At w b o (.int .u8 z)) : b ≠ S := by
  rintro rfl
  have h : w.cell? ⟨b, o, none⟩ = some (.int .u8 z) := hc
  rcases o with _ | _ | _ | o
  · rw [at_cells hS (j := 0) rfl] at h; cases h
  · rw [at_cells hS (j := 1) rfl] at h; cases h
  · rw [at_cells hS (j := 2) rfl] at h; cases h
  · simp [World.cell?, hS] at h
theorem Src.slice {w : World} {S : Nat} {v : Value} {xs : List Int} {p q : Int} (h : Src w S v xs p q) : ∃ a c, v = .slice a xs.length c := by
  obtain ⟨b, o, ⟨⟨a, cap, rfl, h1, h2⟩, h3⟩, -, hc⟩ := h.row.ex
  exact ⟨a, cap, rfl⟩
theorem Src.move {w w' : World} {S : Nat} {v : Value} {xs : List Int} {p q p' : Int} (h : Src w S v xs p q) (ha : Asd S w w') (hb : w'.heap[S]? = some (Go.Obj.cells #[v, .int .i64 p', .int .i64 q] 50 (0, 0))) (hp : 0 ≤ p') : Src w' S v xs p' q := by
  obtain ⟨b, o, ⟨⟨a, cap, rfl, h1, h2⟩, h3⟩, h4, hc⟩ := h.row.ex
  exact ⟨hb, ⟨b, o, ⟨⟨a, cap, rfl, h1, h2⟩, h3⟩, h4, fun i hi => ha.at (hc i hi) (src_apart h.box (hc i hi))⟩, h.bytes, h.len, hp⟩
theorem Src.keep {w w' : World} {S : Nat} {v : Value} {xs : List Int} {p q : Int} (h : Src w S v xs p q) (hb : Below w.heap.size w w') : Src w' S v xs p q :=
  h.move (Below.asd hb S) (keep_cells h.box hb) h.pos
theorem Src.lt {w : World} {S : Nat} {v : Value} {xs : List Int} {p q : Int} (h : Src w S v xs p q) : S < w.heap.size := (Array.getElem?_eq_some_iff.1 h.box).1
theorem wrapI {n : Int} (h0 : -9223372036854775808 ≤ n) (h1 : n ≤ 9223372036854775807) : IntKind.i64.wrap n = n := by
  simp [IntKind.wrap, IntKind.bits, IntKind.signed]; omega
/-- What a draw below n may be. -/
def Drawn (n r : Int) : Prop := 0 ≤ r ∧ (1 ≤ n → r < n)
set_option maxRecDepth 100000 in
set_option maxHeartbeats 4000000 in
/-- A draw. -/
theorem nextS (S : Nat) (v : Value) (xs : List Int) (p q n : Int) (w : World) (h : Src w S v xs p q) (hp : p ≤ 1099511627776) (n0 : -1000000000000 ≤ n) (n1 : n ≤ 1000000000000) :
    Calls Try.prog 22 #[.pointer (some ⟨S, 0, none⟩), .int .i64 n] w fun e w' => ∃ r : Int, e = .returned (.int .i64 r) ∧ Drawn n r ∧ Asd S w w' ∧ Src w' S v xs (p + 1) q := by
  have HD : Kp (∀ x : Int, n = 0 ∨ Drawn n (x % n)) := ⟨fun x => (Decidable.em (n = 0)).imp id fun hn => ⟨Int.emod_nonneg _ hn, fun h => Int.emod_lt_of_pos _ (by omega)⟩⟩
  have h0 := h.pos
  have hlen := h.len
  obtain ⟨a, cap, rfl⟩ := h.slice
  have hx := h.box
  have c0 : w.cell? ⟨S, 0, none⟩ = some (.slice a xs.length cap) := at_cells hx rfl
  have c1 : w.cell? ⟨S, 1, none⟩ = some (.int .i64 p) := at_cells hx rfl
  have f := rw_cells hx
  have hz := set_cells hx 1 (.int .i64 (p + 1))
  obtain ⟨Z, hZ⟩ : ∃ Z, Kp (Z = w.setCell ⟨S, 1, none⟩ (.int .i64 (p + 1))) := ⟨_, ⟨rfl⟩⟩
  rw [← hZ.out] at hz
  have hz' : Z.heap[S]? = some (Go.Obj.cells #[.slice a xs.length cap, .int .i64 (p + 1), .int .i64 q] 50 (0, 0)) := hz
  have aZ : Kp (Asd S w Z) := ⟨by rw [hZ.out]; exact (Asd.refl S w).set 1 _⟩
  have sZ : Kp (Src Z S (.slice a xs.length cap) xs (p + 1) q) := ⟨h.move aZ.out hz' (by omega)⟩
  have z0 : Z.cell? ⟨S, 0, none⟩ = some (.slice a xs.length cap) := at_cells hz' rfl
  have z1 : Z.cell? ⟨S, 1, none⟩ = some (.int .i64 (p + 1)) := at_cells hz' rfl
  clear hz hz' hx h
  by_cases hn : n < 1
  · go_enter Try.func22, Try.ntmps22
    go_upto_region 2 with fail
    rw [← hZ.out]
    go_wp2_with fail
    go_ret
    exact ⟨0, rfl, ⟨by omega, fun h => by omega⟩, aZ.out, sZ.out⟩
  have hn2 : ¬ n = 0 := by omega
  obtain ⟨b, o, ⟨⟨a', cap', e, h1, h2⟩, h3⟩, -, hc⟩ := sZ.out.row.ex
  injection e with e1 e2 e3
  subst e1
  subst e3
  by_cases hk : xs.length = 0
  · rw [hk] at c0 z0
    clear h2 hc hlen h1 h3
    replace hk := Kp.mk hk
    replace sZ := Kp.mk sZ
    rw [hk.out]
    go_enter Try.func22, Try.ntmps22
    go_upto_region 2 with fail
    rw [← hZ.out]
    go_wp2_with fail
    go_ret
    exact ⟨_, rfl, (HD.out _).resolve_left hn2, aZ.out, by have := sZ.out.out; rw [hk.out] at this; exact this⟩
  have ha := h2 (by omega)
  subst ha
  clear h2
  have L0 : (0 : Int) < (xs.length : Int) := by omega
  have r1 : (p.tmod (xs.length : Int)).toNat < xs.length := by
    have := Int.tmod_lt_of_pos p L0
    have := Int.tmod_nonneg (xs.length : Int) h0
    omega
  have r2 : ((p + 1).tmod (xs.length : Int)).toNat < xs.length := by
    have := Int.tmod_lt_of_pos (p + 1) L0
    have := Int.tmod_nonneg (xs.length : Int) (show 0 ≤ p + 1 by omega)
    omega
  have g1 := hc _ r1
  have g2 := hc _ r2
  obtain ⟨k1, k2⟩ := sZ.out.bytes _ r1
  obtain ⟨k3, k4⟩ := sZ.out.bytes _ r2
  generalize xs[(p.tmod (xs.length : Int)).toNat] = y1 at *
  generalize xs[((p + 1).tmod (xs.length : Int)).toNat] = y2 at *
  have l2 : ¬ (xs.length : Int) = 0 := by omega
  have l3 : ((xs.length : Int) == 0) = false := beq_false_of_ne l2
  have q0 : 0 ≤ p.tmod (xs.length : Int) := Int.tmod_nonneg _ h0
  have q1 : p.tmod (xs.length : Int) < xs.length := Int.tmod_lt_of_pos _ (by omega)
  have q2 : 0 ≤ p.tdiv (xs.length : Int) := Int.tdiv_nonneg h0 (by omega)
  have q3 : p.tdiv (xs.length : Int) ≤ 1099511627776 := by
    rw [Int.tdiv_eq_ediv_of_nonneg h0]; exact Int.le_trans (Int.ediv_le_self _ h0) hp
  have q4 : 0 ≤ (p + 1).tmod (xs.length : Int) := Int.tmod_nonneg _ (by omega)
  have q5 : (p + 1).tmod (xs.length : Int) < xs.length := Int.tmod_lt_of_pos _ (by omega)
  clear hc r1 r2
  have E1 : Kp (IntKind.i64.wrap (IntKind.i64.wrap y1 + IntKind.i64.wrap (IntKind.i64.wrap (p.tdiv ↑xs.length) * 37)) = y1 + p.tdiv ↑xs.length * 37) := ⟨by
    rw [wrapI (n := p.tdiv ↑xs.length) (by omega) (by omega), wrapI (n := y1) (by omega) (by omega), wrapI (n := p.tdiv ↑xs.length * 37) (by omega) (by omega), wrapI (by omega) (by omega)]⟩
  go_enter Try.func22, Try.ntmps22
  go_upto_region 2 with fail
  rw [← hZ.out]
  go_upto_region 8 with fail
  go_quiet (fail)
  rw [E1.out]
  have g3 : 0 ≤ y1 + p.tdiv ↑xs.length * 37 := by omega
  have g4 : y1 + p.tdiv ↑xs.length * 37 ≤ 41781441855743 := by omega
  generalize y1 + p.tdiv ↑xs.length * 37 = V at *
  have aN : Kp (Asd S w (Z.drewN nq)) := ⟨⟨aZ.out.os, aZ.out.tape, aZ.out.output, aZ.out.size, aZ.out.block⟩⟩
  have sN : Kp (Src (Z.drewN nq) S (.slice (some ⟨b, o, none⟩) xs.length cap) xs (p + 1) q) := ⟨sZ.out.keep ⟨rfl, rfl, rfl, Nat.le_refl _, fun _ _ => rfl⟩⟩
  have zN : (Z.drewN nq).cell? ⟨S, 0, none⟩ = some (.slice (some ⟨b, o, none⟩) xs.length cap) := z0
  have gN : (Z.drewN nq).cell? ⟨b, o + ((p + 1).tmod (xs.length : Int)).toNat, none⟩ = some (.int .u8 y2) := g2
  generalize Z.drewN nq = U at *
  clear E1 q0 q1 q2 q3 g1 k1 k2 aZ sZ z0 z1 g2 c0 c1 f hZ
  by_cases hb : 200 < n
  · go_upto_region 10 with fail
    refine wp_region_quiet_below (by kernel_rfl) (by kernel_rfl) ?_
    have zk := cell_regrown zN
    have gk := cell_regrown gN
    have W1 : Kp (IntKind.i64.wrap (p + 1) = p + 1) := ⟨wrapI (by omega) (by omega)⟩
    have E2 : Kp (IntKind.i64.wrap (IntKind.i64.wrap (IntKind.i64.wrap (V * 251) + IntKind.i64.wrap (IntKind.i64.wrap y2 * 13)) + p) = V * 251 + y2 * 13 + p) := ⟨by
      rw [wrapI (n := V * 251) (by omega) (by omega), wrapI (n := y2) (by omega) (by omega), wrapI (n := y2 * 13) (by omega) (by omega), wrapI (n := V * 251 + y2 * 13) (by omega) (by omega), wrapI (by omega) (by omega)]⟩
    repeat (quiet_step (fail))
    rw [W1.out]
    repeat (quiet_step (fail))
    refine wpQuiet_nil ?_
    intro _ hw'
    obtain ⟨⟨dq, osq⟩, hw''⟩ := hw'
    subst hw''
    rw [E2.out]
    have m0 : 0 ≤ V * 251 + y2 * 13 + p := by omega
    have m1 : V * 251 + y2 * 13 + p ≤ 92233720368547758 := by omega
    have hR := below_regrown U dq osq
    have aR : Kp (Asd S w (grow (redrawn U dq) osq)) := ⟨aN.out.trans (Below.asd hR S)⟩
    have sR : Kp (Src (grow (redrawn U dq) osq) S (.slice (some ⟨b, o, none⟩) xs.length cap) xs (p + 1) q) := ⟨sN.out.keep hR⟩
    clear hR zk gk zN gN aN sN
    generalize V * 251 + y2 * 13 + p = V2 at *
    generalize grow (redrawn U dq) osq = U2 at *
    go_wp2_with fail
    go_ret
    exact ⟨_, rfl, (HD.out _).resolve_left hn2, aR.out, sR.out⟩
  · go_wp2_with fail
    go_ret
    exact ⟨_, rfl, (HD.out _).resolve_left hn2, aN.out, sN.out⟩
end Go.Proofs.Ytbacbigcecmfbaa
