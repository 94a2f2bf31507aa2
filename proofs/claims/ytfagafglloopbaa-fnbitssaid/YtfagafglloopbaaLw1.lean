/- Contracts for the draws of the laws: a choice lies in its bounds, a drawn word in 64 bits. -/
import Derived.Test.YtfagafglloopbaaBi0
import Derived.ShutString
import Derived.ChangeOld
import Derived.Laws.BitsAllLaws
import Derived.Deep.QuietTactic
import Derived.BigQuiet
namespace Go.Proofs.Ytfagafglloopbaa
open Go.ChangeShapes Go.WideShapes Go.ChangeAt Go.RowKit
set_option linter.unusedVariables false
set_option linter.unusedSimpArgs false
/-- What a walk is told of a slice of integers that came in. -/
def IsRow (k : IntKind) (w : World) (a : Option Addr) (len cap : Nat) (zs : List Int) : Prop :=
  (a = none ∧ len = 0 ∧ cap = 0 ∧ zs = []) ∨
  ∃ x, a = some x ∧ len ≤ cap ∧ cap ≤ maxLen ∧ zs.length = cap ∧ (∀ i, i < zs.length → w.cell? (x.add i) = some (.int k (zs.getD i 0))) ∧ ∀ n ∈ zs, (Lit.int k n).wf = true

theorem i64w {n : Int} (h0 : -9223372036854775808 ≤ n) (h1 : n ≤ 9223372036854775807) : IntKind.i64.wrap n = n := by
  simp [IntKind.wrap, IntKind.bits, IntKind.signed]; omega
set_option maxHeartbeats 1000000 in
theorem lwAt_nil (a : Option Addr) (cap : Nat) (i n : Int) (w : World) (i0 : 0 ≤ i) (i1 : i ≤ 300) (n0 : 1 < n) (n1 : n ≤ 256) :
    Calls Try.prog 8 #[.slice a 0 cap, .int .i64 i, .int .i64 n] w fun e w' => ∃ v : Int, e = .returned (.int .i64 v) ∧ 0 ≤ v ∧ v < n ∧ Below w.heap.size w w' := by
  have n2 : ¬ n = 0 := by omega
  go_enter Try.func8, Try.ntmps8
  go_wp2
  go_ret
  exact ⟨_, rfl, Int.emod_nonneg _ (by omega), Int.emod_lt_of_pos _ (by omega), Below.refl _ _⟩
set_option maxHeartbeats 1000000 in
theorem lwAt_some (b off len cap : Nat) (i n c1 c2 : Int) (w : World) (i0 : 0 ≤ i) (i1 : i ≤ 300) (n0 : 1 < n) (n1 : n ≤ 256) (hl : 0 < len) (hc : len ≤ cap) (hm : cap ≤ 9223372036854775807)
    (h1 : w.cell? ⟨b, off + (i.tmod (len : Int)).toNat, none⟩ = some (.int .u8 c1)) (h2 : w.cell? ⟨b, off + ((i + 1) % (len : Int)).toNat, none⟩ = some (.int .u8 c2)) (k1 : 0 ≤ c1) (k2 : c1 ≤ 255) (k3 : 0 ≤ c2) (k4 : c2 ≤ 255) :
    Calls Try.prog 8 #[.slice (some ⟨b, off, none⟩) len cap, .int .i64 i, .int .i64 n] w fun e w' => ∃ v : Int, e = .returned (.int .i64 v) ∧ 0 ≤ v ∧ v < n ∧ Below w.heap.size w w' := by
  have n2 : ¬ n = 0 := by omega
  have l2 : ¬ (len : Int) = 0 := by omega
  have l3 : ((len : Int) == 0) = false := by simp; omega
  have l4 : (0 : Int) < (len : Int) := by omega
  have l6 : ¬ len = 0 := by omega
  have q0 : 0 ≤ i.tmod (len : Int) := Int.tmod_nonneg _ i0
  have q1 : i.tmod (len : Int) < len := Int.tmod_lt_of_pos _ (by omega)
  have q2 : 0 ≤ i.tdiv (len : Int) := Int.tdiv_nonneg i0 (by omega)
  have q3 : i.tdiv (len : Int) ≤ 300 := by
    rw [Int.tdiv_eq_ediv_of_nonneg i0]; exact Int.le_trans (Int.ediv_le_self _ i0) i1
  have p0 : 0 ≤ (i + 1) % (len : Int) := Int.emod_nonneg _ (by omega)
  have p1 : (i + 1) % (len : Int) < len := Int.emod_lt_of_pos _ (by omega)
  have l5 : (len : Int) ≤ 9223372036854775807 := by omega
  have e1 : Hid (IntKind.i64.wrap (IntKind.i64.wrap c1 + IntKind.i64.wrap (IntKind.i64.wrap (i.tdiv ↑len) * 3)) = c1 + i.tdiv ↑len * 3) := by
    show IntKind.i64.wrap (IntKind.i64.wrap c1 + IntKind.i64.wrap (IntKind.i64.wrap (i.tdiv ↑len) * 3)) = c1 + i.tdiv ↑len * 3
    rw [i64w (n := i.tdiv ↑len) (by omega) (by omega), i64w (n := c1) (by omega) (by omega), i64w (n := i.tdiv ↑len * 3) (by omega) (by omega), i64w (by omega) (by omega)]
  by_cases hn : 200 < n
  · go_enter Try.func8, Try.ntmps8
    go_wp2_with fail
    go_quiet (fail)
    rw [e1.out]
    have g0 : 0 ≤ c1 + i.tdiv ↑len * 3 := by omega
    have g1 : c1 + i.tdiv ↑len * 3 ≤ 1155 := by omega
    generalize c1 + i.tdiv ↑len * 3 = V at *
    clear e1 q0 q1 q2 q3 h1
    go_wp2_with fail
    go_ret
    exact ⟨_, rfl, Int.emod_nonneg _ (by omega), Int.emod_lt_of_pos _ (by omega), ⟨rfl, rfl, rfl, Nat.le_refl _, fun _ _ => rfl⟩⟩
  · go_enter Try.func8, Try.ntmps8
    go_wp2_with fail
    go_quiet (fail)
    rw [e1.out]
    have g0 : 0 ≤ c1 + i.tdiv ↑len * 3 := by omega
    have g1 : c1 + i.tdiv ↑len * 3 ≤ 1155 := by omega
    generalize c1 + i.tdiv ↑len * 3 = V at *
    clear e1 q0 q1 q2 q3 h1
    go_wp2_with fail
    go_ret
    exact ⟨_, rfl, Int.emod_nonneg _ (by omega), Int.emod_lt_of_pos _ (by omega), ⟨rfl, rfl, rfl, Nat.le_refl _, fun _ _ => rfl⟩⟩
/-- What came in reads the same behind a call that makes new memory alone. -/
theorem IsRow.bel {k : IntKind} {w w' : World} {a : Option Addr} {len cap : Nat} {zs : List Int} (h : IsRow k w a len cap zs) (hb : Below w.heap.size w w') : IsRow k w' a len cap zs := by
  rcases h with h | ⟨x, rfl, hl, hm, hz, hc, hw⟩
  · exact .inl h
  · refine .inr ⟨x, rfl, hl, hm, hz, fun i hi => ?_, hw⟩
    have := hc i hi
    have hlt : (x.add i).block < w.heap.size := by
      rcases Nat.lt_or_ge (x.add i).block w.heap.size with h1 | h1
      · exact h1
      · exfalso
        have hn : w.heap[(x.add i).block]? = none := by rw [Array.getElem?_eq_none_iff]; exact h1
        unfold World.cell? at this
        rw [hn] at this
        split at this
        · rename_i hh; cases hh
        · cases this
    rw [hb.cell hlt]; exact this
theorem lwAt_any (a : Option Addr) (len cap : Nat) (zs : List Int) (i n : Int) (w : World) (h : IsRow .u8 w a len cap zs) (i0 : 0 ≤ i) (i1 : i ≤ 300) (n0 : 1 < n) (n1 : n ≤ 256) :
    Calls Try.prog 8 #[.slice a len cap, .int .i64 i, .int .i64 n] w fun e w' => ∃ v : Int, e = .returned (.int .i64 v) ∧ 0 ≤ v ∧ v < n ∧ Below w.heap.size w w' := by
  rcases h with ⟨rfl, rfl, rfl, rfl⟩ | ⟨x, rfl, hl, hm, hz, hc, hw⟩
  · exact lwAt_nil _ _ i n w i0 i1 n0 n1
  · unfold maxLen at hm
    by_cases h0 : len = 0
    · subst h0
      exact lwAt_nil _ _ i n w i0 i1 n0 n1
    · have l4 : (0 : Int) < (len : Int) := by omega
      obtain ⟨b, off, spot⟩ := x
      have hs0 := hc 0 (by omega)
      have hspot : spot = none := by simpa [Addr.add] using World.cell?_spot hs0
      subst hspot
      have r1 : (i.tmod (len : Int)).toNat < zs.length := by
        have := Int.tmod_lt_of_pos i l4
        have := Int.tmod_nonneg (len : Int) i0
        omega
      have r2 : ((i + 1) % (len : Int)).toNat < zs.length := by
        have := Int.emod_lt_of_pos (i + 1) l4
        have := Int.emod_nonneg (i + 1) (show (len : Int) ≠ 0 by omega)
        omega
      have B : ∀ j, j < zs.length → 0 ≤ zs.getD j 0 ∧ zs.getD j 0 ≤ 255 := fun j hj => by
        have := bounds_u8 (hw (zs.getD j 0) (by rw [List.getD, List.getElem?_eq_getElem hj]; exact List.getElem_mem hj))
        exact this
      have G : ∀ j, j < zs.length → w.cell? ⟨b, off + j, none⟩ = some (.int .u8 (zs.getD j 0)) := fun j hj => by
        have := hc j hj
        by_cases h : j = 0
        · subst h; simpa [Addr.add] using this
        · simpa [Addr.add, h] using this
      exact lwAt_some b off len cap i n _ _ w i0 i1 n0 n1 (by omega) hl (by omega) (G _ r1) (G _ r2) (B _ r1).1 (B _ r1).2 (B _ r2).1 (B _ r2).2
theorem bitsU_bd (o : BinOp) (a b : Int) : 0 ≤ bits o .u64 a b ∧ bits o .u64 a b ≤ 18446744073709551615 := bounds_u64 (wf_bits ..)
theorem wrapU_bd (V : Int) : 0 ≤ IntKind.u64.wrap V ∧ IntKind.u64.wrap V ≤ 18446744073709551615 := by
  simp [IntKind.wrap, IntKind.bits, IntKind.signed]
  omega
theorem b64 {V : Int} (h : 0 ≤ V ∧ V ≤ 18446744073709551615) : 0 ≤ V ∧ V < 18446744073709551616 := by omega
set_option maxRecDepth 100000 in
set_option maxHeartbeats 2000000 in
theorem lwWord_64 (a : Option Addr) (len cap : Nat) (zs : List Int) (i : Int) (w : World) (h : IsRow .u8 w a len cap zs) (i0 : 0 ≤ i) (i1 : i ≤ 280) :
    Calls Try.prog 9 #[.slice a len cap, .int .i64 i, .int .i64 64] w fun e w' => ∃ v : Int, e = .returned (.int .u64 v) ∧ (0 ≤ v ∧ v < 18446744073709551616) ∧ Below w.heap.size w w' := by
  go_enter Try.func9, Try.ntmps9
  go_wp2_with fail
  refine (lwAt_any _ _ _ _ _ _ _ h i0 (by omega) (by decide) (by decide)).mono ?_
  rintro e w1 ⟨p, rfl, p0, p1, hb1⟩
  have h1 := h.bel hb1
  have hp : p = 0 ∨ p = 1 ∨ p = 2 ∨ 3 ≤ p := by omega
  rcases hp with rfl | rfl | rfl | hp
  · go_wp2_with fail
    refine (lwAt_any _ _ _ _ _ _ _ h1 (by omega) (by omega) (by decide) (by decide)).mono ?_
    rintro e w2 ⟨q, rfl, q0, q1, hb2⟩
    go_wp2_with fail
    go_ret
    exact ⟨_, rfl, b64 (by first | exact wrapU_bd _ | exact bitsU_bd _ _ _ | omega), bel_trans hb1 hb2⟩
  · go_wp2_with fail
    refine (lwAt_any _ _ _ _ _ _ _ h1 (by omega) (by omega) (by decide) (by decide)).mono ?_
    rintro e w2 ⟨q, rfl, q0, q1, hb2⟩
    go_wp2_with fail
    go_ret
    exact ⟨_, rfl, b64 (by first | exact wrapU_bd _ | exact bitsU_bd _ _ _ | omega), bel_trans hb1 hb2⟩
  · go_wp2_with fail
    refine (lwAt_any _ _ _ _ _ _ _ h1 (by omega) (by omega) (by decide) (by decide)).mono ?_
    rintro e w2 ⟨q, rfl, q0, q1, hb2⟩
    go_wp2_with fail
    go_ret
    exact ⟨_, rfl, b64 (by first | exact wrapU_bd _ | exact bitsU_bd _ _ _ | omega), bel_trans hb1 hb2⟩
  · have e0 : (p == 0) = false := beq_eq_false_iff_ne.2 (by omega)
    have e1 : (p == 1) = false := beq_eq_false_iff_ne.2 (by omega)
    have e2 : (p == 2) = false := beq_eq_false_iff_ne.2 (by omega)
    go_wp2_with fail
    go_loopw [7, 8] (fun v k wr => ∃ (V : Int) (j : Nat), v = .int .u64 V ∧ 0 ≤ V ∧ V ≤ 18446744073709551615 ∧ k = .int .i64 j ∧ j ≤ 8 ∧ Below w.heap.size w wr) (fun _ k _ => 8 - (intOf k).toNat)
    case atStart => exact ⟨0, 0, rfl, by omega, by omega, rfl, by omega, hb1⟩
    case round =>
      obtain ⟨V, j, rfl, V0, V1, rfl, hj, hbr⟩ := hrel
      have hr := h.bel hbr
      by_cases hlt : j < 8
      · go_wp2_with fail
        refine (lwAt_any _ _ _ _ _ _ _ hr (by omega) (by omega) (by decide) (by decide)).mono ?_
        rintro e w2 ⟨q, rfl, q0, q1, hb2⟩
        go_wp2_with fail
        go_roundw
        case rel => exact ⟨_, j + 1, rfl, (bitsU_bd _ _ _).1, (bitsU_bd _ _ _).2, by go_num, by omega, bel_trans hbr hb2⟩
        case measure => simp [intOf]; omega
      · go_wp2_with fail
        go_ret
        exact ⟨_, rfl, b64 (by first | exact wrapU_bd _ | exact bitsU_bd _ _ _ | omega), hbr⟩
end Go.Proofs.Ytfagafglloopbaa
