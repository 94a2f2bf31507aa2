/- Contracts over one translation for the draws of the laws: a choice lies in its bounds, a drawn width is one, a drawn word is a word of its width. -/
import Derived.Test.YtmkhkgliipalaaaDoorAr7
import Derived.Deep.QuietTactic
import Derived.BigQuiet
namespace Go.Proofs.YtmkhkgliipalaaaDoor
open Go.ChangeShapes Go.WideShapes Go.ChangeAt Go.RowKit
set_option linter.unusedVariables false
set_option linter.unusedSimpArgs false
theorem i64w {n : Int} (h0 : -9223372036854775808 ≤ n) (h1 : n ≤ 9223372036854775807) : IntKind.i64.wrap n = n := by
  simp [IntKind.wrap, IntKind.bits, IntKind.signed]; omega
set_option maxHeartbeats 1000000 in
theorem lwAt_nil (a : Option Addr) (cap : Nat) (i n : Int) (w : World) (i0 : 0 ≤ i) (i1 : i ≤ 100) (n0 : 1 < n) (n1 : n ≤ 256) :
    Calls Tryd.prog 10 #[.slice a 0 cap, .int .i64 i, .int .i64 n] w fun e w' => ∃ v : Int, e = .returned (.int .i64 v) ∧ 0 ≤ v ∧ v < n ∧ Below w.heap.size w w' := by
  have n2 : ¬ n = 0 := by omega
  go_enter Tryd.func10, Tryd.ntmps10
  go_wp2
  go_ret
  exact ⟨_, rfl, Int.emod_nonneg _ (by omega), Int.emod_lt_of_pos _ (by omega), Below.refl _ _⟩
set_option maxHeartbeats 1000000 in
theorem lwAt_some (b off len cap : Nat) (i n c1 c2 : Int) (w : World) (i0 : 0 ≤ i) (i1 : i ≤ 100) (n0 : 1 < n) (n1 : n ≤ 256) (hl : 0 < len) (hc : len ≤ cap) (hm : cap ≤ 9223372036854775807)
    (h1 : w.cell? ⟨b, off + (i.tmod (len : Int)).toNat, none⟩ = some (.int .u8 c1)) (h2 : w.cell? ⟨b, off + ((i + 1) % (len : Int)).toNat, none⟩ = some (.int .u8 c2)) (k1 : 0 ≤ c1) (k2 : c1 ≤ 255) (k3 : 0 ≤ c2) (k4 : c2 ≤ 255) :
    Calls Tryd.prog 10 #[.slice (some ⟨b, off, none⟩) len cap, .int .i64 i, .int .i64 n] w fun e w' => ∃ v : Int, e = .returned (.int .i64 v) ∧ 0 ≤ v ∧ v < n ∧ Below w.heap.size w w' := by
  have n2 : ¬ n = 0 := by omega
  have l2 : ¬ (len : Int) = 0 := by omega
  have l3 : ((len : Int) == 0) = false := by simp; omega
  have l4 : (0 : Int) < (len : Int) := by omega
  have l6 : ¬ len = 0 := by omega
  have q0 : 0 ≤ i.tmod (len : Int) := Int.tmod_nonneg _ i0
  have q1 : i.tmod (len : Int) < len := Int.tmod_lt_of_pos _ (by omega)
  have q2 : 0 ≤ i.tdiv (len : Int) := Int.tdiv_nonneg i0 (by omega)
  have q3 : i.tdiv (len : Int) ≤ 100 := by
    rw [Int.tdiv_eq_ediv_of_nonneg i0]; exact Int.le_trans (Int.ediv_le_self _ i0) i1
  have p0 : 0 ≤ (i + 1) % (len : Int) := Int.emod_nonneg _ (by omega)
  have p1 : (i + 1) % (len : Int) < len := Int.emod_lt_of_pos _ (by omega)
  have l5 : (len : Int) ≤ 9223372036854775807 := by omega
  have e1 : Hid (IntKind.i64.wrap (IntKind.i64.wrap c1 + IntKind.i64.wrap (IntKind.i64.wrap (i.tdiv ↑len) * 3)) = c1 + i.tdiv ↑len * 3) := by
    show IntKind.i64.wrap (IntKind.i64.wrap c1 + IntKind.i64.wrap (IntKind.i64.wrap (i.tdiv ↑len) * 3)) = c1 + i.tdiv ↑len * 3
    rw [i64w (n := i.tdiv ↑len) (by omega) (by omega), i64w (n := c1) (by omega) (by omega), i64w (n := i.tdiv ↑len * 3) (by omega) (by omega), i64w (by omega) (by omega)]
  by_cases hn : 200 < n
  · go_enter Tryd.func10, Tryd.ntmps10
    go_wp2_with fail
    go_quiet (fail)
    rw [e1.out]
    have g0 : 0 ≤ c1 + i.tdiv ↑len * 3 := by omega
    have g1 : c1 + i.tdiv ↑len * 3 ≤ 555 := by omega
    generalize c1 + i.tdiv ↑len * 3 = V at *
    clear e1 q0 q1 q2 q3 h1
    go_wp2_with fail
    go_ret
    exact ⟨_, rfl, Int.emod_nonneg _ (by omega), Int.emod_lt_of_pos _ (by omega), ⟨rfl, rfl, rfl, Nat.le_refl _, fun _ _ => rfl⟩⟩
  · go_enter Tryd.func10, Tryd.ntmps10
    go_wp2_with fail
    go_quiet (fail)
    rw [e1.out]
    have g0 : 0 ≤ c1 + i.tdiv ↑len * 3 := by omega
    have g1 : c1 + i.tdiv ↑len * 3 ≤ 555 := by omega
    generalize c1 + i.tdiv ↑len * 3 = V at *
    clear e1 q0 q1 q2 q3 h1
    go_wp2_with fail
    go_ret
    exact ⟨_, rfl, Int.emod_nonneg _ (by omega), Int.emod_lt_of_pos _ (by omega), ⟨rfl, rfl, rfl, Nat.le_refl _, fun _ _ => rfl⟩⟩
/-- What came in reads the same behind a call that makes new memory alone. -/
theorem IsRow.bel {k : IntKind} {w w' : World} {a : Option Addr} {len cap : Nat} {zs : List Int} (h : IsRow k w a len cap zs) (hb : Below w.heap.size w w') : IsRow k w' a len cap zs := by
  rcases h with h | ⟨x, rfl, hl, hm, hz, hc, hw⟩
  · exact .inl h
  · refine .inr ⟨x, rfl, hl, hm, hz, fun i hi => ?_, hw⟩
    have := hc i hi
    have hlt : (x.add i).block < w.heap.size := by
      rcases Nat.lt_or_ge (x.add i).block w.heap.size with h1 | h1
      · exact h1
      · exfalso
        have hn : w.heap[(x.add i).block]? = none := by rw [Array.getElem?_eq_none_iff]; exact h1
        unfold World.cell? at this
        rw [hn] at this
        split at this
        · rename_i hh; cases hh
        · cases this
    rw [hb.cell hlt]; exact this
theorem lwAt_any (a : Option Addr) (len cap : Nat) (zs : List Int) (i n : Int) (w : World) (h : IsRow .u8 w a len cap zs) (i0 : 0 ≤ i) (i1 : i ≤ 100) (n0 : 1 < n) (n1 : n ≤ 256) :
    Calls Tryd.prog 10 #[.slice a len cap, .int .i64 i, .int .i64 n] w fun e w' => ∃ v : Int, e = .returned (.int .i64 v) ∧ 0 ≤ v ∧ v < n ∧ Below w.heap.size w w' := by
  rcases h with ⟨rfl, rfl, rfl, rfl⟩ | ⟨x, rfl, hl, hm, hz, hc, hw⟩
  · exact lwAt_nil _ _ i n w i0 i1 n0 n1
  · unfold maxLen at hm
    by_cases h0 : len = 0
    · subst h0
      exact lwAt_nil _ _ i n w i0 i1 n0 n1
    · have l4 : (0 : Int) < (len : Int) := by omega
      obtain ⟨b, off, spot⟩ := x
      have hs0 := hc 0 (by omega)
      have hspot : spot = none := by simpa [Addr.add] using World.cell?_spot hs0
      subst hspot
      have r1 : (i.tmod (len : Int)).toNat < zs.length := by
        have := Int.tmod_lt_of_pos i l4
        have := Int.tmod_nonneg (len : Int) i0
        omega
      have r2 : ((i + 1) % (len : Int)).toNat < zs.length := by
        have := Int.emod_lt_of_pos (i + 1) l4
        have := Int.emod_nonneg (i + 1) (show (len : Int) ≠ 0 by omega)
        omega
      have B : ∀ j, j < zs.length → 0 ≤ zs.getD j 0 ∧ zs.getD j 0 ≤ 255 := fun j hj => by
        have := bounds_u8 (hw (zs.getD j 0) (by rw [List.getD, List.getElem?_eq_getElem hj]; exact List.getElem_mem hj))
        exact this
      have G : ∀ j, j < zs.length → w.cell? ⟨b, off + j, none⟩ = some (.int .u8 (zs.getD j 0)) := fun j hj => by
        have := hc j hj
        by_cases h : j = 0
        · subst h; simpa [Addr.add] using this
        · simpa [Addr.add, h] using this
      exact lwAt_some b off len cap i n _ _ w i0 i1 n0 n1 (by omega) hl (by omega) (G _ r1) (G _ r2) (B _ r1).1 (B _ r1).2 (B _ r2).1 (B _ r2).2
set_option maxHeartbeats 1000000 in
theorem lwWidth_any (k : Int) (w : World) (k0 : 0 ≤ k) (k1 : k < 5) :
    Calls Tryd.prog 9 #[.int .i64 k] w fun e w' => ∃ x : Int, e = .returned (.int .i64 x) ∧ vw x = true ∧ Below w.heap.size w w' := by
  have hk : k = 0 ∨ k = 1 ∨ k = 2 ∨ k = 3 ∨ k = 4 := by omega
  rcases hk with rfl | rfl | rfl | rfl | rfl
  all_goals
    go_enter Tryd.func9, Tryd.ntmps9
    go_wp2
    go_ret
    exact ⟨_, rfl, by decide, bel_alloc _ _⟩
set_option maxHeartbeats 1000000 in
theorem lwTop_any (x : Int) (w : World) (hx : vw x = true) :
    Calls Tryd.prog 15 #[.int .i64 x] w fun e w' => e = .returned (.int .u64 (2 ^ (x.toNat - 1))) ∧ w' = w := by
  rcases vw_cases hx with rfl | rfl | rfl | rfl | rfl
  all_goals
    clear hx
    go_enter Tryd.func15, Tryd.ntmps15
    go_wp2
    go_ret
    exact ⟨ret_int (by decide), rfl⟩
set_option maxRecDepth 100000 in
set_option maxHeartbeats 1000000 in
theorem lwDo_any (op x a b c v : Int) (w : World) (hw : Wid w) (h : ∀ w, Wid w → Calls Tryd.prog 12 #[.int .i64 op, .int .i64 0, .int .i64 x, .int .u64 a, .int .u64 b] w fun e w' => e = .returned (.agg #[.int .i64 c, .int .u64 v]) ∧ Below w.heap.size w w') :
    Calls Tryd.prog 13 #[.int .i64 op, .int .i64 x, .int .u64 a, .int .u64 b] w fun e w' => e = .returned (.int .u64 v) ∧ Below w.heap.size w w' := by
  have hf : ∀ W, (Instr.field 28 (.agg #[.int .i64 c, .int .u64 v]) 1).run Tryd.prog W = .ok (.int .u64 v) W := fun W => by kernel_rfl
  go_enter Tryd.func13, Tryd.ntmps13
  go_wp2_with fail
  refine (h _ hw).mono ?_
  rintro e w1 ⟨rfl, hb1⟩
  go_wp2_with fail
  go_ret
  exact ⟨rfl, by first | exact hb1 | exact bel_trans hb1 (bel_alloc _ _)⟩
end Go.Proofs.YtmkhkgliipalaaaDoor
