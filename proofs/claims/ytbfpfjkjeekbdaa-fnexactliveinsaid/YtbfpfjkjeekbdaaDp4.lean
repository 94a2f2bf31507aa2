/- Contracts of the laws' helpers that copy the operands of an instruction. -/
import Derived.Test.YtbfpfjkjeekbdaaDp3
namespace Go.Proofs.Ytbfpfjkjeekbdaa
open Go.ChangeShapes Go.WideShapes Go.ChangeAt Go.RowKit
set_option linter.unusedVariables false
set_option linter.unusedSimpArgs false
/-- Four cells written, one behind the other. -/
theorem put4 {w : World} {B n i : Nat} (h : Rw w B n) (hi : i + 3 < n) (d : OpD) :
    OpAt ((((w.setCell ⟨B, i, none⟩ (.int .i64 d.k)).setCell ⟨B, i + 1, none⟩ (.int .i64 d.t)).setCell ⟨B, i + 2, none⟩ (.int .i64 d.i)).setCell ⟨B, i + 3, none⟩ (.int .u64 d.w)) B i d ∧
    Rw ((((w.setCell ⟨B, i, none⟩ (.int .i64 d.k)).setCell ⟨B, i + 1, none⟩ (.int .i64 d.t)).setCell ⟨B, i + 2, none⟩ (.int .i64 d.i)).setCell ⟨B, i + 3, none⟩ (.int .u64 d.w)) B n ∧
    ∀ b o v, At w b o v → (b ≠ B ∨ o < i ∨ i + 3 < o) → At ((((w.setCell ⟨B, i, none⟩ (.int .i64 d.k)).setCell ⟨B, i + 1, none⟩ (.int .i64 d.t)).setCell ⟨B, i + 2, none⟩ (.int .i64 d.i)).setCell ⟨B, i + 3, none⟩ (.int .u64 d.w)) b o v := by
  have h1 := h.set i (.int .i64 d.k)
  have h2 := h1.set (i + 1) (.int .i64 d.t)
  have h3 := h2.set (i + 2) (.int .i64 d.i)
  refine ⟨⟨?_, ?_, ?_, ?_⟩, h3.set _ _, fun b o v q hn => ?_⟩
  · exact set_other (set_other (set_other (set_same h (by omega) _) (by omega)) (by omega)) (by omega)
  · exact set_other (set_other (set_same h1 (by omega) _) (by omega)) (by omega)
  · exact set_other (set_same h2 (by omega) _) (by omega)
  · exact set_same h3 (by omega) _
  · exact set_other (set_other (set_other (set_other q (by omega)) (by omega)) (by omega)) (by omega)
set_option maxRecDepth 100000 in
set_option maxHeartbeats 2000000 in
theorem toOps (v : Value) (xs : List OpD) (w : World) {lo : Nat} (h : Ops lo w v xs) (hn : xs.length ≤ 1048576) :
    Calls Try.prog 106 #[v] w fun e w' => ∃ v', e = .returned v' ∧ Ops w.heap.size w' v' xs ∧ Below w.heap.size w w' ∧ Unf w.heap.size w' := by
  obtain ⟨b, o, ⟨⟨a, cap, rfl, h1, h2⟩, h3⟩, -, hc⟩ := h.ex
  have g1 : (xs.length : Int) ≤ 1048576 := by omega
  obtain ⟨O, hmk, hrw⟩ := mk_row 109 115 (.agg #[.int .i64 0, .int .i64 0, .int .i64 0, .int .u64 0]) 4 32 Try.underlying109 (by kernel_rfl) xs.length (by omega) (by omega)
  have HR : Kp (∀ W : World, Rw (W.alloc O) W.heap.size (xs.length * 4)) := ⟨hrw⟩
  clear hrw
  go_enter Try.func106, Try.ntmps106
  go_wp2_with fail
  go_loopw [4] (fun s wr => ∃ i : Nat, i ≤ xs.length ∧ s = .int .i64 i ∧ Below w.heap.size w wr ∧ Unf w.heap.size wr ∧ Rw wr w.heap.size (xs.length * 4) ∧ ∀ j (hj : j < xs.length), j < i → OpAt wr w.heap.size (j * 4) xs[j]) (fun s _ => xs.length - (intOf s).toNat)
  case atStart => exact ⟨0, Nat.zero_le _, rfl, bel_alloc _ _, Unf.new (HR.out w), HR.out w, fun j _ hj => absurd hj (Nat.not_lt_zero _)⟩
  case round =>
    obtain ⟨i, hi, rfl, hB, hU, hR, hd⟩ := hrel
    have HD : Kp _ := ⟨hd⟩
    clear hd
    by_cases hlt : i < xs.length
    · have ha := h2 (by omega)
      subst ha
      obtain ⟨c0, c1, c2, c3⟩ := (hc i hlt).keep hB
      obtain ⟨d, hd⟩ : ∃ d, Kp (xs[i] = d) := ⟨_, ⟨rfl⟩⟩
      rw [hd.out] at c0 c1 c2 c3
      clear hc
      go_wp2_with fail
      refine (toOp _ _ _ _ _).mono ?_
      rintro e w1 ⟨rfl, hb1, hu1⟩
      have hU1 := hU.call hb1 hu1
      have hR1 := hR.keep hb1
      obtain ⟨z0, cz0, fz0⟩ := hR1.at (j := i * 4) (by omega)
      obtain ⟨z1, cz1, fz1⟩ := hR1.at (j := i * 4 + 1) (by omega)
      obtain ⟨z2, cz2, fz2⟩ := hR1.at (j := i * 4 + 2) (by omega)
      obtain ⟨z3, cz3, fz3⟩ := hR1.at (j := i * 4 + 3) (by omega)
      go_wp2_with fail
      have P := put4 hR1 (i := i * 4) (by omega) d
      refine ⟨⟨i + 1, by omega, by go_num, ?_, (((hU1.set _ _ _).set _ _ _).set _ _ _).set _ _ _, P.2.1, fun j hj hji => ?_⟩, by simp [intOf]; omega⟩
      · have hB1 := bel_trans hB hb1
        exact (((hB1.setCell (Nat.le_refl _) _).setCell (Nat.le_refl _) _).setCell (Nat.le_refl _) _).setCell (Nat.le_refl _) _
      · by_cases e : j = i
        · subst e
          rw [hd.out]
          exact P.1
        · have q := (HD.out j hj (by omega)).keep hb1
          exact ⟨P.2.2 _ _ _ q.c0 (by omega), P.2.2 _ _ _ q.c1 (by omega), P.2.2 _ _ _ q.c2 (by omega), P.2.2 _ _ _ q.c3 (by omega)⟩
    · clear h2 hc hmk
      go_wp2_with fail
      go_ret
      exact ⟨_, rfl, ⟨w.heap.size, 0, ⟨⟨_, _, rfl, Nat.le_refl _, fun _ => rfl⟩, h3⟩, Nat.le_refl _, fun j hj => by rw [Nat.zero_add]; exact HD.out j hj (by omega)⟩, hB, hU⟩
end Go.Proofs.Ytbfpfjkjeekbdaa
