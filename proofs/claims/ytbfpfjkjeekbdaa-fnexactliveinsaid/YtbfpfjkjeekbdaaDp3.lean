/- Contracts of the laws' helpers that copy the lists of an instruction: the copy lies in new memory. -/
import Derived.Test.YtbfpfjkjeekbdaaDp2
import Derived.Deep.OwnRows
namespace Go.Proofs.Ytbfpfjkjeekbdaa
open Go.ChangeShapes Go.WideShapes Go.ChangeAt Go.RowKit
set_option linter.unusedVariables false
set_option linter.unusedSimpArgs false
/-- A row of n cells of the call's own, whatever they hold, none of them frozen. -/
structure Rw (w : World) (B n : Nat) : Prop where
  ex : ∃ t f, w.rowIs B t n f
theorem Rw.at {w : World} {B n j : Nat} (h : Rw w B n) (hj : j < n) : ∃ z, At w B j z ∧ w.frozen? ⟨B, j, none⟩ = false := by
  obtain ⟨t, f, r⟩ := h.ex
  exact ⟨f j, r.cell hj, r.frozen j⟩
theorem Rw.set {w : World} {B n : Nat} (h : Rw w B n) (k : Nat) (x : Value) : Rw (w.setCell ⟨B, k, none⟩ x) B n := by
  obtain ⟨t, f, r⟩ := h.ex
  exact ⟨t, _, r.set k x⟩
theorem Rw.lt {w : World} {B n : Nat} (h : Rw w B n) : B < w.heap.size := by
  obtain ⟨t, f, r⟩ := h.ex
  exact r.lt
theorem Rw.keep {w w' : World} {B n : Nat} (h : Rw w B n) (hb : Below w.heap.size w w') : Rw w' B n := by
  have l := h.lt
  obtain ⟨t, f, r⟩ := h.ex
  exact ⟨t, f, r.of_block (hb.block _ l)⟩
theorem set_same {w : World} {B n k : Nat} (h : Rw w B n) (hk : k < n) (x : Value) : At (w.setCell ⟨B, k, none⟩ x) B k x := by
  obtain ⟨z, c, _⟩ := h.at hk
  exact World.cell?_setCell_same _ _ _ c
theorem set_other {w : World} {B k b o : Nat} {v x : Value} (h : At w b o v) (hn : b ≠ B ∨ o ≠ k) : At (w.setCell ⟨B, k, none⟩ x) b o v := by
  show World.cell? _ _ = _
  rw [World.cell?_setCell_other _ _ _ _ (by intro e; injection e; omega)]
  exact h
/-- No cell from the block lo on is frozen. -/
structure Unf (lo : Nat) (w : World) : Prop where
  out : ∀ b o, lo ≤ b → b < w.heap.size → w.frozen? ⟨b, o, none⟩ = false
theorem Unf.top (w : World) : Unf w.heap.size w := ⟨fun b o h1 h2 => absurd h2 (by omega)⟩
theorem Unf.more {lo : Nat} {w : World} {O : Obj} {n : Nat} (h : Unf lo w) (r : Rw (w.alloc O) w.heap.size n) : Unf lo (w.alloc O) := ⟨fun b o h1 h2 => by
  by_cases e : b < w.heap.size
  · rw [(bel_alloc w O).frozen (p := ⟨b, o, none⟩) e]
    exact h.out b o h1 e
  · rw [World.size_alloc] at h2
    obtain rfl : b = w.heap.size := by omega
    obtain ⟨t, f, q⟩ := r.ex
    exact q.frozen o⟩
theorem Unf.new {w : World} {O : Obj} {n : Nat} (r : Rw (w.alloc O) w.heap.size n) : Unf w.heap.size (w.alloc O) := (Unf.top w).more r
theorem Unf.set {lo : Nat} {w : World} (h : Unf lo w) (b k : Nat) (x : Value) : Unf lo (w.setCell ⟨b, k, none⟩ x) := ⟨fun b' o h1 h2 => by
  rw [World.frozen?_setCell]
  exact h.out b' o h1 (by rwa [World.size_setCell] at h2)⟩
theorem Unf.call {lo : Nat} {w w' : World} (h : Unf lo w) (hb : Below w.heap.size w w') (hu : Unf w.heap.size w') : Unf lo w' := ⟨fun b o h1 h2 => by
  by_cases e : b < w.heap.size
  · rw [hb.frozen (p := ⟨b, o, none⟩) e]
    exact h.out b o h1 e
  · exact hu.out b o (by omega) h2⟩
theorem al_rw (w : World) (arr : Array Value) (t : TypeId) : Rw (w.alloc (.cells arr t)) w.heap.size arr.size :=
  ⟨_, _, World.rowIs_alloc w arr t (fun j => arr.getD j undef) (fun j hj => by simp [Array.getD, hj])⟩
theorem Unf.cells {lo : Nat} {w : World} (h : Unf lo w) (arr : Array Value) (t : TypeId) : Unf lo (w.alloc (.cells arr t)) := h.more (al_rw w arr t)
/-- 'make([]T, n)': a new row. -/
theorem mk_row (T E : TypeId) (z : Value) (sz bytes : Nat) (ht : Try.prog.underlying T = some (.slice E)) (hinfo : (Try.prog.info? E).map (fun i => (i.zero, i.size, i.bytes)) = some (some z, sz, bytes))
    (n : Nat) (hb : bytes * n ≤ 281474976710656) (h63 : n ≤ 9223372036854775807) :
    ∃ O : Obj, (∀ W : World, (Instr.makeSlice T (.int .i64 (n : Int)) (.int .i64 (n : Int))).run Try.prog W = .ok (.slice (some ⟨W.heap.size, 0, none⟩) n n) (W.alloc O)) ∧ ∀ W : World, Rw (W.alloc O) W.heap.size (n * sz) := by
  obtain ⟨i, hi, hzz⟩ := Option.map_eq_some_iff.1 hinfo
  simp only [Prod.mk.injEq] at hzz
  obtain ⟨hz, hs, hbb⟩ := hzz
  refine ⟨.cells (madeCells z.cells (n * sz)) E, fun W => ?_, fun W => ?_⟩
  · have hb' : (i.bytes : Int) * (n : Int) ≤ 281474976710656 := by
      have h : ((i.bytes * n : Nat) : Int) ≤ 281474976710656 := by rw [hbb]; omega
      rwa [Int.natCast_mul] at h
    have hr := run_make (P := Try.prog) W T E i z ht hi hz .i64 .i64 n n (by omega) (Int.le_refl _) hb' (by omega)
    simp only [Int.toNat_natCast, hs] at hr
    exact hr
  · have e := size_madeCells z.cells (n * sz)
    have r := World.rowIs_alloc W (madeCells z.cells (n * sz)) E (fun j => (madeCells z.cells (n * sz)).getD j undef) (fun j hj => by simp [Array.getD, hj])
    rw [e] at r
    exact ⟨_, _, r⟩
theorem list_at {α : Type} {xs : List α} {n j : Nat} (h : j < (xs.take n).length) (hx : j < xs.length) : (xs.take n)[j] = xs[j] := List.getElem_take
set_option maxRecDepth 100000 in
set_option maxHeartbeats 2000000 in
theorem toInts (v : Value) (xs : List Int) (w : World) {lo : Nat} (h : Ints lo .i64 w v xs) (hn : xs.length ≤ 1048576) :
    Calls Try.prog 27 #[v] w fun e w' => ∃ v', e = .returned v' ∧ Ints w.heap.size .i64 w' v' xs ∧ Below w.heap.size w w' ∧ Unf w.heap.size w' := by
  obtain ⟨b, o, ⟨⟨a, cap, rfl, h1, h2⟩, h3⟩, -, hc⟩ := h.ex
  have g1 : (xs.length : Int) ≤ 1048576 := by omega
  obtain ⟨O, hmk, hrw⟩ := mk_row 22 2 (.int .i64 0) 1 8 Try.underlying22 (by kernel_rfl) xs.length (by omega) (by omega)
  have HR : Kp (∀ W : World, Rw (W.alloc O) W.heap.size (xs.length * 1)) := ⟨hrw⟩
  clear hrw
  go_enter Try.func27, Try.ntmps27
  go_wp2_with fail
  go_loopw [4] (fun s wr => ∃ i : Nat, i ≤ xs.length ∧ s = .int .i64 i ∧ Below w.heap.size w wr ∧ Unf w.heap.size wr ∧ Rw wr w.heap.size (xs.length * 1) ∧ ∀ j (hj : j < xs.length), j < i → At wr w.heap.size j (.int .i64 xs[j])) (fun s _ => xs.length - (intOf s).toNat)
  case atStart => exact ⟨0, Nat.zero_le _, rfl, bel_alloc _ _, Unf.new (HR.out w), HR.out w, fun j _ hj => absurd hj (Nat.not_lt_zero _)⟩
  case round =>
    obtain ⟨i, hi, rfl, hB, hU, hR, hd⟩ := hrel
    have HD : Kp _ := ⟨hd⟩
    clear hd
    by_cases hlt : i < xs.length
    · have ha := h2 (by omega)
      subst ha
      have cx := at_keep (hc i hlt) hB
      obtain ⟨z, cz, fz⟩ := hR.at (j := i) (by omega)
      clear hc
      go_wp2_with fail
      refine ⟨⟨i + 1, by omega, by go_num, hB.setCell (Nat.le_refl _) _, hU.set _ _ _, hR.set _ _, fun j hj hji => ?_⟩, by simp [intOf]; omega⟩
      by_cases e : j = i
      · subst e
        exact set_same hR (by omega) _
      · exact set_other (HD.out j hj (by omega)) (.inr e)
    · clear h2 hc hmk
      go_wp2_with fail
      go_ret
      exact ⟨_, rfl, ⟨w.heap.size, 0, ⟨⟨_, _, rfl, Nat.le_refl _, fun _ => rfl⟩, h3⟩, Nat.le_refl _, fun j hj => by rw [Nat.zero_add]; exact HD.out j hj (by omega)⟩, hB, hU⟩
set_option maxRecDepth 100000 in
set_option maxHeartbeats 2000000 in
theorem toWords (v : Value) (xs : List Int) (w : World) {lo : Nat} (h : Ints lo .u64 w v xs) (hn : xs.length ≤ 1048576) :
    Calls Try.prog 107 #[v] w fun e w' => ∃ v', e = .returned v' ∧ Ints w.heap.size .u64 w' v' xs ∧ Below w.heap.size w w' ∧ Unf w.heap.size w' := by
  obtain ⟨b, o, ⟨⟨a, cap, rfl, h1, h2⟩, h3⟩, -, hc⟩ := h.ex
  have g1 : (xs.length : Int) ≤ 1048576 := by omega
  obtain ⟨O, hmk, hrw⟩ := mk_row 110 113 (.int .u64 0) 1 8 Try.underlying110 (by kernel_rfl) xs.length (by omega) (by omega)
  have HR : Kp (∀ W : World, Rw (W.alloc O) W.heap.size (xs.length * 1)) := ⟨hrw⟩
  clear hrw
  go_enter Try.func107, Try.ntmps107
  go_wp2_with fail
  go_loopw [4] (fun s wr => ∃ i : Nat, i ≤ xs.length ∧ s = .int .i64 i ∧ Below w.heap.size w wr ∧ Unf w.heap.size wr ∧ Rw wr w.heap.size (xs.length * 1) ∧ ∀ j (hj : j < xs.length), j < i → At wr w.heap.size j (.int .u64 xs[j])) (fun s _ => xs.length - (intOf s).toNat)
  case atStart => exact ⟨0, Nat.zero_le _, rfl, bel_alloc _ _, Unf.new (HR.out w), HR.out w, fun j _ hj => absurd hj (Nat.not_lt_zero _)⟩
  case round =>
    obtain ⟨i, hi, rfl, hB, hU, hR, hd⟩ := hrel
    have HD : Kp _ := ⟨hd⟩
    clear hd
    by_cases hlt : i < xs.length
    · have ha := h2 (by omega)
      subst ha
      have cx := at_keep (hc i hlt) hB
      obtain ⟨z, cz, fz⟩ := hR.at (j := i) (by omega)
      clear hc
      go_wp2_with fail
      refine ⟨⟨i + 1, by omega, by go_num, hB.setCell (Nat.le_refl _) _, hU.set _ _ _, hR.set _ _, fun j hj hji => ?_⟩, by simp [intOf]; omega⟩
      by_cases e : j = i
      · subst e
        exact set_same hR (by omega) _
      · exact set_other (HD.out j hj (by omega)) (.inr e)
    · clear h2 hc hmk
      go_wp2_with fail
      go_ret
      exact ⟨_, rfl, ⟨w.heap.size, 0, ⟨⟨_, _, rfl, Nat.le_refl _, fun _ => rfl⟩, h3⟩, Nat.le_refl _, fun j hj => by rw [Nat.zero_add]; exact HD.out j hj (by omega)⟩, hB, hU⟩
set_option maxRecDepth 100000 in
set_option maxHeartbeats 2000000 in
theorem toOp (k t i x : Int) (w : World) :
    Calls Try.prog 117 #[.agg #[.int .i64 k, .int .i64 t, .int .i64 i, .int .u64 x]] w fun e w' => e = .returned (.agg #[.int .i64 k, .int .i64 t, .int .i64 i, .int .u64 x]) ∧ Below w.heap.size w w' ∧ Unf w.heap.size w' := by
  go_enter Try.func117, Try.ntmps117
  go_wp2_with fail
  exact bodyPost_ret (v := .agg #[.int .i64 k, .int .i64 t, .int .i64 i, .int .u64 x]) (by simp [results, Try.results117, go_sem]) rfl ⟨rfl, bel_trans (bel_trans (bel_alloc _ _) (bel_alloc _ _)) (bel_alloc _ _), (((Unf.top w).cells _ _).cells _ _).cells _ _⟩
end Go.Proofs.Ytbfpfjkjeekbdaa
