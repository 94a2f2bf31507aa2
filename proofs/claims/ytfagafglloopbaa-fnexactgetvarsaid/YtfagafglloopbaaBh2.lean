/- The laws' helpers over bits: counted, copied, compared, marked, looked at again. -/
import Derived.Test.YtfagafglloopbaaBh1
namespace Go.Proofs.Ytfagafglloopbaa
open Go.ChangeShapes Go.WideShapes Go.ChangeAt Go.RowKit
open Go.Sort (grow)
set_option linter.unusedVariables false
set_option linter.unusedSimpArgs false
theorem Ints.shape {lo : Nat} {k : IntKind} {w : World} {v : Value} {xs : List Int} (h : Ints lo k w v xs) : ∃ a cap, v = .slice a xs.length cap ∧ xs.length ≤ 140737488355328 := by
  obtain ⟨b, o, ⟨⟨a, cap, rfl, h1, h2⟩, h3⟩, -, hc⟩ := h.ex
  exact ⟨a, cap, rfl, h3⟩
set_option maxRecDepth 100000 in
set_option maxHeartbeats 1000000 in
theorem szBits (v : Value) (xs : List Int) (c : Int) (w : World) {lo : Nat} (h : Ints lo .u8 w v xs) :
    Calls Try.prog 14 #[.agg #[v, .int .i64 c], .int .i64 1048576] w fun e w' => e = .returned (.int .i64 (less 1048576 xs.length)) ∧ Below w.heap.size w w' := by
  obtain ⟨b, o, hs, -, -⟩ := h.ex
  have C : Kp (∀ W, Calls Try.prog 33 #[v, .int .i64 1048576] W _) := ⟨fun W => szBy v xs.length b o 1048576 W hs (by decide) (by decide)⟩
  obtain ⟨a, cap, rfl, h3⟩ := h.shape
  clear h hs
  by_cases hq : less 1048576 (xs.length : Int) < 0
  · have e : Kp (less 1048576 (xs.length : Int) = -1) := ⟨by unfold less at *; split at hq <;> simp_all <;> omega⟩
    have C' := Kp.mk (fun W => C.out W)
    rw [e.out] at C hq ⊢
    clear C' e
    go_enter Try.func14, Try.ntmps14
    go_wp2_with (go_at_call 33; refine (C.out _).mono ?_; rintro e w1 ⟨rfl, rfl⟩)
    go_ret
    exact ⟨rfl, bel_alloc _ _⟩
  · obtain ⟨r, hr⟩ : ∃ r, r = less 1048576 (xs.length : Int) := ⟨_, rfl⟩
    rw [← hr] at C hq ⊢
    clear hr
    go_enter Try.func14, Try.ntmps14
    go_wp2_with (go_at_call 33; refine (C.out _).mono ?_; rintro e w1 ⟨rfl, rfl⟩)
    go_ret
    exact ⟨rfl, bel_alloc _ _⟩
set_option maxRecDepth 100000 in
set_option maxHeartbeats 2000000 in
theorem toBits (v : Value) (xs : List Int) (c : Int) (w : World) {lo : Nat} (h : Ints lo .u8 w v xs) (hn : xs.length ≤ 2097152) :
    Calls Try.prog 16 #[.agg #[v, .int .i64 c]] w fun e w' => ∃ v', e = .returned (.agg #[v', .int .i64 c]) ∧ OwnB w' w.heap.size v' xs ∧ Below w.heap.size w w' := by
  have b1 := bel_trans (bel_alloc w (Go.Obj.cells #[v, .int .i64 c] 36 (0, 0))) (bel_trans (bel_alloc _ (Go.Obj.cells #[.slice none 0 0, .int .i64 0] 24 (0, 0))) (bel_alloc _ (Go.Obj.cells #[.slice none 0 0, .int .i64 0] 24 (0, 0))))
  have G := Kp.mk (toBy v xs _ (h.keep b1) hn)
  have x1 := keep_cells (keep_cells (new_cells w (Go.Obj.cells #[v, .int .i64 c] 36 (0, 0))) (bel_alloc _ (Go.Obj.cells #[.slice none 0 0, .int .i64 0] 24 (0, 0)))) (bel_alloc _ (Go.Obj.cells #[.slice none 0 0, .int .i64 0] 24 (0, 0)))
  have x2 := keep_cells (new_cells (w.alloc (Go.Obj.cells #[v, .int .i64 c] 36 (0, 0))) (Go.Obj.cells #[.slice none 0 0, .int .i64 0] 24 (0, 0))) (bel_alloc _ (Go.Obj.cells #[.slice none 0 0, .int .i64 0] 24 (0, 0)))
  have x3 := new_cells ((w.alloc (Go.Obj.cells #[v, .int .i64 c] 36 (0, 0))).alloc (Go.Obj.cells #[.slice none 0 0, .int .i64 0] 24 (0, 0))) (Go.Obj.cells #[.slice none 0 0, .int .i64 0] 24 (0, 0))
  rw [World.size_alloc] at x2
  rw [World.size_alloc, World.size_alloc] at x3
  obtain ⟨a, cap, rfl, h3⟩ := h.shape
  clear h
  obtain ⟨V, hV⟩ : ∃ V, V = ((w.alloc (Go.Obj.cells #[.slice a xs.length cap, .int .i64 c] 36 (0, 0))).alloc (Go.Obj.cells #[.slice none 0 0, .int .i64 0] 24 (0, 0))).alloc (Go.Obj.cells #[.slice none 0 0, .int .i64 0] 24 (0, 0)) := ⟨_, rfl⟩
  rw [← hV] at b1 G x1 x2 x3
  have sV : w.heap.size + 3 ≤ V.heap.size := by have := (Array.getElem?_eq_some_iff.1 x3).1; omega
  have y0 : V.cell? ⟨w.heap.size, 0, none⟩ = some (.slice a xs.length cap) := at_cells x1 rfl
  have HK : Kp (∀ w1 v1, OwnB w1 V.heap.size v1 xs → Below V.heap.size V w1 → ∃ a1 c1, v1 = .slice a1 xs.length c1 ∧ w1.cell? ⟨w.heap.size, 1, none⟩ = some (.int .i64 c) ∧ w1.cell? ⟨w.heap.size + 2, 0, none⟩ = some (.slice none 0 0) ∧ w1.cell? ⟨w.heap.size + 2, 1, none⟩ = some (.int .i64 0) ∧ (∀ j, w1.frozen? ⟨w.heap.size + 2, j, none⟩ = false) ∧ w1.cell? ⟨w.heap.size + 1, 0, none⟩ = some (.slice none 0 0) ∧ w1.cell? ⟨w.heap.size + 1, 1, none⟩ = some (.int .i64 0) ∧ (∀ j, w1.frozen? ⟨w.heap.size + 1, j, none⟩ = false) ∧ ∃ Z, Kp (Z = (((w1.setCell ⟨w.heap.size + 2, 0, none⟩ (.slice a1 xs.length c1)).setCell ⟨w.heap.size + 2, 1, none⟩ (.int .i64 c)).setCell ⟨w.heap.size + 1, 0, none⟩ (.slice a1 xs.length c1)).setCell ⟨w.heap.size + 1, 1, none⟩ (.int .i64 c)) ∧ Z.cell? ⟨w.heap.size + 1, 0, none⟩ = some (.slice a1 xs.length c1) ∧ Z.cell? ⟨w.heap.size + 1, 1, none⟩ = some (.int .i64 c) ∧ Kp (OwnB Z w.heap.size (.slice a1 xs.length c1) xs ∧ Below w.heap.size w Z)) := ⟨fun w1 v1 O1 B1 => by
    obtain ⟨a1, c1, rfl⟩ := O1.form
    have r1 := keep_cells x1 B1
    have r2 := keep_cells x2 B1
    have r3 := keep_cells x3 B1
    have n2 := u8_ne O1 r2 (by decide)
    have n3 := u8_ne O1 r3 (by decide)
    have zz := set_cells (set_cells ((heap_set (w1.setCell ⟨w.heap.size + 2, 0, none⟩ (.slice a1 xs.length c1)) (w.heap.size + 2) 1 (w.heap.size + 1) (.int .i64 c) (by omega)).trans ((heap_set w1 (w.heap.size + 2) 0 (w.heap.size + 1) (.slice a1 xs.length c1) (by omega)).trans r2)) 0 (.slice a1 xs.length c1)) 1 (.int .i64 c)
    exact ⟨a1, c1, rfl, at_cells r1 rfl, at_cells r3 rfl, at_cells r3 rfl, rw_cells r3, at_cells r2 rfl, at_cells r2 rfl, rw_cells r2, _, ⟨rfl⟩, at_cells zz rfl, at_cells zz rfl, ⟨((((O1.setOther n3 _).setOther n3 _).setOther n2 _).setOther n2 _).mono (by omega), bel_set (bel_set (bel_set (bel_set (b1.trans (B1.mono (by omega))) (by omega) _) (by omega) _) (by omega) _) (by omega) _⟩⟩⟩
  clear x1 x2 x3 b1
  go_enter Try.func16, Try.ntmps16
  go_upto_region 2 with fail
  rw [← hV]
  clear hV
  go_wp2_with (go_at_call 36; refine G.out.mono ?_; rintro e w1 ⟨v1, rfl, O1, B1⟩; obtain ⟨a1, c1, rfl, p0, p1, p2, p3, p4, p5, p6, Z, hZ, z0, z1, zo⟩ := HK.out w1 v1 O1 B1)
  rw [← hZ.out]
  exact bodyPost_ret (v := .agg #[.slice a1 xs.length c1, .int .i64 c]) (by simp [results, Try.results16, go_sem, z0, z1]) rfl ⟨_, rfl, zo.out.1, zo.out.2⟩
set_option maxRecDepth 100000 in
set_option maxHeartbeats 2000000 in
theorem eqBits (v u : Value) (xs : List Int) (c : Int) (w : World) {lo l2 : Nat} (h : Ints lo .u8 w v xs) (k : Ints l2 .u8 w u xs) (hn : xs.length ≤ 2097152) :
    Calls Try.prog 17 #[.agg #[v, .int .i64 c], .agg #[u, .int .i64 c]] w fun e w' => e = .returned (.bool true) ∧ Below w.heap.size w w' := by
  have b1 := bel_trans (bel_alloc w (Go.Obj.cells #[v, .int .i64 c] 24 (0, 0))) (bel_alloc _ (Go.Obj.cells #[u, .int .i64 c] 24 (0, 0)))
  have G := Kp.mk (eqBy v u xs _ (h.keep b1) (k.keep b1) hn)
  have x1 := keep_cells (new_cells w (Go.Obj.cells #[v, .int .i64 c] 24 (0, 0))) (bel_alloc _ (Go.Obj.cells #[u, .int .i64 c] 24 (0, 0)))
  have x2 := new_cells (w.alloc (Go.Obj.cells #[v, .int .i64 c] 24 (0, 0))) (Go.Obj.cells #[u, .int .i64 c] 24 (0, 0))
  rw [World.size_alloc] at x2
  obtain ⟨a, cap, rfl, h3⟩ := h.shape
  obtain ⟨a', cap', rfl, h3'⟩ := k.shape
  clear h k
  have HK : Kp (∀ w1, Below ((w.alloc (Go.Obj.cells #[.slice a xs.length cap, .int .i64 c] 24 (0, 0))).alloc (Go.Obj.cells #[.slice a' xs.length cap', .int .i64 c] 24 (0, 0))).heap.size _ w1 → w1.cell? ⟨w.heap.size, 1, none⟩ = some (.int .i64 c) ∧ w1.cell? ⟨w.heap.size + 1, 1, none⟩ = some (.int .i64 c) ∧ Below w.heap.size w w1) := ⟨fun w1 B => ⟨at_cells (keep_cells x1 B) rfl, at_cells (keep_cells x2 B) rfl, bel_trans b1 B⟩⟩
  clear x1 x2 b1
  go_enter Try.func17, Try.ntmps17
  go_wp2_with (go_at_call 37; refine G.out.mono ?_; rintro e w1 ⟨rfl, B1⟩; obtain ⟨p0, p1, p2⟩ := HK.out w1 B1)
  go_ret
  exact ⟨rfl, p2⟩
set_option maxRecDepth 100000 in
set_option maxHeartbeats 2000000 in
theorem markBits (v : Value) (xs : List Int) (c : Int) (base : Nat) (w : World) (h : OwnB w base v xs) (hn : xs.length ≤ 2097152) (hbw : base ≤ w.heap.size) :
    Calls Try.prog 18 #[.agg #[v, .int .i64 c], .int .i64 1] w fun e w' => e = .returned (.int .i64 (1 + xs.length)) ∧ ∃ ys, ys.length = xs.length ∧ OwnB w' base v ys ∧ (∀ j (hj : j < ys.length), ys[j] = (1 + j) % 256) ∧ Below base w w' ∧ w.heap.size ≤ w'.heap.size ∧ (∀ b, b < w.heap.size → some b ≠ v.ownBlock → w'.heap[b]? = w.heap[b]?) := by
  obtain ⟨a, cap, rfl⟩ := h.form
  have b1 := bel_alloc w (Go.Obj.cells #[.slice a xs.length cap, .int .i64 c] 24 (0, 0))
  have G := Kp.mk (markBy _ xs base 1 _ (h.alloc (Go.Obj.cells #[.slice a xs.length cap, .int .i64 c] 24 (0, 0))) hn (by decide) (by decide))
  have hl : xs.length ≤ 2097152 := hn
  clear h
  go_enter Try.func18, Try.ntmps18
  go_wp2_with (go_at_call 38; refine G.out.mono ?_; rintro e w1 ⟨rfl, ys, q1, q2, q3, q4, q5, q6⟩; replace q1 := Kp.mk q1; replace q5 := Kp.mk q5)
  go_ret
  exact ⟨rfl, ys, q1.out, q2, q3, (b1.mono hbw).trans q4, by rw [q5.out]; simp, fun b hb hne => by rw [q6 b hne, (MapKept.heap_alloc _ _).2 _ hb]⟩
set_option maxRecDepth 100000 in
set_option maxHeartbeats 2000000 in
theorem heldBits (v : Value) (ys : List Int) (c : Int) (w : World) {lo : Nat} (h : Ints lo .u8 w v ys) (hm : ∀ j (hj : j < ys.length), ys[j] = (1 + j) % 256) (hn : ys.length ≤ 2097152) :
    Calls Try.prog 19 #[.agg #[v, .int .i64 c], .int .i64 1] w fun e w' => e = .returned (.int .i64 (1 + ys.length)) ∧ Below w.heap.size w w' := by
  have b1 := bel_alloc w (Go.Obj.cells #[v, .int .i64 c] 24 (0, 0))
  have G := Kp.mk (heldBy v ys 1 _ (h.keep b1) hm hn (by decide) (by decide))
  obtain ⟨a, cap, rfl, h3⟩ := h.shape
  clear h
  go_enter Try.func19, Try.ntmps19
  go_wp2_with (go_at_call 39; refine G.out.mono ?_; rintro e w1 ⟨rfl, B1⟩)
  go_ret
  exact ⟨rfl, bel_trans b1 B1⟩
set_option maxRecDepth 100000 in
set_option maxHeartbeats 2000000 in
theorem eqRes (g : Bool) (x a : Int) (w : World) :
    Calls Try.prog 21 #[.agg #[.bool g, .int .u64 x, .int .i64 a], .agg #[.bool g, .int .u64 x, .int .i64 a]] w fun e w' => e = .returned (.bool true) ∧ Below w.heap.size w w' := by
  cases g <;>
  · go_enter Try.func21, Try.ntmps21
    go_wp2_with fail
    go_ret
    exact ⟨rfl, bel_trans (bel_alloc _ _) (bel_alloc _ _)⟩
end Go.Proofs.Ytfagafglloopbaa
