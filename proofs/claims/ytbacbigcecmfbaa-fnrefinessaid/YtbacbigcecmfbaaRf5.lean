/- The laws' helpers over outcomes: counted, copied, compared. -/
import Derived.Test.YtbacbigcecmfbaaRf4
namespace Go.Proofs.Ytbacbigcecmfbaa
open Go.ChangeShapes Go.WideShapes Go.ChangeAt Go.RowKit
open Go.Sort (grow)
set_option linter.unusedVariables false
set_option linter.unusedSimpArgs false
theorem bel_set {H b k : Nat} {w W : World} (h : Below H w W) (l : H ≤ b) (x : Value) : Below H w (W.setCell ⟨b, k, none⟩ x) := h.setCell l x
theorem heap_set (w : World) (b k B : Nat) (u : Value) (hne : b ≠ B) : (w.setCell ⟨b, k, none⟩ u).heap[B]? = w.heap[B]? := by
  show (w.heap.modify b _)[B]? = _
  rw [Array.getElem?_modify, if_neg hne]
theorem OwnW.set {w : World} {base B j : Nat} {v : Value} {xs : List Int} (h : OwnW w base v xs) (hB : B < base) (u : Value) : OwnW (w.setCell ⟨B, j, none⟩ u) base v xs :=
  h.same (fun g hg => heap_set _ _ _ _ _ (by have := (h.lt g hg).1; omega))
set_option maxRecDepth 100000 in
set_option maxHeartbeats 1000000 in
theorem szOut (e : Int) (p : Bool) (o x : Int) (v : Value) (xs : List Int) (s l : Int) (w : World) {lo : Nat} (h : Ints lo .u64 w v xs) (l0 : 0 ≤ l) (l1 : l ≤ 1048576) :
    Calls Try.prog 5 #[.agg #[.int .i64 e, .bool p, .int .i64 o, .int .u64 x, v, .int .i64 s], .int .i64 l] w fun r w' => r = .returned (.int .i64 (less l xs.length)) ∧ Below w.heap.size w w' := by
  obtain ⟨b, o', hs, -, -⟩ := h.ex
  have C : Kp (∀ W, Calls Try.prog 11 #[v, .int .i64 l] W _) := ⟨fun W => szW v xs.length b o' l W hs l0 l1⟩
  obtain ⟨a, cap, rfl, -, h3⟩ := h.slice
  clear h hs
  by_cases hq : less l (xs.length : Int) < 0
  · have e : Kp (less l (xs.length : Int) = -1) := ⟨by unfold less at *; split at hq <;> simp_all <;> omega⟩
    have C' := Kp.mk (fun W => C.out W)
    rw [e.out] at C hq ⊢
    clear C' e
    go_enter Try.func5, Try.ntmps5
    go_wp2_with (go_at_call 11; refine (C.out _).mono ?_; rintro e w1 ⟨rfl, rfl⟩)
    go_ret
    exact ⟨rfl, bel_alloc _ _⟩
  · obtain ⟨r, hr⟩ : ∃ r, r = less l (xs.length : Int) := ⟨_, rfl⟩
    rw [← hr] at C hq ⊢
    clear hr
    go_enter Try.func5, Try.ntmps5
    go_wp2_with (go_at_call 11; refine (C.out _).mono ?_; rintro e w1 ⟨rfl, rfl⟩)
    go_ret
    exact ⟨rfl, bel_alloc _ _⟩
set_option maxRecDepth 100000 in
set_option maxHeartbeats 4000000 in
theorem toVal (p : Bool) (o x : Int) (w : World) :
    Calls Try.prog 13 #[.agg #[.bool p, .int .i64 o, .int .u64 x]] w fun r w' => r = .returned (.agg #[.bool p, .int .i64 o, .int .u64 x]) ∧ Below w.heap.size w w' := by
  go_enter Try.func13, Try.ntmps13
  go_upto_region 2 with fail
  generalize hV : ((w.alloc _).alloc _).alloc _ = V
  have x1 : V.heap[w.heap.size]? = some (Go.Obj.cells #[.bool p, .int .i64 o, .int .u64 x] 24 (0, 0)) := by
    rw [← hV]
    exact keep_cells (keep_cells (new_cells w _) (bel_alloc _ _)) (bel_alloc _ _)
  have x2 : V.heap[w.heap.size + 1]? = some (Go.Obj.cells #[.bool false, .int .i64 0, .int .u64 0] 30 (0, 0)) := by
    rw [← hV, ← World.size_alloc w]
    exact keep_cells (new_cells _ _) (bel_alloc _ _)
  have x3 : V.heap[w.heap.size + 2]? = some (Go.Obj.cells #[.bool false, .int .i64 0, .int .u64 0] 30 (0, 0)) := by
    rw [← hV]
    have := new_cells ((w.alloc (Go.Obj.cells #[.bool p, .int .i64 o, .int .u64 x] 24 (0, 0))).alloc (Go.Obj.cells #[.bool false, .int .i64 0, .int .u64 0] 30 (0, 0))) (Go.Obj.cells #[.bool false, .int .i64 0, .int .u64 0] 30 (0, 0))
    rw [World.size_alloc, World.size_alloc] at this
    exact this
  have bb : Below w.heap.size w V := by
    rw [← hV]
    exact bel_trans (bel_alloc _ _) (bel_trans (bel_alloc _ _) (bel_alloc _ _))
  clear hV
  have p0 : V.cell? ⟨w.heap.size, 0, none⟩ = some (.bool p) := at_cells x1 rfl
  have p1 : V.cell? ⟨w.heap.size, 1, none⟩ = some (.int .i64 o) := at_cells x1 rfl
  have p2 : V.cell? ⟨w.heap.size, 2, none⟩ = some (.int .u64 x) := at_cells x1 rfl
  have l0 : V.cell? ⟨w.heap.size + 2, 0, none⟩ = some (.bool false) := at_cells x3 rfl
  have l1 : V.cell? ⟨w.heap.size + 2, 1, none⟩ = some (.int .i64 0) := at_cells x3 rfl
  have l2 : V.cell? ⟨w.heap.size + 2, 2, none⟩ = some (.int .u64 0) := at_cells x3 rfl
  have f3 := rw_cells x3
  go_upto_region 5 with fail
  generalize hZ : ((V.setCell _ _).setCell _ _).setCell _ _ = Z
  have z3 : Z.heap[w.heap.size + 2]? = some (Go.Obj.cells #[.bool p, .int .i64 o, .int .u64 x] 30 (0, 0)) := by
    rw [← hZ]
    exact set_cells (set_cells (set_cells x3 0 _) 1 _) 2 _
  have z2 : Z.heap[w.heap.size + 1]? = some (Go.Obj.cells #[.bool false, .int .i64 0, .int .u64 0] 30 (0, 0)) := by
    rw [← hZ, heap_set _ _ _ _ _ (by omega), heap_set _ _ _ _ _ (by omega), heap_set _ _ _ _ _ (by omega)]
    exact x2
  have bz : Below w.heap.size w Z := by
    rw [← hZ]
    exact bel_set (bel_set (bel_set bb (by omega) _) (by omega) _) (by omega) _
  clear hZ p0 p1 p2 l0 l1 l2 f3 x1 x2 x3 bb
  have p0 : Z.cell? ⟨w.heap.size + 2, 0, none⟩ = some (.bool p) := at_cells z3 rfl
  have p1 : Z.cell? ⟨w.heap.size + 2, 1, none⟩ = some (.int .i64 o) := at_cells z3 rfl
  have p2 : Z.cell? ⟨w.heap.size + 2, 2, none⟩ = some (.int .u64 x) := at_cells z3 rfl
  have l0 : Z.cell? ⟨w.heap.size + 1, 0, none⟩ = some (.bool false) := at_cells z2 rfl
  have l1 : Z.cell? ⟨w.heap.size + 1, 1, none⟩ = some (.int .i64 0) := at_cells z2 rfl
  have l2 : Z.cell? ⟨w.heap.size + 1, 2, none⟩ = some (.int .u64 0) := at_cells z2 rfl
  have f2 := rw_cells z2
  go_wp2_with fail
  generalize hY : ((Z.setCell _ _).setCell _ _).setCell _ _ = Y
  have y2 : Y.heap[w.heap.size + 1]? = some (Go.Obj.cells #[.bool p, .int .i64 o, .int .u64 x] 30 (0, 0)) := by
    rw [← hY]
    exact set_cells (set_cells (set_cells z2 0 _) 1 _) 2 _
  have bY : Below w.heap.size w Y := by
    rw [← hY]
    exact bel_set (bel_set (bel_set bz (by omega) _) (by omega) _) (by omega) _
  have c0 : Y.cell? ⟨w.heap.size + 1, 0, none⟩ = some (.bool p) := at_cells y2 rfl
  have c1 : Y.cell? ⟨w.heap.size + 1, 1, none⟩ = some (.int .i64 o) := at_cells y2 rfl
  have c2 : Y.cell? ⟨w.heap.size + 1, 2, none⟩ = some (.int .u64 x) := at_cells y2 rfl
  clear hY
  exact bodyPost_ret (v := .agg #[.bool p, .int .i64 o, .int .u64 x]) (by simp [results, Try.results13, go_sem, c0, c1, c2]) rfl ⟨rfl, bY⟩
set_option maxRecDepth 100000 in
set_option maxHeartbeats 4000000 in
theorem eqVal (p : Bool) (o x : Int) (w : World) :
    Calls Try.prog 17 #[.agg #[.bool p, .int .i64 o, .int .u64 x], .agg #[.bool p, .int .i64 o, .int .u64 x]] w fun r w' => r = .returned (.bool true) ∧ Below w.heap.size w w' := by
  go_enter Try.func17, Try.ntmps17
  go_wp2_with fail
  all_goals
    go_ret
    exact ⟨rfl, bel_trans (bel_alloc _ _) (bel_alloc _ _)⟩
set_option maxRecDepth 100000 in
set_option maxHeartbeats 4000000 in
theorem eqOut (e : Int) (p : Bool) (o x : Int) (v : Value) (xs : List Int) (s : Int) (u : Value) (w : World) {lo l2 : Nat} (h : Ints lo .u64 w v xs) (k : Ints l2 .u64 w u xs) (hn : xs.length ≤ 2097152) :
    Calls Try.prog 9 #[.agg #[.int .i64 e, .bool p, .int .i64 o, .int .u64 x, v, .int .i64 s], .agg #[.int .i64 e, .bool p, .int .i64 o, .int .u64 x, u, .int .i64 s]] w fun r w' => r = .returned (.bool true) ∧ Below w.heap.size w w' := by
  have G1 : Kp (∀ W, Below w.heap.size w W → Calls Try.prog 18 #[v, u] W _) := ⟨fun W hb => eqW v u xs W (h.keep hb) (k.keep hb) hn⟩
  have G2 := Kp.mk (eqVal p o x)
  obtain ⟨a, cap, rfl, g1, g3⟩ := h.slice
  obtain ⟨a', cap', rfl, g2, g4⟩ := k.slice
  clear h k
  generalize xs.length = n at *
  have HB := Kp.mk (fun w1 => boxes e p o x a n cap s e p o x a' n cap' s w 32 32 w1)
  go_enter Try.func9, Try.ntmps9
  go_wp2_with (first
    | (go_at_call 17; go_fit (G2.out _); rintro r w1 ⟨rfl, hb1⟩; obtain ⟨q0, q1, q2, q3, q4, q5, u0, u1, u2, u3, u4, u5, bb⟩ := HB.out w1 hb1; have HK := Kp.mk (fun w2 (h : Below w1.heap.size w1 w2) => HB.out w2 (hb1.trans (h.mono hb1.size))))
    | (go_at_call 18; go_fit (G1.out _ bb); rintro r w2 ⟨rfl, hb2⟩; obtain ⟨r0, r1, r2, r3, r4, r5, t0, t1, t2, t3, t4, t5, bb2⟩ := HK.out w2 hb2))
  all_goals
    go_ret
    exact ⟨rfl, by assumption⟩
end Go.Proofs.Ytbacbigcecmfbaa
