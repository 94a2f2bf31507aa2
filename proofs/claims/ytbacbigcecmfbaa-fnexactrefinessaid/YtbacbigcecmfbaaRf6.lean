/- The laws' helpers over outcomes: copied. -/
import Derived.Test.YtbacbigcecmfbaaRf5
namespace Go.Proofs.Ytbacbigcecmfbaa
open Go.ChangeShapes Go.WideShapes Go.ChangeAt Go.RowKit
open Go.Sort (grow)
set_option linter.unusedVariables false
set_option linter.unusedSimpArgs false
set_option maxRecDepth 100000 in
set_option maxHeartbeats 8000000 in
theorem toOut (e : Int) (p : Bool) (o x : Int) (v : Value) (xs : List Int) (s : Int) (w : World) {lo : Nat} (h : Ints lo .u64 w v xs) (hn : xs.length ≤ 2097152) :
    Calls Try.prog 7 #[.agg #[.int .i64 e, .bool p, .int .i64 o, .int .u64 x, v, .int .i64 s]] w fun r w' => ∃ v', r = .returned (.agg #[.int .i64 e, .bool p, .int .i64 o, .int .u64 x, v', .int .i64 s]) ∧ Ints w.heap.size .u64 w' v' xs ∧ Below w.heap.size w w' := by
  have G1 : Kp (∀ W, Below w.heap.size w W → Calls Try.prog 14 #[v] W _) := ⟨fun W hb => toW v xs W (h.keep hb) hn⟩
  have G2 := Kp.mk (toVal p o x)
  obtain ⟨a, cap, rfl, g1, g3⟩ := h.slice
  obtain ⟨n, hnn⟩ : ∃ n, n = xs.length := ⟨_, rfl⟩
  rw [← hnn] at G1 hn ⊢
  rw [← hnn] at g1 g3
  replace hnn := Kp.mk hnn
  clear h
  go_enter Try.func7, Try.ntmps7
  go_upto_region 2 with fail
  generalize hV : ((w.alloc _).alloc _).alloc _ = V
  have x1 : V.heap[w.heap.size]? = some (Go.Obj.cells #[.int .i64 e, .bool p, .int .i64 o, .int .u64 x, .slice a n cap, .int .i64 s] 27 (0, 0)) := by
    rw [← hV]
    exact keep_cells (keep_cells (new_cells w _) (bel_alloc _ _)) (bel_alloc _ _)
  have x2 : V.heap[w.heap.size + 1]? = some (Go.Obj.cells #[.int .i64 0, .bool false, .int .i64 0, .int .u64 0, .slice none 0 0, .int .i64 0] 32 (0, 0)) := by
    rw [← hV, ← World.size_alloc w]
    exact keep_cells (new_cells _ _) (bel_alloc _ _)
  have x3 : V.heap[w.heap.size + 2]? = some (Go.Obj.cells #[.int .i64 0, .bool false, .int .i64 0, .int .u64 0, .slice none 0 0, .int .i64 0] 32 (0, 0)) := by
    rw [← hV]
    have := new_cells ((w.alloc (Go.Obj.cells #[.int .i64 e, .bool p, .int .i64 o, .int .u64 x, .slice a n cap, .int .i64 s] 27 (0, 0))).alloc (Go.Obj.cells #[.int .i64 0, .bool false, .int .i64 0, .int .u64 0, .slice none 0 0, .int .i64 0] 32 (0, 0))) (Go.Obj.cells #[.int .i64 0, .bool false, .int .i64 0, .int .u64 0, .slice none 0 0, .int .i64 0] 32 (0, 0))
    rw [World.size_alloc, World.size_alloc] at this
    exact this
  have bb : Below w.heap.size w V := by
    rw [← hV]
    exact bel_trans (bel_alloc _ _) (bel_trans (bel_alloc _ _) (bel_alloc _ _))
  clear hV
  have p0 : V.cell? ⟨w.heap.size, 0, none⟩ = some (.int .i64 e) := at_cells x1 rfl
  have p1 : V.cell? ⟨w.heap.size, 1, none⟩ = some (.bool p) := at_cells x1 rfl
  have p2 : V.cell? ⟨w.heap.size, 2, none⟩ = some (.int .i64 o) := at_cells x1 rfl
  have p3 : V.cell? ⟨w.heap.size, 3, none⟩ = some (.int .u64 x) := at_cells x1 rfl
  have p4 : V.cell? ⟨w.heap.size, 4, none⟩ = some (.slice a n cap) := at_cells x1 rfl
  have p5 : V.cell? ⟨w.heap.size, 5, none⟩ = some (.int .i64 s) := at_cells x1 rfl
  have l0 : V.cell? ⟨w.heap.size + 2, 0, none⟩ = some (.int .i64 0) := at_cells x3 rfl
  have l1 : V.cell? ⟨w.heap.size + 2, 1, none⟩ = some (.bool false) := at_cells x3 rfl
  have l2 : V.cell? ⟨w.heap.size + 2, 2, none⟩ = some (.int .i64 0) := at_cells x3 rfl
  have l3 : V.cell? ⟨w.heap.size + 2, 3, none⟩ = some (.int .u64 0) := at_cells x3 rfl
  have l4 : V.cell? ⟨w.heap.size + 2, 4, none⟩ = some (.slice none 0 0) := at_cells x3 rfl
  have l5 : V.cell? ⟨w.heap.size + 2, 5, none⟩ = some (.int .i64 0) := at_cells x3 rfl
  have f3 := rw_cells x3
  go_upto_region 3 with fail
  generalize hZ : V.setCell _ _ = Z
  have z1 : Z.heap[w.heap.size]? = some (Go.Obj.cells #[.int .i64 e, .bool p, .int .i64 o, .int .u64 x, .slice a n cap, .int .i64 s] 27 (0, 0)) := by
    rw [← hZ, heap_set _ _ _ _ _ (by omega)]
    exact x1
  have z2 : Z.heap[w.heap.size + 1]? = some (Go.Obj.cells #[.int .i64 0, .bool false, .int .i64 0, .int .u64 0, .slice none 0 0, .int .i64 0] 32 (0, 0)) := by
    rw [← hZ, heap_set _ _ _ _ _ (by omega)]
    exact x2
  have z3 : Z.heap[w.heap.size + 2]? = some (Go.Obj.cells #[.int .i64 e, .bool false, .int .i64 0, .int .u64 0, .slice none 0 0, .int .i64 0] 32 (0, 0)) := by
    rw [← hZ]
    exact set_cells x3 0 _
  have bz : Below w.heap.size w Z := by
    rw [← hZ]
    exact bel_set bb (by omega) _
  clear hZ f3 x1 x2 x3 bb p0 p1 p2 p3 p4 p5 l0 l1 l2 l3 l4 l5
  have p0 : Z.cell? ⟨w.heap.size, 0, none⟩ = some (.int .i64 e) := at_cells z1 rfl
  have p1 : Z.cell? ⟨w.heap.size, 1, none⟩ = some (.bool p) := at_cells z1 rfl
  have p2 : Z.cell? ⟨w.heap.size, 2, none⟩ = some (.int .i64 o) := at_cells z1 rfl
  have p3 : Z.cell? ⟨w.heap.size, 3, none⟩ = some (.int .u64 x) := at_cells z1 rfl
  have p4 : Z.cell? ⟨w.heap.size, 4, none⟩ = some (.slice a n cap) := at_cells z1 rfl
  have p5 : Z.cell? ⟨w.heap.size, 5, none⟩ = some (.int .i64 s) := at_cells z1 rfl
  have HK := Kp.mk (fun w1 (h : Below Z.heap.size Z w1) => (⟨keep_cells z1 h, keep_cells z2 h, keep_cells z3 h, bel_trans bz h⟩ : w1.heap[w.heap.size]? = some (Go.Obj.cells #[.int .i64 e, .bool p, .int .i64 o, .int .u64 x, .slice a n cap, .int .i64 s] 27 (0, 0)) ∧ w1.heap[w.heap.size + 1]? = some (Go.Obj.cells #[.int .i64 0, .bool false, .int .i64 0, .int .u64 0, .slice none 0 0, .int .i64 0] 32 (0, 0)) ∧ w1.heap[w.heap.size + 2]? = some (Go.Obj.cells #[.int .i64 e, .bool false, .int .i64 0, .int .u64 0, .slice none 0 0, .int .i64 0] 32 (0, 0)) ∧ Below w.heap.size w w1))
  go_upto_region 4 with (go_at_call 13; go_fit (G2.out _); rintro r w1 ⟨rfl, hb1⟩; obtain ⟨y1, y2, y3, by1⟩ := HK.out w1 hb1; have fy := rw_cells y3; have l0 : w1.cell? ⟨w.heap.size + 2, 0, none⟩ = some (.int .i64 e) := at_cells y3 rfl; have l1 : w1.cell? ⟨w.heap.size + 2, 1, none⟩ = some (.bool false) := at_cells y3 rfl; have l2 : w1.cell? ⟨w.heap.size + 2, 2, none⟩ = some (.int .i64 0) := at_cells y3 rfl; have l3 : w1.cell? ⟨w.heap.size + 2, 3, none⟩ = some (.int .u64 0) := at_cells y3 rfl)
  generalize hU : ((w1.setCell _ _).setCell _ _).setCell _ _ = U
  have u1 : U.heap[w.heap.size]? = some (Go.Obj.cells #[.int .i64 e, .bool p, .int .i64 o, .int .u64 x, .slice a n cap, .int .i64 s] 27 (0, 0)) := by
    rw [← hU, heap_set _ _ _ _ _ (by omega), heap_set _ _ _ _ _ (by omega), heap_set _ _ _ _ _ (by omega)]
    exact y1
  have u2 : U.heap[w.heap.size + 1]? = some (Go.Obj.cells #[.int .i64 0, .bool false, .int .i64 0, .int .u64 0, .slice none 0 0, .int .i64 0] 32 (0, 0)) := by
    rw [← hU, heap_set _ _ _ _ _ (by omega), heap_set _ _ _ _ _ (by omega), heap_set _ _ _ _ _ (by omega)]
    exact y2
  have u3 : U.heap[w.heap.size + 2]? = some (Go.Obj.cells #[.int .i64 e, .bool p, .int .i64 o, .int .u64 x, .slice none 0 0, .int .i64 0] 32 (0, 0)) := by
    rw [← hU]
    exact set_cells (set_cells (set_cells y3 1 _) 2 _) 3 _
  have bu : Below w.heap.size w U := by
    rw [← hU]
    exact bel_set (bel_set (bel_set by1 (by omega) _) (by omega) _) (by omega) _
  clear hU HK G2 l0 l1 l2 l3 fy y1 y2 y3 by1 z1 z2 z3 bz p0 p1 p2 p3 p4 p5 hb1
  have p0 : U.cell? ⟨w.heap.size, 0, none⟩ = some (.int .i64 e) := at_cells u1 rfl
  have p1 : U.cell? ⟨w.heap.size, 1, none⟩ = some (.bool p) := at_cells u1 rfl
  have p2 : U.cell? ⟨w.heap.size, 2, none⟩ = some (.int .i64 o) := at_cells u1 rfl
  have p3 : U.cell? ⟨w.heap.size, 3, none⟩ = some (.int .u64 x) := at_cells u1 rfl
  have p4 : U.cell? ⟨w.heap.size, 4, none⟩ = some (.slice a n cap) := at_cells u1 rfl
  have p5 : U.cell? ⟨w.heap.size, 5, none⟩ = some (.int .i64 s) := at_cells u1 rfl
  have HK := Kp.mk (fun w1 (h : Below U.heap.size U w1) => (⟨keep_cells u1 h, keep_cells u2 h, keep_cells u3 h, bel_trans bu h⟩ : w1.heap[w.heap.size]? = some (Go.Obj.cells #[.int .i64 e, .bool p, .int .i64 o, .int .u64 x, .slice a n cap, .int .i64 s] 27 (0, 0)) ∧ w1.heap[w.heap.size + 1]? = some (Go.Obj.cells #[.int .i64 0, .bool false, .int .i64 0, .int .u64 0, .slice none 0 0, .int .i64 0] 32 (0, 0)) ∧ w1.heap[w.heap.size + 2]? = some (Go.Obj.cells #[.int .i64 e, .bool p, .int .i64 o, .int .u64 x, .slice none 0 0, .int .i64 0] 32 (0, 0)) ∧ Below w.heap.size w w1))
  have hU3 : Kp (w.heap.size + 2 < U.heap.size) := ⟨(Array.getElem?_eq_some_iff.1 u3).1⟩
  go_upto_region 5 with (go_at_call 14; go_fit (G1.out _ bu); rintro r w2 ⟨v2, rfl, O2, hb2⟩; obtain ⟨a2, c2, rfl⟩ := O2.form; replace O2 := Kp.mk O2; obtain ⟨y1, y2, y3, by1⟩ := HK.out w2 hb2; have fy := rw_cells y3; have l4 : w2.cell? ⟨w.heap.size + 2, 4, none⟩ = some (.slice none 0 0) := at_cells y3 rfl)
  rw [← hnn.out] at O2 ⊢
  generalize hT : w2.setCell _ _ = T
  have t1 : T.heap[w.heap.size]? = some (Go.Obj.cells #[.int .i64 e, .bool p, .int .i64 o, .int .u64 x, .slice a n cap, .int .i64 s] 27 (0, 0)) := by
    rw [← hT, heap_set _ _ _ _ _ (by omega)]
    exact y1
  have t2 : T.heap[w.heap.size + 1]? = some (Go.Obj.cells #[.int .i64 0, .bool false, .int .i64 0, .int .u64 0, .slice none 0 0, .int .i64 0] 32 (0, 0)) := by
    rw [← hT, heap_set _ _ _ _ _ (by omega)]
    exact y2
  have t3 : T.heap[w.heap.size + 2]? = some (Go.Obj.cells #[.int .i64 e, .bool p, .int .i64 o, .int .u64 x, .slice a2 n c2, .int .i64 0] 32 (0, 0)) := by
    rw [← hT]
    exact set_cells y3 4 _
  have bt : Below w.heap.size w T := by
    rw [← hT]
    exact bel_set by1 (by omega) _
  have OT : Kp (OwnW T U.heap.size (.slice a2 n c2) xs) := ⟨by
    rw [← hT]
    exact O2.out.set hU3.out _⟩
  clear hT HK G1 l4 fy y1 y2 y3 by1 u1 u2 u3 bu p0 p1 p2 p3 p4 p5 hb2 O2
  have p0 : T.cell? ⟨w.heap.size, 0, none⟩ = some (.int .i64 e) := at_cells t1 rfl
  have p1 : T.cell? ⟨w.heap.size, 1, none⟩ = some (.bool p) := at_cells t1 rfl
  have p2 : T.cell? ⟨w.heap.size, 2, none⟩ = some (.int .i64 o) := at_cells t1 rfl
  have p3 : T.cell? ⟨w.heap.size, 3, none⟩ = some (.int .u64 x) := at_cells t1 rfl
  have p4 : T.cell? ⟨w.heap.size, 4, none⟩ = some (.slice a n cap) := at_cells t1 rfl
  have p5 : T.cell? ⟨w.heap.size, 5, none⟩ = some (.int .i64 s) := at_cells t1 rfl
  have l5 : T.cell? ⟨w.heap.size + 2, 5, none⟩ = some (.int .i64 0) := at_cells t3 rfl
  have f3 := rw_cells t3
  go_upto_region 6 with fail
  generalize hR : T.setCell _ _ = R
  have r2 : R.heap[w.heap.size + 1]? = some (Go.Obj.cells #[.int .i64 0, .bool false, .int .i64 0, .int .u64 0, .slice none 0 0, .int .i64 0] 32 (0, 0)) := by
    rw [← hR, heap_set _ _ _ _ _ (by omega)]
    exact t2
  have r3 : R.heap[w.heap.size + 2]? = some (Go.Obj.cells #[.int .i64 e, .bool p, .int .i64 o, .int .u64 x, .slice a2 n c2, .int .i64 s] 32 (0, 0)) := by
    rw [← hR]
    exact set_cells t3 5 _
  have br : Below w.heap.size w R := by
    rw [← hR]
    exact bel_set bt (by omega) _
  have OR : Kp (OwnW R U.heap.size (.slice a2 n c2) xs) := ⟨by
    rw [← hR]
    exact OT.out.set hU3.out _⟩
  clear hR l5 f3 t1 t2 t3 bt p0 p1 p2 p3 p4 p5 OT
  have p0 : R.cell? ⟨w.heap.size + 2, 0, none⟩ = some (.int .i64 e) := at_cells r3 rfl
  have p1 : R.cell? ⟨w.heap.size + 2, 1, none⟩ = some (.bool p) := at_cells r3 rfl
  have p2 : R.cell? ⟨w.heap.size + 2, 2, none⟩ = some (.int .i64 o) := at_cells r3 rfl
  have p3 : R.cell? ⟨w.heap.size + 2, 3, none⟩ = some (.int .u64 x) := at_cells r3 rfl
  have p4 : R.cell? ⟨w.heap.size + 2, 4, none⟩ = some (.slice a2 n c2) := at_cells r3 rfl
  have p5 : R.cell? ⟨w.heap.size + 2, 5, none⟩ = some (.int .i64 s) := at_cells r3 rfl
  have l0 : R.cell? ⟨w.heap.size + 1, 0, none⟩ = some (.int .i64 0) := at_cells r2 rfl
  have l1 : R.cell? ⟨w.heap.size + 1, 1, none⟩ = some (.bool false) := at_cells r2 rfl
  have l2 : R.cell? ⟨w.heap.size + 1, 2, none⟩ = some (.int .i64 0) := at_cells r2 rfl
  have l3 : R.cell? ⟨w.heap.size + 1, 3, none⟩ = some (.int .u64 0) := at_cells r2 rfl
  have l4 : R.cell? ⟨w.heap.size + 1, 4, none⟩ = some (.slice none 0 0) := at_cells r2 rfl
  have l5 : R.cell? ⟨w.heap.size + 1, 5, none⟩ = some (.int .i64 0) := at_cells r2 rfl
  have f2 := rw_cells r2
  go_wp2_with fail
  generalize hY : (((((R.setCell _ _).setCell _ _).setCell _ _).setCell _ _).setCell _ _).setCell _ _ = Y
  have y2 : Y.heap[w.heap.size + 1]? = some (Go.Obj.cells #[.int .i64 e, .bool p, .int .i64 o, .int .u64 x, .slice a2 n c2, .int .i64 s] 32 (0, 0)) := by
    rw [← hY]
    exact set_cells (set_cells (set_cells (set_cells (set_cells (set_cells r2 0 _) 1 _) 2 _) 3 _) 4 _) 5 _
  have bY : Below w.heap.size w Y := by
    rw [← hY]
    exact bel_set (bel_set (bel_set (bel_set (bel_set (bel_set br (by omega) _) (by omega) _) (by omega) _) (by omega) _) (by omega) _) (by omega) _
  have OY : OwnW Y U.heap.size (.slice a2 n c2) xs := by
    rw [← hY]
    have q : w.heap.size + 1 < U.heap.size := by have := hU3.out; omega
    exact (((((OR.out.set q _).set q _).set q _).set q _).set q _).set q _
  have d0 : Y.cell? ⟨w.heap.size + 1, 0, none⟩ = some (.int .i64 e) := at_cells y2 rfl
  have d1 : Y.cell? ⟨w.heap.size + 1, 1, none⟩ = some (.bool p) := at_cells y2 rfl
  have d2 : Y.cell? ⟨w.heap.size + 1, 2, none⟩ = some (.int .i64 o) := at_cells y2 rfl
  have d3 : Y.cell? ⟨w.heap.size + 1, 3, none⟩ = some (.int .u64 x) := at_cells y2 rfl
  have d4 : Y.cell? ⟨w.heap.size + 1, 4, none⟩ = some (.slice a2 n c2) := at_cells y2 rfl
  have d5 : Y.cell? ⟨w.heap.size + 1, 5, none⟩ = some (.int .i64 s) := at_cells y2 rfl
  clear hY
  have hs := hU3.out
  refine bodyPost_ret (v := .agg #[.int .i64 e, .bool p, .int .i64 o, .int .u64 x, .slice a2 n c2, .int .i64 s]) (by simp [results, Try.results7, go_sem, d0, d1, d2, d3, d4, d5]) rfl ⟨_, rfl, ?_, bY⟩
  exact (OY.bytes (by have := hnn.out; omega)).mono (by omega) (fun _ _ _ _ q => q)
end Go.Proofs.Ytbacbigcecmfbaa
