/- The law: Refines answers as the specification's does. -/
import Derived.Test.YtbacbigcecmfbaaRf6
import Derived.Test.YtbacbigcecmfbaaRo1
namespace Go.Proofs.Ytbacbigcecmfbaa
open Go.ChangeShapes Go.WideShapes Go.ChangeAt Go.RowKit
open Go.Sort (grow)
set_option linter.unusedVariables false
set_option linter.unusedSimpArgs false
set_option maxRecDepth 100000 in
set_option maxHeartbeats 8000000 in
theorem ref_law (e : Int) (p : Bool) (o x : Int) (v : Value) (xs : List Int) (s e' : Int) (p' : Bool) (o' x' : Int) (u : Value) (ys : List Int) (s' : Int) (W : World) (h : Ints 0 .u64 W v xs) (k : Ints 0 .u64 W u ys) :
    Calls Try.prog 3 #[.agg #[.int .i64 e, .bool p, .int .i64 o, .int .u64 x, v, .int .i64 s], .agg #[.int .i64 e', .bool p', .int .i64 o', .int .u64 x', u, .int .i64 s']] W fun r w' => r = .returned (.bool true) ∧ Below W.heap.size W w' := by
  have hx := Kp.mk h
  have hy := Kp.mk k
  obtain ⟨a, cap, rfl, g1, g3⟩ := h.slice
  obtain ⟨a', cap', rfl, g2, g4⟩ := k.slice
  have S1 : Kp (∀ w, Below W.heap.size W w → ∀ l : Int, 0 ≤ l → l ≤ 1048576 → Calls Try.prog 5 _ w _) := ⟨fun w hb l l0 l1 => szOut e p o x _ xs s l w (h.keep hb) l0 l1⟩
  have S2 : Kp (∀ w, Below W.heap.size W w → ∀ l : Int, 0 ≤ l → l ≤ 1048576 → Calls Try.prog 5 _ w _) := ⟨fun w hb l l0 l1 => szOut e' p' o' x' _ ys s' l w (k.keep hb) l0 l1⟩
  clear h k
  have HB := Kp.mk (fun w1 => boxes e p o x a xs.length cap s e' p' o' x' a' ys.length cap' s' W 27 27 w1)
  by_cases q1 : less 1048576 (xs.length : Int) < 0
  · have HS := Kp.mk (S1.out _ (bel_trans (bel_alloc W (Go.Obj.cells #[.int .i64 e, .bool p, .int .i64 o, .int .u64 x, .slice a xs.length cap, .int .i64 s] 27 (0, 0))) (bel_alloc _ (Go.Obj.cells #[.int .i64 e', .bool p', .int .i64 o', .int .u64 x', .slice a' ys.length cap', .int .i64 s'] 27 (0, 0)))) 1048576 (by decide) (by decide))
    clear S1 S2 hx hy
    generalize less 1048576 (xs.length : Int) = r1 at *
    generalize xs.length = n at *
    generalize ys.length = n' at *
    go_enter Try.func3, Try.ntmps3
    go_wp2_with (go_at_call 5; go_fit HS.out; rintro r w1 ⟨rfl, hb1⟩; obtain ⟨-, -, -, -, -, -, -, -, -, -, -, -, bb⟩ := HB.out w1 hb1)
    go_ret
    exact ⟨rfl, bb⟩
  have hn : xs.length ≤ 1048576 := by unfold less at q1; split at q1 <;> omega
  by_cases q2 : less (less 1048576 (xs.length : Int)) (ys.length : Int) < 0
  · have q3 : 0 ≤ less 1048576 (xs.length : Int) := by omega
    have q4 : less 1048576 (xs.length : Int) ≤ 1048576 := by unfold less at *; split at q3 <;> omega
    have HS := Kp.mk (S1.out _ (bel_trans (bel_alloc W (Go.Obj.cells #[.int .i64 e, .bool p, .int .i64 o, .int .u64 x, .slice a xs.length cap, .int .i64 s] 27 (0, 0))) (bel_alloc _ (Go.Obj.cells #[.int .i64 e', .bool p', .int .i64 o', .int .u64 x', .slice a' ys.length cap', .int .i64 s'] 27 (0, 0)))) 1048576 (by decide) (by decide))
    have HT := Kp.mk (fun w b => S2.out w b _ q3 q4)
    clear S1 S2 hx hy hn q3 q4
    generalize less (less 1048576 (xs.length : Int)) (ys.length : Int) = r2 at *
    generalize less 1048576 (xs.length : Int) = r1 at *
    generalize xs.length = n at *
    generalize ys.length = n' at *
    go_enter Try.func3, Try.ntmps3
    go_wp2_with (first
      | (go_at_call 5; go_fit HS.out; rintro r w1 ⟨rfl, hb1⟩; obtain ⟨q0, q1, q2, q3, q4, q5, u0, u1, u2, u3, u4, u5, bb1⟩ := HB.out w1 hb1)
      | (go_at_call 5; go_fit (HT.out _ bb1); rintro r w2 ⟨rfl, hb2⟩; have bb2 := bel_trans bb1 hb2))
    go_ret
    exact ⟨rfl, bb2⟩
  have hm : ys.length ≤ 1048576 := by unfold less at q1 q2; split at q2 <;> split at q1 <;> omega
  have q3 : 0 ≤ less 1048576 (xs.length : Int) := by omega
  have q4 : less 1048576 (xs.length : Int) ≤ 1048576 := by unfold less at *; split at q3 <;> omega
  have HS := Kp.mk (S1.out _ (bel_trans (bel_alloc W (Go.Obj.cells #[.int .i64 e, .bool p, .int .i64 o, .int .u64 x, .slice a xs.length cap, .int .i64 s] 27 (0, 0))) (bel_alloc _ (Go.Obj.cells #[.int .i64 e', .bool p', .int .i64 o', .int .u64 x', .slice a' ys.length cap', .int .i64 s'] 27 (0, 0)))) 1048576 (by decide) (by decide))
  have HT := Kp.mk (fun w b => S2.out w b _ q3 q4)
  have TA : Kp (∀ w, Below W.heap.size W w → Calls Try.prog 7 _ w _) := ⟨fun w hb => toOut e p o x _ xs s w (hx.out.keep hb) (by omega)⟩
  have TB : Kp (∀ w, Below W.heap.size W w → Calls Try.prog 7 _ w _) := ⟨fun w hb => toOut e' p' o' x' _ ys s' w (hy.out.keep hb) (by omega)⟩
  have CS := Kp.mk (fun v u w (l1 l2 : Nat) (h : Ints l1 .u64 w v xs) (k : Ints l2 .u64 w u ys) => refS e p o x v xs s e' p' o' x' u ys s' w h k)
  have CI := Kp.mk (fun v u w (l1 l2 : Nat) (h : Ints l1 .u64 w v xs) (k : Ints l2 .u64 w u ys) => refI e p o x v xs s e' p' o' x' u ys s' w h k)
  have EA := Kp.mk (fun v u w (l1 l2 : Nat) (h : Ints l1 .u64 w v xs) (k : Ints l2 .u64 w u xs) => eqOut e p o x v xs s u w h k (by omega))
  have EB := Kp.mk (fun v u w (l1 l2 : Nat) (h : Ints l1 .u64 w v ys) (k : Ints l2 .u64 w u ys) => eqOut e' p' o' x' v ys s' u w h k (by omega))
  clear S1 S2 hx hy hn hm q3 q4
  generalize less (less 1048576 (xs.length : Int)) (ys.length : Int) = r2 at *
  generalize less 1048576 (xs.length : Int) = r1 at *
  obtain ⟨n, hn⟩ : ∃ n, n = xs.length := ⟨_, rfl⟩
  obtain ⟨n', hn'⟩ : ∃ n, n = ys.length := ⟨_, rfl⟩
  have SN : Kp (∀ lo w v, Ints lo .u64 w v xs → ∃ a c, v = .slice a n c) := ⟨fun lo w v h => by obtain ⟨a, c, h1, -, -⟩ := h.slice; exact ⟨a, c, by rw [hn]; exact h1⟩⟩
  have SM : Kp (∀ lo w v, Ints lo .u64 w v ys → ∃ a c, v = .slice a n' c) := ⟨fun lo w v h => by obtain ⟨a, c, h1, -, -⟩ := h.slice; exact ⟨a, c, by rw [hn']; exact h1⟩⟩
  simp only [← hn, ← hn'] at HS HT TA TB HB q1 q2 g1 g3 g2 g4 ⊢
  clear hn hn'
  generalize refB e p o x xs e' p' o' x' ys = R at *
  go_enter Try.func3, Try.ntmps3
  go_upto_region 8 with (first
      | (go_at_call 5; go_fit HS.out; rintro r w1 ⟨rfl, hb1⟩; obtain ⟨q0, q1, q2, q3, q4, q5, u0, u1, u2, u3, u4, u5, bb1⟩ := HB.out w1 hb1; have HB1 := Kp.mk (fun w2 (h : Below w1.heap.size w1 w2) => HB.out w2 (hb1.trans (h.mono hb1.size))))
      | (go_at_call 5; go_fit (HT.out _ bb1); rintro r w2 ⟨rfl, hb2⟩; obtain ⟨q0, q1, q2, q3, q4, q5, u0, u1, u2, u3, u4, u5, bb2⟩ := HB1.out w2 hb2; have HB2 := Kp.mk (fun w3 (h : Below w2.heap.size w2 w3) => HB1.out w3 (bel_trans hb2 h))))
  have hBD := (Below.refl w2.heap.size w2).drew
  have HBD := Kp.mk (fun w3 (h : Below w2.heap.size w2 w3) => HB2.out w3 h)
  clear HS HT HB HB1 hb1 hb2 bb1 q0 q1 q2 q3 q4 q5 u0 u1 u2 u3 u4 u5
  obtain ⟨q0, q1, q2, q3, q4, q5, u0, u1, u2, u3, u4, u5, bbD⟩ := HBD.out w2.drew hBD
  go_cut [6] from 20 to 24 (fun s wx => s = .bool R ∧ Below w2.heap.size w2 wx)
  case first =>
    go_region_with (first
      | (go_at_call 7; go_fit (TA.out _ bbD); rintro r w3 ⟨v3, rfl, I3, hb3⟩; have hb23 := hBD.trans hb3; obtain ⟨a3, c3, rfl⟩ := SN.out _ _ _ I3; obtain ⟨q0, q1, q2, q3, q4, q5, u0, u1, u2, u3, u4, u5, bb3⟩ := HBD.out w3 hb23)
      | (go_at_call 7; go_fit (TB.out _ bb3); rintro r w4 ⟨v4, rfl, I4, hb4⟩; have hb24 := bel_trans hb23 hb4; obtain ⟨a4, c4, rfl⟩ := SM.out _ _ _ I4; have I34 := I3.keep hb4)
      | (go_at_call 6; go_fit (CS.out _ _ _ _ _ I34 I4); rintro r w5 ⟨rfl, hb5⟩; have hb25 := bel_trans hb24 hb5))
    all_goals
      go_wp2_with fail
      go_meet
      exact ⟨rfl, hb25⟩
  case rest =>
    obtain ⟨rfl, hcB⟩ := hcut
    clear bbD hBD CS q0 q1 q2 q3 q4 q5 u0 u1 u2 u3 u4 u5
    obtain ⟨w5, hw5⟩ : ∃ w5, w5 = wc := ⟨_, rfl⟩
    rw [← hw5] at hcB ⊢
    clear hw5
    have HB5 := Kp.mk (fun w6 (h : Below w5.heap.size w5 w6) => HBD.out w6 (bel_trans hcB h))
    obtain ⟨q0, q1, q2, q3, q4, q5, u0, u1, u2, u3, u4, u5, bb5⟩ := HB5.out w5 (Below.refl _ _)
    clear HBD HB2
    go_upto_region 10 with (go_at_call 7; go_fit (TA.out _ bb5); rintro r w7 ⟨v7, rfl, I7, hb7⟩; obtain ⟨a7, c7, rfl⟩ := SN.out _ _ _ I7)
    have x7 := new_cells w7 (Go.Obj.cells #[.int .i64 e, .bool p, .int .i64 o, .int .u64 x, .slice a7 n c7, .int .i64 s] 32 (0, 0))
    have b7 := bel_alloc w7 (Go.Obj.cells #[.int .i64 e, .bool p, .int .i64 o, .int .u64 x, .slice a7 n c7, .int .i64 s] 32 (0, 0))
    generalize hV7 : w7.alloc (Go.Obj.cells #[.int .i64 e, .bool p, .int .i64 o, .int .u64 x, .slice a7 n c7, .int .i64 s] 32 (0, 0)) = V7 at *
    have b57 := bel_trans hb7 b7
    replace I7 := I7.keep b7
    obtain ⟨s7, hs7⟩ : ∃ s, s = w7.heap.size := ⟨_, rfl⟩
    rw [← hs7] at x7 ⊢
    have HB7 := Kp.mk (fun w6 (h : Below V7.heap.size V7 w6) => HB5.out w6 (bel_trans b57 h))
    clear hV7 hs7 b7 hb7 q0 q1 q2 q3 q4 q5 u0 u1 u2 u3 u4 u5 HB5
    obtain ⟨q0, q1, q2, q3, q4, q5, u0, u1, u2, u3, u4, u5, bb7⟩ := HB7.out V7 (Below.refl _ _)
    go_upto_region 11 with (go_at_call 7; go_fit (TB.out _ bb7); rintro r w8 ⟨v8, rfl, I8, hb8⟩; obtain ⟨a8, c8, rfl⟩ := SM.out _ _ _ I8)
    have x8 := new_cells w8 (Go.Obj.cells #[.int .i64 e', .bool p', .int .i64 o', .int .u64 x', .slice a8 n' c8, .int .i64 s'] 32 (0, 0))
    have b8 := bel_alloc w8 (Go.Obj.cells #[.int .i64 e', .bool p', .int .i64 o', .int .u64 x', .slice a8 n' c8, .int .i64 s'] 32 (0, 0))
    generalize hV8 : w8.alloc (Go.Obj.cells #[.int .i64 e', .bool p', .int .i64 o', .int .u64 x', .slice a8 n' c8, .int .i64 s'] 32 (0, 0)) = V8 at *
    have b78 := bel_trans hb8 b8
    replace I8 := I8.keep b8
    replace I7 := I7.keep b78
    replace x7 := keep_cells x7 b78
    obtain ⟨s8, hs8⟩ : ∃ s, s = w8.heap.size := ⟨_, rfl⟩
    rw [← hs8] at x8 ⊢
    have HB8 := Kp.mk (fun w6 (h : Below V8.heap.size V8 w6) => HB7.out w6 (bel_trans b78 h))
    clear hV8 hs8 b8 hb8 q0 q1 q2 q3 q4 q5 u0 u1 u2 u3 u4 u5 HB7
    have d0 : V8.cell? ⟨s7, 0, none⟩ = some (.int .i64 e) := at_cells x7 rfl
    have d1 : V8.cell? ⟨s7, 1, none⟩ = some (.bool p) := at_cells x7 rfl
    have d2 : V8.cell? ⟨s7, 2, none⟩ = some (.int .i64 o) := at_cells x7 rfl
    have d3 : V8.cell? ⟨s7, 3, none⟩ = some (.int .u64 x) := at_cells x7 rfl
    have d4 : V8.cell? ⟨s7, 4, none⟩ = some (.slice a7 n c7) := at_cells x7 rfl
    have d5 : V8.cell? ⟨s7, 5, none⟩ = some (.int .i64 s) := at_cells x7 rfl
    have f0 : V8.cell? ⟨s8, 0, none⟩ = some (.int .i64 e') := at_cells x8 rfl
    have f1 : V8.cell? ⟨s8, 1, none⟩ = some (.bool p') := at_cells x8 rfl
    have f2 : V8.cell? ⟨s8, 2, none⟩ = some (.int .i64 o') := at_cells x8 rfl
    have f3 : V8.cell? ⟨s8, 3, none⟩ = some (.int .u64 x') := at_cells x8 rfl
    have f4 : V8.cell? ⟨s8, 4, none⟩ = some (.slice a8 n' c8) := at_cells x8 rfl
    have f5 : V8.cell? ⟨s8, 5, none⟩ = some (.int .i64 s') := at_cells x8 rfl
    go_upto_region 14 with (go_at_call 8; go_fit (CI.out _ _ _ _ _ I7 I8); rintro r w9 ⟨rfl, hb9⟩)
    have hBD9 := (Below.refl w9.heap.size w9).drew
    have B9 := hb9.drew
    have HBD9 := Kp.mk (fun w6 (h : Below w9.heap.size w9 w6) => HB8.out w6 (bel_trans hb9 h))
    have XD9 := Kp.mk (fun w6 (h : Below w9.heap.size w9 w6) => keep_cells x7 (bel_trans hb9 h))
    replace I7 := I7.keep hb9
    replace x8 := keep_cells x8 hb9
    replace I8 := I8.keep hb9
    clear d0 d1 d2 d3 d4 d5 f0 f1 f2 f3 f4 f5
    have hx7 := XD9.out w9.drew hBD9
    have d0 : w9.drew.cell? ⟨s7, 0, none⟩ = some (.int .i64 e) := at_cells hx7 rfl
    have d1 : w9.drew.cell? ⟨s7, 1, none⟩ = some (.bool p) := at_cells hx7 rfl
    have d2 : w9.drew.cell? ⟨s7, 2, none⟩ = some (.int .i64 o) := at_cells hx7 rfl
    have d3 : w9.drew.cell? ⟨s7, 3, none⟩ = some (.int .u64 x) := at_cells hx7 rfl
    have d4 : w9.drew.cell? ⟨s7, 4, none⟩ = some (.slice a7 n c7) := at_cells hx7 rfl
    have d5 : w9.drew.cell? ⟨s7, 5, none⟩ = some (.int .i64 s) := at_cells hx7 rfl
    obtain ⟨q0, q1, q2, q3, q4, q5, u0, u1, u2, u3, u4, u5, bb9⟩ := HBD9.out w9.drew hBD9
    have ID7 := I7.keep hBD9
    go_cut [39] from 35 to 39 (fun s wx => s = .bool false ∧ Below w9.heap.size w9 wx)
    case first =>
      go_region_with (first
        | (go_at_call 7; go_fit (TA.out _ bb9); rintro r w10 ⟨v10, rfl, I10, hb10⟩; have hb910 := hBD9.trans hb10; obtain ⟨a10, c10, rfl⟩ := SN.out _ _ _ I10; have I710 := ID7.keep hb10; have hx70 := XD9.out w10 hb910; have d0 : w10.cell? ⟨s7, 0, none⟩ = some (.int .i64 e) := at_cells hx70 rfl; have d1 : w10.cell? ⟨s7, 1, none⟩ = some (.bool p) := at_cells hx70 rfl; have d2 : w10.cell? ⟨s7, 2, none⟩ = some (.int .i64 o) := at_cells hx70 rfl; have d3 : w10.cell? ⟨s7, 3, none⟩ = some (.int .u64 x) := at_cells hx70 rfl; have d4 : w10.cell? ⟨s7, 4, none⟩ = some (.slice a7 n c7) := at_cells hx70 rfl; have d5 : w10.cell? ⟨s7, 5, none⟩ = some (.int .i64 s) := at_cells hx70 rfl)
        | (go_at_call 9; go_fit (EA.out _ _ _ _ _ I710 I10); rintro r w11 ⟨rfl, hb11⟩; have hb911 := bel_trans hb910 hb11))
      all_goals
        go_wp2_with fail
        go_meet
        exact ⟨rfl, hb911⟩
    case rest =>
      obtain ⟨rfl, hcB⟩ := hcut
      obtain ⟨w12, hw12⟩ : ∃ w12, w12 = wc := ⟨_, rfl⟩
      rw [← hw12] at hcB ⊢
      clear hw12 d0 d1 d2 d3 d4 d5 q0 q1 q2 q3 q4 q5 u0 u1 u2 u3 u4 u5 hBD9 B9 I7 x7 XD9 ID7 hx7
      have HB12 := Kp.mk (fun w6 (h : Below w12.heap.size w12 w6) => HBD9.out w6 (bel_trans hcB h))
      clear HBD9
      go_upto_region 16 with fail
      have hBD12 := (Below.refl w12.heap.size w12).drew
      have XD12 := Kp.mk (fun w6 (h : Below w12.heap.size w12 w6) => keep_cells x8 (bel_trans hcB h))
      replace I8 := I8.keep hcB
      have ID8 := I8.keep hBD12
      have hx8 := XD12.out w12.drew hBD12
      have f0 : w12.drew.cell? ⟨s8, 0, none⟩ = some (.int .i64 e') := at_cells hx8 rfl
      have f1 : w12.drew.cell? ⟨s8, 1, none⟩ = some (.bool p') := at_cells hx8 rfl
      have f2 : w12.drew.cell? ⟨s8, 2, none⟩ = some (.int .i64 o') := at_cells hx8 rfl
      have f3 : w12.drew.cell? ⟨s8, 3, none⟩ = some (.int .u64 x') := at_cells hx8 rfl
      have f4 : w12.drew.cell? ⟨s8, 4, none⟩ = some (.slice a8 n' c8) := at_cells hx8 rfl
      have f5 : w12.drew.cell? ⟨s8, 5, none⟩ = some (.int .i64 s') := at_cells hx8 rfl
      obtain ⟨q0, q1, q2, q3, q4, q5, u0, u1, u2, u3, u4, u5, bb12⟩ := HB12.out w12.drew hBD12
      go_cut [44] from 40 to 44 (fun s wx => s = .bool false ∧ Below w12.heap.size w12 wx)
      case first =>
        go_region_with (first
          | (go_at_call 7; go_fit (TB.out _ bb12); rintro r w13 ⟨v13, rfl, I13, hb13⟩; have hb1213 := hBD12.trans hb13; obtain ⟨a13, c13, rfl⟩ := SM.out _ _ _ I13; have I813 := ID8.keep hb13; have hx80 := XD12.out w13 hb1213; have f0 : w13.cell? ⟨s8, 0, none⟩ = some (.int .i64 e') := at_cells hx80 rfl; have f1 : w13.cell? ⟨s8, 1, none⟩ = some (.bool p') := at_cells hx80 rfl; have f2 : w13.cell? ⟨s8, 2, none⟩ = some (.int .i64 o') := at_cells hx80 rfl; have f3 : w13.cell? ⟨s8, 3, none⟩ = some (.int .u64 x') := at_cells hx80 rfl; have f4 : w13.cell? ⟨s8, 4, none⟩ = some (.slice a8 n' c8) := at_cells hx80 rfl; have f5 : w13.cell? ⟨s8, 5, none⟩ = some (.int .i64 s') := at_cells hx80 rfl)
          | (go_at_call 9; go_fit (EB.out _ _ _ _ _ I813 I13); rintro r w14 ⟨rfl, hb14⟩; have hb1214 := bel_trans hb1213 hb14))
        all_goals
          go_wp2_with fail
          go_meet
          exact ⟨rfl, hb1214⟩
      case rest =>
        obtain ⟨rfl, hcB2⟩ := hcut
        have bbE := (HB12.out wc hcB2).2.2.2.2.2.2.2.2.2.2.2.2
        go_wp2_with fail
        go_ret
        exact ⟨rfl, bbE⟩
end Go.Proofs.Ytbacbigcecmfbaa
