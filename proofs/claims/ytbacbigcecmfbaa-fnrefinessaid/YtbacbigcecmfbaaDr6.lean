/- The law: what runs may stand for. -/
import Derived.Test.YtbacbigcecmfbaaDr5
namespace Go.Proofs.Ytbacbigcecmfbaa
open Go.ChangeShapes Go.WideShapes Go.ChangeAt Go.RowKit
open Go.Sort (grow)
set_option linter.unusedVariables false
set_option linter.unusedSimpArgs false
set_option maxRecDepth 100000 in
set_option maxHeartbeats 8000000 in
theorem refines_law (W : World) (a : Option Addr) (len cap : Nat) (us : List Int) (a2 : Option Addr) (len2 cap2 : Nat) (us2 : List Int) (h : IsRow .u8 W a len cap us) (h2 : IsRow .u8 W a2 len2 cap2 us2) :
    Calls Try.prog 4 #[.slice a len cap, .slice a2 len2 cap2] W fun e w' => e = .returned (.bool true) ∧ Below W.heap.size W w' := by
  have hcap : (len : Int) ≤ 9223372036854775807 := by
    rcases h with ⟨-, rfl, -, -⟩ | ⟨x, -, h1, h2, -⟩
    · decide
    · unfold maxLen at h2; omega
  have hcap2 : (len2 : Int) ≤ 9223372036854775807 := by
    rcases h2 with ⟨-, rfl, -, -⟩ | ⟨x, -, h1, h2, -⟩
    · decide
    · unfold maxLen at h2; omega
  by_cases hl1 : (1048576 : Int) < len
  · clear h h2
    go_enter Try.func4, Try.ntmps4
    go_wp2_with fail
    go_ret
    exact ⟨rfl, Below.refl _ _⟩
  by_cases hl2 : (1048576 : Int) < len2
  · clear h h2
    go_enter Try.func4, Try.ntmps4
    go_wp2_with fail
    go_ret
    exact ⟨rfl, Below.refl _ _⟩
  obtain ⟨xs, hxl, hx, hxb⟩ := h.ints (by omega)
  obtain ⟨xs2, hxl2, hx2, hxb2⟩ := h2.ints (by omega)
  have C1 := Kp.mk (drawS _ xs W hx hxb (by omega))
  have C2 := Kp.mk (fun w hb => drawS _ xs2 w (Ints.keep hx2 (w' := w) hb) hxb2 (by omega))
  clear h h2 hx hx2 hxb hxb2 hxl hxl2
  go_enter Try.func4, Try.ntmps4
  go_upto_region 4 with (go_at_call 10; go_fit C1.out; rintro r w1 ⟨e, b, o, x, va, ys, s, e', b', o', x', va', ys', s', rfl, hx0, hx1, hy0, hy1, hla, hlb, OA, OB, b1⟩; obtain ⟨ra, rc, rfl⟩ := OA.form; obtain ⟨ra', rc', rfl⟩ := OB.form)
  have xA := keep_cells (new_cells w1 (Go.Obj.cells #[.int .i64 e, .bool b, .int .i64 o, .int .u64 x, .slice ra ys.length rc, .int .i64 s] 32 (0, 0))) (bel_alloc _ (Go.Obj.cells #[.int .i64 e', .bool b', .int .i64 o', .int .u64 x', .slice ra' ys'.length rc', .int .i64 s'] 32 (0, 0)))
  have xB := new_cells (w1.alloc (Go.Obj.cells #[.int .i64 e, .bool b, .int .i64 o, .int .u64 x, .slice ra ys.length rc, .int .i64 s] 32 (0, 0))) (Go.Obj.cells #[.int .i64 e', .bool b', .int .i64 o', .int .u64 x', .slice ra' ys'.length rc', .int .i64 s'] 32 (0, 0))
  rw [World.size_alloc] at xB
  have bb := bel_trans (bel_alloc w1 (Go.Obj.cells #[.int .i64 e, .bool b, .int .i64 o, .int .u64 x, .slice ra ys.length rc, .int .i64 s] 32 (0, 0))) (bel_alloc _ (Go.Obj.cells #[.int .i64 e', .bool b', .int .i64 o', .int .u64 x', .slice ra' ys'.length rc', .int .i64 s'] 32 (0, 0)))
  generalize hV : (w1.alloc _).alloc _ = V
  rw [hV] at xA xB bb
  clear hV
  have OAw := Kp.mk (OA.keep bb)
  replace OA := (OA.keep bb).bytes (by omega)
  replace OB := (OB.keep bb).bytes (by omega)
  replace b1 := bel_trans b1 bb
  obtain ⟨A, hA⟩ : ∃ A, A = w1.heap.size := ⟨_, rfl⟩
  rw [← hA] at xA xB ⊢
  clear bb hA w1 C1
  go_upto_region 5 with (go_at_call 10; go_fit (C2.out _ b1); rintro r w2 ⟨f, d, p, q, vd, zs, t, f', d', p', q', vd', zs', t', rfl, hz0, hz1, hu0, hu1, hlc, hld, OC, OD, b2⟩; obtain ⟨rd, re, rfl⟩ := OC.form; obtain ⟨rd', re', rfl⟩ := OD.form)
  have xD := new_cells (w2.alloc (Go.Obj.cells #[.int .i64 f, .bool d, .int .i64 p, .int .u64 q, .slice rd zs.length re, .int .i64 t] 32 (0, 0))) (Go.Obj.cells #[.int .i64 f', .bool d', .int .i64 p', .int .u64 q', .slice rd' zs'.length re', .int .i64 t'] 32 (0, 0))
  rw [World.size_alloc] at xD
  have bb := bel_trans (bel_alloc w2 (Go.Obj.cells #[.int .i64 f, .bool d, .int .i64 p, .int .u64 q, .slice rd zs.length re, .int .i64 t] 32 (0, 0))) (bel_alloc _ (Go.Obj.cells #[.int .i64 f', .bool d', .int .i64 p', .int .u64 q', .slice rd' zs'.length re', .int .i64 t'] 32 (0, 0)))
  generalize hV : (w2.alloc _).alloc _ = V2
  rw [hV] at xD bb
  clear hV
  replace OD := (OD.keep bb).bytes (by omega)
  replace b2 := bel_trans b2 bb
  replace xA := keep_cells xA b2
  replace xB := keep_cells xB b2
  replace OA := OA.keep b2
  replace OAw := Kp.mk (OAw.out.keep b2)
  replace OB := OB.keep b2
  replace b1 := bel_trans b1 b2
  obtain ⟨D, hD⟩ : ∃ D, D = w2.heap.size + 1 := ⟨_, rfl⟩
  rw [← hD] at xD ⊢
  clear bb hD b2 OC C2 hz0 hz1 hlc hcap hcap2 hl1 hl2
  have KAA := Kp.mk (fun w lo (h : Ints lo .u64 w (.slice ra ys.length rc) ys) => refI e b o x _ ys s e b o x _ ys s w h h)
  have KBB := Kp.mk (fun w lo (h : Ints lo .u64 w (.slice ra' ys'.length rc') ys') => refI e' b' o' x' _ ys' s' e' b' o' x' _ ys' s' w h h)
  rw [refB_refl] at KAA KBB
  have KAB := Kp.mk (fun w lo lo' (h : Ints lo .u64 w (.slice ra ys.length rc) ys) (k : Ints lo' .u64 w (.slice ra' ys'.length rc') ys') => refI e b o x _ ys s e' b' o' x' _ ys' s' w h k)
  have SAB := Kp.mk (fun w lo lo' (h : Ints lo .u64 w (.slice ra ys.length rc) ys) (k : Ints lo' .u64 w (.slice ra' ys'.length rc') ys') => refS e b o x _ ys s e' b' o' x' _ ys' s' w h k)
  have KBD := Kp.mk (fun w lo lo' (h : Ints lo .u64 w (.slice ra' ys'.length rc') ys') (k : Ints lo' .u64 w (.slice rd' zs'.length re') zs') => refI e' b' o' x' _ ys' s' f' d' p' q' _ zs' t' w h k)
  have KAD := Kp.mk (fun w lo lo' (h : Ints lo .u64 w (.slice ra ys.length rc) ys) (k : Ints lo' .u64 w (.slice rd' zs'.length re') zs') => refI e b o x _ ys s f' d' p' q' _ zs' t' w h k)
  have TR : Kp ((e' = 0 ∧ b' = false ∧ o' = 0) ∨ e' = 1 → refB e b o x ys e' b' o' x' ys' = true → refB e' b' o' x' ys' f' d' p' q' zs' = true → refB e b o x ys f' d' p' q' zs' = true) := ⟨refB_trans⟩
  generalize refB e b o x ys e' b' o' x' ys' = R1 at KAB SAB TR
  generalize refB e' b' o' x' ys' f' d' p' q' zs' = R2 at KBD TR
  generalize refB e b o x ys f' d' p' q' zs' = R3 at KAD TR
  have hBR := Kp.mk (fun dq osq => below_regrown V2 dq osq)
  have Q1 := Kp.mk (fun dq osq => Calls.regrown_of (KAA.out _ _ (OA.keep (hBR.out dq osq))))
  have Q2 := Kp.mk (fun dq osq => Calls.regrown_of (KBB.out _ _ (OB.keep (hBR.out dq osq))))
  have Q3 := Kp.mk (fun dq osq => Calls.regrown_of (KAB.out _ _ _ (OA.keep (hBR.out dq osq)) (OB.keep (hBR.out dq osq))))
  have Q4 := Kp.mk (fun dq osq => Calls.regrown_of (SAB.out _ _ _ (OA.keep (hBR.out dq osq)) (OB.keep (hBR.out dq osq))))
  have g0 := cell_regrown (at_cells (j := 0) xA rfl)
  have g1 := cell_regrown (at_cells (j := 1) xA rfl)
  have g2 := cell_regrown (at_cells (j := 2) xA rfl)
  have g3 := cell_regrown (at_cells (j := 3) xA rfl)
  have g4 := cell_regrown (at_cells (j := 4) xA rfl)
  have g5 := cell_regrown (at_cells (j := 5) xA rfl)
  have k0 := cell_regrown (at_cells (j := 0) xB rfl)
  have k1 := cell_regrown (at_cells (j := 1) xB rfl)
  have k2 := cell_regrown (at_cells (j := 2) xB rfl)
  have k3 := cell_regrown (at_cells (j := 3) xB rfl)
  have k4 := cell_regrown (at_cells (j := 4) xB rfl)
  have k5 := cell_regrown (at_cells (j := 5) xB rfl)
  refine wp_region_quiet_below (by kernel_rfl) (by kernel_rfl) ?_
  repeat (quiet_step (fail))
  quiet_step (exact Q1.out _ _)
  repeat (quiet_step (fail))
  quiet_step (exact Q2.out _ _)
  repeat (quiet_step (fail))
  quiet_step (exact Q3.out _ _)
  repeat (quiet_step (fail))
  quiet_step (exact Q4.out _ _)
  repeat (quiet_step (fail))
  refine wpQuiet_nil ?_
  intro _ hw'
  obtain ⟨⟨dq, osq⟩, hw''⟩ := hw'
  subst hw''
  have bq := below_regrown V2 dq osq
  generalize grow (redrawn V2 dq) osq = Y at *
  replace xA := keep_cells xA bq
  replace xB := keep_cells xB bq
  replace xD := keep_cells xD bq
  replace OA := OA.keep bq
  replace OAw := Kp.mk (OAw.out.keep bq)
  replace OB := OB.keep bq
  replace OD := OD.keep bq
  replace b1 := bel_trans b1 bq
  clear bq hBR Q1 Q2 Q3 Q4 KAA KBB SAB g0 k0 g1 k1 g2 k2 g3 k3 g4 k4 g5 k5
  go_upto_region 7 with fail
  go_cut [9] from 49 to 68 (fun s wx => ∃ dd : Bool, s = .bool dd ∧ Kp (dd = true → (e' = 0 ∧ b' = false ∧ o' = 0) ∨ e' = 1) ∧ wx = Y)
  case first =>
    have k0 := at_cells (j := 0) xB rfl
    have k1 := at_cells (j := 1) xB rfl
    have k2 := at_cells (j := 2) xB rfl
    have k3 := at_cells (j := 3) xB rfl
    have k4 := at_cells (j := 4) xB rfl
    have k5 := at_cells (j := 5) xB rfl
    by_cases h0 : e' = 0
    · subst h0
      cases b'
      · by_cases h2 : o' = 0
        · subst h2
          go_wp2_with fail
          go_meet
          exact ⟨true, rfl, ⟨fun _ => by simp⟩, rfl⟩
        · have h2' : (o' == 0) = false := beq_false_of_ne h2
          go_wp2_with fail
          go_meet
          exact ⟨false, rfl, ⟨fun h => by cases h⟩, rfl⟩
      · go_wp2_with fail
        go_meet
        exact ⟨false, rfl, ⟨fun h => by cases h⟩, rfl⟩
    · have h0' : (e' == 0) = false := beq_false_of_ne h0
      by_cases h1 : e' = 1
      · subst h1
        go_wp2_with fail
        go_meet
        exact ⟨true, rfl, ⟨fun _ => by simp⟩, rfl⟩
      · have h1' : (e' == 1) = false := beq_false_of_ne h1
        go_wp2_with fail
        go_meet
        exact ⟨false, rfl, ⟨fun h => by cases h⟩, rfl⟩
  case rest =>
    obtain ⟨dd, rfl, hdd, hwc⟩ := hcut
    rw [hwc]
    clear hwc
    go_upto_region 8 with fail
    go_cut [85] from 69 to 85 (fun s wx => s = .bool false ∧ Below Y.heap.size Y wx)
    case first =>
      have g0 := at_cells (j := 0) xA rfl
      have g1 := at_cells (j := 1) xA rfl
      have g2 := at_cells (j := 2) xA rfl
      have g3 := at_cells (j := 3) xA rfl
      have g4 := at_cells (j := 4) xA rfl
      have g5 := at_cells (j := 5) xA rfl
      have k0 := at_cells (j := 0) xB rfl
      have k1 := at_cells (j := 1) xB rfl
      have k2 := at_cells (j := 2) xB rfl
      have k3 := at_cells (j := 3) xB rfl
      have k4 := at_cells (j := 4) xB rfl
      have k5 := at_cells (j := 5) xB rfl
      have m0 := at_cells (j := 0) xD rfl
      have m1 := at_cells (j := 1) xD rfl
      have m2 := at_cells (j := 2) xD rfl
      have m3 := at_cells (j := 3) xD rfl
      have m4 := at_cells (j := 4) xD rfl
      have m5 := at_cells (j := 5) xD rfl
      cases dd
      · go_wp2_with fail
        go_meet
        exact ⟨rfl, Below.refl _ _⟩
      · have hT := Kp.mk (TR.out (hdd.out rfl))
        have HK := Kp.mk (fun w' (h : Below Y.heap.size Y w') => (⟨keep_cells xA h, keep_cells xB h, keep_cells xD h, OA.keep h, OB.keep h, OD.keep h⟩ : _ ∧ _ ∧ _ ∧ _ ∧ _ ∧ _))
        clear TR hdd
        cases R1
        · go_wp2_with (first
            | (go_at_call 8; go_fit (KAB.out _ _ _ OA OB); rintro r w3 ⟨rfl, c3⟩; obtain ⟨y1, y2, y3, v1, v2, v3⟩ := HK.out w3 c3; have g0 := at_cells (j := 0) y1 rfl; have g1 := at_cells (j := 1) y1 rfl; have g2 := at_cells (j := 2) y1 rfl; have g3 := at_cells (j := 3) y1 rfl; have g4 := at_cells (j := 4) y1 rfl; have g5 := at_cells (j := 5) y1 rfl; have k0 := at_cells (j := 0) y2 rfl; have k1 := at_cells (j := 1) y2 rfl; have k2 := at_cells (j := 2) y2 rfl; have k3 := at_cells (j := 3) y2 rfl; have k4 := at_cells (j := 4) y2 rfl; have k5 := at_cells (j := 5) y2 rfl; have m0 := at_cells (j := 0) y3 rfl; have m1 := at_cells (j := 1) y3 rfl; have m2 := at_cells (j := 2) y3 rfl; have m3 := at_cells (j := 3) y3 rfl; have m4 := at_cells (j := 4) y3 rfl; have m5 := at_cells (j := 5) y3 rfl)
            | (go_at_call 8; go_fit (KBD.out _ _ _ v2 v3); rintro r w4 ⟨rfl, c4⟩; have c34 := bel_trans c3 c4; obtain ⟨z1, z2, z3, i1, i2, i3⟩ := HK.out w4 c34; have g0 := at_cells (j := 0) z1 rfl; have g1 := at_cells (j := 1) z1 rfl; have g2 := at_cells (j := 2) z1 rfl; have g3 := at_cells (j := 3) z1 rfl; have g4 := at_cells (j := 4) z1 rfl; have g5 := at_cells (j := 5) z1 rfl; have k0 := at_cells (j := 0) z2 rfl; have k1 := at_cells (j := 1) z2 rfl; have k2 := at_cells (j := 2) z2 rfl; have k3 := at_cells (j := 3) z2 rfl; have k4 := at_cells (j := 4) z2 rfl; have k5 := at_cells (j := 5) z2 rfl; have m0 := at_cells (j := 0) z3 rfl; have m1 := at_cells (j := 1) z3 rfl; have m2 := at_cells (j := 2) z3 rfl; have m3 := at_cells (j := 3) z3 rfl; have m4 := at_cells (j := 4) z3 rfl; have m5 := at_cells (j := 5) z3 rfl)
            | (go_at_call 8; go_fit (KAD.out _ _ _ i1 i3); rintro r w5 ⟨rfl, c5⟩; have c35 := bel_trans c34 c5))
          go_meet
          exact ⟨rfl, c3⟩
        · cases R2
          · go_wp2_with (first
            | (go_at_call 8; go_fit (KAB.out _ _ _ OA OB); rintro r w3 ⟨rfl, c3⟩; obtain ⟨y1, y2, y3, v1, v2, v3⟩ := HK.out w3 c3; have g0 := at_cells (j := 0) y1 rfl; have g1 := at_cells (j := 1) y1 rfl; have g2 := at_cells (j := 2) y1 rfl; have g3 := at_cells (j := 3) y1 rfl; have g4 := at_cells (j := 4) y1 rfl; have g5 := at_cells (j := 5) y1 rfl; have k0 := at_cells (j := 0) y2 rfl; have k1 := at_cells (j := 1) y2 rfl; have k2 := at_cells (j := 2) y2 rfl; have k3 := at_cells (j := 3) y2 rfl; have k4 := at_cells (j := 4) y2 rfl; have k5 := at_cells (j := 5) y2 rfl; have m0 := at_cells (j := 0) y3 rfl; have m1 := at_cells (j := 1) y3 rfl; have m2 := at_cells (j := 2) y3 rfl; have m3 := at_cells (j := 3) y3 rfl; have m4 := at_cells (j := 4) y3 rfl; have m5 := at_cells (j := 5) y3 rfl)
            | (go_at_call 8; go_fit (KBD.out _ _ _ v2 v3); rintro r w4 ⟨rfl, c4⟩; have c34 := bel_trans c3 c4; obtain ⟨z1, z2, z3, i1, i2, i3⟩ := HK.out w4 c34; have g0 := at_cells (j := 0) z1 rfl; have g1 := at_cells (j := 1) z1 rfl; have g2 := at_cells (j := 2) z1 rfl; have g3 := at_cells (j := 3) z1 rfl; have g4 := at_cells (j := 4) z1 rfl; have g5 := at_cells (j := 5) z1 rfl; have k0 := at_cells (j := 0) z2 rfl; have k1 := at_cells (j := 1) z2 rfl; have k2 := at_cells (j := 2) z2 rfl; have k3 := at_cells (j := 3) z2 rfl; have k4 := at_cells (j := 4) z2 rfl; have k5 := at_cells (j := 5) z2 rfl; have m0 := at_cells (j := 0) z3 rfl; have m1 := at_cells (j := 1) z3 rfl; have m2 := at_cells (j := 2) z3 rfl; have m3 := at_cells (j := 3) z3 rfl; have m4 := at_cells (j := 4) z3 rfl; have m5 := at_cells (j := 5) z3 rfl)
            | (go_at_call 8; go_fit (KAD.out _ _ _ i1 i3); rintro r w5 ⟨rfl, c5⟩; have c35 := bel_trans c34 c5))
            go_meet
            exact ⟨rfl, c34⟩
          · obtain rfl : R3 = true := hT.out rfl rfl
            go_wp2_with (first
            | (go_at_call 8; go_fit (KAB.out _ _ _ OA OB); rintro r w3 ⟨rfl, c3⟩; obtain ⟨y1, y2, y3, v1, v2, v3⟩ := HK.out w3 c3; have g0 := at_cells (j := 0) y1 rfl; have g1 := at_cells (j := 1) y1 rfl; have g2 := at_cells (j := 2) y1 rfl; have g3 := at_cells (j := 3) y1 rfl; have g4 := at_cells (j := 4) y1 rfl; have g5 := at_cells (j := 5) y1 rfl; have k0 := at_cells (j := 0) y2 rfl; have k1 := at_cells (j := 1) y2 rfl; have k2 := at_cells (j := 2) y2 rfl; have k3 := at_cells (j := 3) y2 rfl; have k4 := at_cells (j := 4) y2 rfl; have k5 := at_cells (j := 5) y2 rfl; have m0 := at_cells (j := 0) y3 rfl; have m1 := at_cells (j := 1) y3 rfl; have m2 := at_cells (j := 2) y3 rfl; have m3 := at_cells (j := 3) y3 rfl; have m4 := at_cells (j := 4) y3 rfl; have m5 := at_cells (j := 5) y3 rfl)
            | (go_at_call 8; go_fit (KBD.out _ _ _ v2 v3); rintro r w4 ⟨rfl, c4⟩; have c34 := bel_trans c3 c4; obtain ⟨z1, z2, z3, i1, i2, i3⟩ := HK.out w4 c34; have g0 := at_cells (j := 0) z1 rfl; have g1 := at_cells (j := 1) z1 rfl; have g2 := at_cells (j := 2) z1 rfl; have g3 := at_cells (j := 3) z1 rfl; have g4 := at_cells (j := 4) z1 rfl; have g5 := at_cells (j := 5) z1 rfl; have k0 := at_cells (j := 0) z2 rfl; have k1 := at_cells (j := 1) z2 rfl; have k2 := at_cells (j := 2) z2 rfl; have k3 := at_cells (j := 3) z2 rfl; have k4 := at_cells (j := 4) z2 rfl; have k5 := at_cells (j := 5) z2 rfl; have m0 := at_cells (j := 0) z3 rfl; have m1 := at_cells (j := 1) z3 rfl; have m2 := at_cells (j := 2) z3 rfl; have m3 := at_cells (j := 3) z3 rfl; have m4 := at_cells (j := 4) z3 rfl; have m5 := at_cells (j := 5) z3 rfl)
            | (go_at_call 8; go_fit (KAD.out _ _ _ i1 i3); rintro r w5 ⟨rfl, c5⟩; have c35 := bel_trans c34 c5))
            go_meet
            exact ⟨rfl, c35⟩
    case rest =>
      obtain ⟨rfl, hcB⟩ := hcut
      replace xA := keep_cells xA hcB
      replace OA := OA.keep hcB
      replace OAw := Kp.mk (OAw.out.keep hcB)
      replace b1 := bel_trans b1 hcB
      clear xB xD OB OD KAB KBD KAD TR hdd
      obtain ⟨X, hX⟩ : ∃ X, X = wc := ⟨_, rfl⟩
      rw [← hX] at xA OA OAw b1 ⊢
      clear hX hcB
      have g0 := at_cells (j := 0) xA rfl
      have g1 := at_cells (j := 1) xA rfl
      have g2 := at_cells (j := 2) xA rfl
      have g3 := at_cells (j := 3) xA rfl
      have g4 := at_cells (j := 4) xA rfl
      have g5 := at_cells (j := 5) xA rfl
      by_cases h0 : e ≠ 0
      · have h0' : (e != 0) = true := by simp [h0]
        go_wp2_with fail
        go_ret
        exact ⟨rfl, b1⟩
      obtain rfl : e = 0 := Decidable.not_not.1 h0
      rcases Bool.eq_false_or_eq_true b with rfl | rfl
      · go_wp2_with fail
        go_ret
        exact ⟨rfl, b1⟩
      by_cases h2 : o ≠ 0
      · have h2' : (o != 0) = true := by simp [h2]
        go_wp2_with fail
        go_ret
        exact ⟨rfl, b1⟩
      obtain rfl : o = 0 := Decidable.not_not.1 h2
      go_upto_region 13 with fail
      have xO := new_cells X (Go.Obj.cells #[.int .i64 0, .bool false, .int .i64 0, .int .u64 x, .slice ra ys.length rc, .int .i64 s] 32 (0, 0))
      have bO := bel_alloc X (Go.Obj.cells #[.int .i64 0, .bool false, .int .i64 0, .int .u64 x, .slice ra ys.length rc, .int .i64 s] 32 (0, 0))
      generalize hV : X.alloc _ = V3
      rw [hV] at xO bO
      clear hV
      obtain ⟨O, hO⟩ : ∃ O, O = X.heap.size := ⟨_, rfl⟩
      rw [← hO] at xO ⊢
      have hOA : O ≠ A := by have := (Array.getElem?_eq_some_iff.1 xA).1; omega
      have hOW : Kp (W.heap.size ≤ O) := ⟨by have := b1.size; omega⟩
      replace xA := keep_cells xA bO
      replace OAw := Kp.mk (OAw.out.keep bO)
      replace b1 := bel_trans b1 bO
      clear bO hO OA g0 g1 g2 g3 g4 g5
      obtain ⟨i0, hi0, hz0, hz1, hz2⟩ := info_parts infoW
      have bX := bel_alloc V3 (Go.Obj.cells #[] 22 (0, 0))
      have hX : Kp ((V3.alloc (Go.Obj.cells #[] 22 (0, 0))).ownsRow V3.heap.size 22 1 (.slice (some ⟨V3.heap.size, 0, none⟩) 0 0) 0 []) := ⟨World.ownsRow_made (base := V3.heap.size) (e := 22) (size := 1) V3 #[] 0 (Nat.le_refl _) (Nat.zero_le _) rfl⟩
      obtain ⟨rb, ro, ⟨⟨ra2, rc2, ee, hr1, hr2⟩, hr3⟩, -, hrc⟩ := (OAw.out.bytes (by omega)).ex
      injection ee with ee1 ee2 ee3
      subst ee1
      subst ee3
      replace hr2 := Kp.mk hr2
      replace hrc := Kp.mk (fun i (hi : i < ys.length) => at_keep (hrc i hi) bX)
      have gX : (V3.alloc (Go.Obj.cells #[] 22 (0, 0))).cell? ⟨A, 4, none⟩ = some (.slice ra ys.length rc) := at_cells (keep_cells xA bX) rfl
      go_wp2_with (at_builtin; refine wpList_append_vals _ rfl (.tmp 101) (.tmp 103) 25 rfl V3.heap.size 22 i0 (.int .u64 0) 1 8 Try.underlying25 hi0 hz0 hz1 hz2 rfl (by decide) _ _ _ rfl hX.out ra rb ro ys.length rc (ys.map (Value.int .u64)) rfl hr2.out ?qc1 ?qc2 ?qc3 ?qc4 ?qc5 ?qc6 ?_)
      case qc2 => intro j hj; exact hrc.out j (by simpa using hj)
      case qc3 => intro u hu; rfl
      case qc4 => unfold maxLen; omega
      case qc5 => omega
      intro v5 w5 hown hgrow
      have hown5 : OwnW w5 V3.heap.size v5 ys := by unfold OwnW; simpa using hown
      have b5 : Below V3.heap.size V3 w5 := own_bel (bel_alloc V3 (Go.Obj.cells #[] 22 (0, 0))) hX.out hgrow (by simp)
      obtain ⟨a5, k5, rfl⟩ := hown5.form
      clear hown hgrow bX hX hr2 hrc gX
      have b6 := bel_alloc w5 (Go.Obj.cells #[.int .u64 5] 22 (0, 0))
      have hown6 := Kp.mk (World.ownsRow.alloc hown5 (Go.Obj.cells #[.int .u64 5] 22 (0, 0)))
      have s5 := b5.size
      go_wp2_with (at_builtin; refine wpList_append_vals _ rfl (.tmp 104) (.tmp 105) 25 rfl V3.heap.size 22 i0 (.int .u64 0) 1 8 Try.underlying25 hi0 hz0 hz1 hz2 rfl (by decide) _ _ _ rfl hown6.out (some ⟨w5.heap.size, 0, none⟩) w5.heap.size 0 1 1 [.int .u64 5] rfl (fun _ => rfl) rfl (one_new w5 _ _) one_cell ?qd4 ?qd5 ?qd6 ?_)
      case qd4 => unfold maxLen; omega
      case qd5 => omega
      case qd6 => rw [World.size_alloc]; omega
      intro v6 w6 hown hgrow
      have hO6 : OwnW w6 V3.heap.size v6 (ys ++ [5]) := by unfold OwnW; simpa using hown
      have b7 : Below V3.heap.size V3 w6 := own_bel (b5.alloc (by omega) _) hown6.out hgrow (by simp; omega)
      obtain ⟨a6, k6, rfl⟩ := hO6.form
      replace hO6 := Kp.mk (hO6.mono (base' := W.heap.size) b1.size)
      have yO := keep_cells xO b7
      have yA := keep_cells xA b7
      replace OAw := Kp.mk (OAw.out.keep b7)
      replace b1 := bel_trans b1 b7
      clear hown hgrow hown5 hown6 b5 b6 s5 b7 xO xA
      have n4 := at_cells (j := 4) yO rfl
      have fO := rw_cells yO
      go_upto_region 14 with fail
      have zO : (w6.setCell ⟨O, 4, none⟩ (.slice a6 (ys ++ [5]).length k6)).heap[O]? = some (Go.Obj.cells #[.int .i64 0, .bool false, .int .i64 0, .int .u64 x, .slice a6 (ys ++ [5]).length k6, .int .i64 s] 32 (0, 0)) := set_cells yO 4 _
      have zA := (heap_set w6 O 4 A (.slice a6 (ys ++ [5]).length k6) hOA).trans yA
      have zr := OAw.out.setOther (j := 4) (uw_ne OAw.out yO (by decide)) (.slice a6 (ys ++ [5]).length k6)
      have zq := hO6.out.setOther (j := 4) (uw_ne hO6.out yO (by decide)) (.slice a6 (ys ++ [5]).length k6)
      have zb := bel_set (k := 4) b1 hOW.out (.slice a6 (ys ++ [5]).length k6)
      have hll : (ys ++ [5]).length = ys.length + 1 := by simp
      rw [hll] at zO zA zr zq zb
      generalize hV : w6.setCell _ _ = Z
      rw [hV] at zO zA zr zq zb
      clear hV n4 fO yO yA OAw hO6 b1
      replace zr := Kp.mk zr
      replace zq := Kp.mk zq
      rw [← hll] at zO
      replace hll := Kp.mk hll
      have g0 := at_cells (j := 0) zA rfl
      have g1 := at_cells (j := 1) zA rfl
      have g2 := at_cells (j := 2) zA rfl
      have g3 := at_cells (j := 3) zA rfl
      have g4 := at_cells (j := 4) zA rfl
      have g5 := at_cells (j := 5) zA rfl
      go_upto_region 15 with fail
      have xT := new_cells Z (Go.Obj.cells #[.int .i64 0, .bool false, .int .i64 0, .int .u64 x, .slice ra ys.length rc, .int .i64 s] 32 (0, 0))
      have bT := bel_alloc Z (Go.Obj.cells #[.int .i64 0, .bool false, .int .i64 0, .int .u64 x, .slice ra ys.length rc, .int .i64 s] 32 (0, 0))
      generalize hV : Z.alloc _ = V4
      rw [hV] at xT bT
      clear hV
      obtain ⟨TT, hT⟩ : ∃ TT, TT = Z.heap.size := ⟨_, rfl⟩
      rw [← hT] at xT ⊢
      have hTA : TT ≠ A := by have := (Array.getElem?_eq_some_iff.1 zA).1; omega
      have hTO : TT ≠ O := by have := (Array.getElem?_eq_some_iff.1 zO).1; omega
      have hTW : W.heap.size ≤ TT := by have := zb.size; omega
      replace zA := keep_cells zA bT
      replace zO := keep_cells zO bT
      replace zr := Kp.mk (zr.out.keep bT)
      replace zq := Kp.mk (OwnW.keep zq.out bT)
      replace zb := bel_trans zb bT
      clear bT hT g0 g1 g2 g3 g4 g5
      have g0 := at_cells (j := 0) zA rfl
      have g1 := at_cells (j := 1) zA rfl
      have g2 := at_cells (j := 2) zA rfl
      have g3 := at_cells (j := 3) zA rfl
      have g4 := at_cells (j := 4) zA rfl
      have g5 := at_cells (j := 5) zA rfl
      have n3 := at_cells (j := 3) xT rfl
      have fT := rw_cells xT
      go_upto_region 16 with fail
      have zT : (V4.setCell ⟨TT, 3, none⟩ (.int .u64 (x + 1))).heap[TT]? = some (Go.Obj.cells #[.int .i64 0, .bool false, .int .i64 0, .int .u64 (x + 1), .slice ra ys.length rc, .int .i64 s] 32 (0, 0)) := set_cells xT 3 _
      have uA := (heap_set V4 TT 3 A (.int .u64 (x + 1)) hTA).trans zA
      have uO := (heap_set V4 TT 3 O (.int .u64 (x + 1)) hTO).trans zO
      have ur := (zr.out.setOther (j := 3) (uw_ne zr.out xT (by decide)) (.int .u64 (x + 1))).bytes (by omega)
      have uq := (OwnW.setOther (j := 3) zq.out (uw_ne zq.out xT (by decide)) (.int .u64 (x + 1))).bytes (by have := hll.out; omega)
      have ub := bel_set (k := 3) zb hTW (.int .u64 (x + 1))
      generalize hV : V4.setCell _ _ = U
      rw [hV] at zT uA uO ur uq ub
      clear hV zA zO xT zr zq zb n3 fT g0 g1 g2 g3 g4 g5
      have K1 := Kp.mk (fun w lo lo' (h : Ints lo .u64 w (.slice ra ys.length rc) ys) (k : Ints lo' .u64 w (.slice a6 (ys.length + 1) k6) (ys ++ [5])) => refI 0 false 0 x _ ys s 0 false 0 x _ (ys ++ [5]) s w h k)
      have K2 := Kp.mk (fun w lo lo' (h : Ints lo .u64 w (.slice ra ys.length rc) ys) (k : Ints lo' .u64 w (.slice ra ys.length rc) ys) => refI 0 false 0 x _ ys s 0 false 0 (x + 1) _ ys s w h k)
      rw [refB_other] at K1
      rw [refB_third] at K2
      rw [hll.out] at uO
      have g0 := at_cells (j := 0) uA rfl
      have g1 := at_cells (j := 1) uA rfl
      have g2 := at_cells (j := 2) uA rfl
      have g3 := at_cells (j := 3) uA rfl
      have g4 := at_cells (j := 4) uA rfl
      have g5 := at_cells (j := 5) uA rfl
      have k0 := at_cells (j := 0) uO rfl
      have k1 := at_cells (j := 1) uO rfl
      have k2 := at_cells (j := 2) uO rfl
      have k3 := at_cells (j := 3) uO rfl
      have k4 := at_cells (j := 4) uO rfl
      have k5 := at_cells (j := 5) uO rfl
      go_wp2_with (first
        | (go_at_call 8; go_fit (K1.out _ _ _ ur uq); rintro r w8 ⟨rfl, c8⟩; have y1 := keep_cells uA c8; have y2 := keep_cells zT c8; have vr := ur.keep c8; have g0 := at_cells (j := 0) y1 rfl; have g1 := at_cells (j := 1) y1 rfl; have g2 := at_cells (j := 2) y1 rfl; have g3 := at_cells (j := 3) y1 rfl; have g4 := at_cells (j := 4) y1 rfl; have g5 := at_cells (j := 5) y1 rfl; have k0 := at_cells (j := 0) y2 rfl; have k1 := at_cells (j := 1) y2 rfl; have k2 := at_cells (j := 2) y2 rfl; have k3 := at_cells (j := 3) y2 rfl; have k4 := at_cells (j := 4) y2 rfl; have k5 := at_cells (j := 5) y2 rfl)
        | (go_at_call 8; go_fit (K2.out _ _ _ vr vr); rintro r w9 ⟨rfl, c9⟩; have c89 := bel_trans c8 c9))
      go_ret
      exact ⟨rfl, bel_trans ub c89⟩
end Go.Proofs.Ytbacbigcecmfbaa
