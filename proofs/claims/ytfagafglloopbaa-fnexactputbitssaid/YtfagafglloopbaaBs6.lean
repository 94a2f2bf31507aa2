/- The specification's writer: numbers in pieces. -/
import Derived.Test.YtfagafglloopbaaBs5
namespace Go.Proofs.Ytfagafglloopbaa
open Go.ChangeShapes Go.WideShapes Go.ChangeAt Go.RowKit
open Go.Sort (grow)
set_option linter.unusedVariables false
set_option linter.unusedSimpArgs false
theorem andMask (u : Int) (m : Nat) (hm : m ≤ 63) (h0 : 0 ≤ u) (h1 : u < 18446744073709551616) : bits .and .u64 u (2 ^ m - 1) = u % 2 ^ m := by
  have e : bits .and .u64 u (2 ^ m - 1) = IntKind.u64.wrap ((BitVec.ofInt 64 u &&& BitVec.ofInt 64 (2 ^ m - 1)).toNat : Int) := rfl
  obtain ⟨U, rfl⟩ := Int.eq_ofNat_of_zero_le h0
  have hp : (2 : Nat) ^ m ≤ 2 ^ 63 := Nat.pow_le_pow_right (by decide) hm
  have hp1 : 1 ≤ (2 : Nat) ^ m := Nat.one_le_two_pow
  have e3 : ((2 : Int) ^ m - 1) = ((2 ^ m - 1 : Nat) : Int) := by push_cast [hp1]; rfl
  have e2 : ((2 ^ 64 : Nat) : Int) = 18446744073709551616 := by decide
  rw [e, BitVec.toNat_and, BitVec.toNat_ofInt, BitVec.toNat_ofInt, e2, e3]
  have e4 : ((U : Int) % 18446744073709551616).toNat = U := by omega
  have e5 : ((((2 ^ m - 1 : Nat) : Int)) % 18446744073709551616).toNat = 2 ^ m - 1 := by omega
  rw [e4, e5, Nat.and_two_pow_sub_one_eq_mod]
  have e7 : ∀ z : Int, IntKind.u64.wrap z = z % 18446744073709551616 := fun z => by simp [IntKind.wrap, IntKind.bits, IntKind.signed]
  have hlt : U % 2 ^ m < 2 ^ m := Nat.mod_lt _ (by omega)
  have e8 : ((U : Int)) % 2 ^ m = ((U % 2 ^ m : Nat) : Int) := by push_cast; rfl
  rw [e7, e8]
  omega
theorem wrapMask (m : Nat) (hm : m ≤ 31) : IntKind.u64.wrap (IntKind.u64.wrap (2 ^ m) - 1) = 2 ^ m - 1 := by
  have e7 : ∀ z : Int, IntKind.u64.wrap z = z % 18446744073709551616 := fun z => by simp [IntKind.wrap, IntKind.bits, IntKind.signed]
  have hp : (2 : Nat) ^ m ≤ 2 ^ 31 := Nat.pow_le_pow_right (by decide) hm
  have hp1 : 1 ≤ (2 : Nat) ^ m := Nat.one_le_two_pow
  have e3 : ((2 : Int) ^ m) = ((2 ^ m : Nat) : Int) := by push_cast; rfl
  rw [e7, e7, e3]
  omega
theorem mod_bit (v : Int) (m i : Nat) (h : i < m) : v % 2 ^ m / 2 ^ i % 2 = v / 2 ^ i % 2 := by
  obtain ⟨j, rfl⟩ : ∃ j, m = i + (j + 1) := ⟨m - i - 1, by omega⟩
  have hp := pow_pos2 i
  have e := Int.mul_ediv_add_emod v (2 ^ (i + (j + 1)))
  have e1 : (2 : Int) ^ (i + (j + 1)) * (v / 2 ^ (i + (j + 1))) = (2 * (2 ^ j * (v / 2 ^ (i + (j + 1))))) * 2 ^ i := by
    rw [Int.pow_add, Int.pow_succ]
    generalize (2 : Int) ^ i = a
    generalize (2 : Int) ^ j = b
    generalize v / (a * (b * 2)) = c
    ac_rfl
  have e2 : v / 2 ^ i = v % 2 ^ (i + (j + 1)) / 2 ^ i + 2 * (2 ^ j * (v / 2 ^ (i + (j + 1)))) := by
    conv => lhs; rw [← e, e1, Int.add_comm, Int.add_mul_ediv_right _ _ (by omega)]
  rw [e2]
  omega
theorem putB_mod (xs : List Int) (c : Nat) (v : Int) (m i : Nat) (h : i ≤ m) : putB xs c (v % 2 ^ m) i = putB xs c v i := by
  induction i with
  | zero => rfl
  | succ i ih => simp only [putB]; rw [ih (by omega), mod_bit v m i (by omega)]
set_option maxRecDepth 100000 in
set_option maxHeartbeats 4000000 in
theorem piecesS (sv : Value) (ys : List Int) (k : Nat) (x : Int) (m base : Nat) (w : World) (hown : OwnB w base sv ys) (hs : Snd ys k) (x0 : 0 ≤ x) (x1 : x < 18446744073709551616) (m0 : 1 ≤ m) (m1 : m ≤ 31) (hk : k ≤ 70368744177664) (hbw : base ≤ w.heap.size) :
    Calls Try.prog 41 #[.agg #[sv, .int .i64 k], .int .u64 x, .int .i64 ((m : Int) + 1)] w fun e w' => ∃ v', e = .returned (.agg #[v', .int .i64 ((varL m 64 ys k x).2 : Int)]) ∧ OwnB w' base v' (varL m 64 ys k x).1 ∧ Below base w w' ∧ Out w w' := by
  obtain ⟨⟨zs, q⟩, hR⟩ : ∃ R, Kp (varL m 64 ys k x = R) := ⟨_, ⟨rfl⟩⟩
  rw [hR.out]
  dsimp only
  obtain ⟨sa, sc, rfl⟩ := hown.form
  have CB : Kp (∀ v zs q (u : Int) W, OwnB W base v zs → Snd zs q → 0 ≤ u → u < 18446744073709551616 → q ≤ 140737488355328 → base ≤ W.heap.size → Calls Try.prog 35 #[.agg #[v, .int .i64 (q : Nat)], .int .u64 u, .int .i64 m] W _) := ⟨fun v zs q u W h1 h2 h3 h4 h5 h6 => bitsS v zs q u m base W h1 h2 h3 h4 (by omega) h5 h6⟩
  have C : Kp (∀ v zs q b W, OwnB W base v zs → Snd zs q → 0 ≤ b → b ≤ 1 → q ≤ 281474976710656 → base ≤ W.heap.size → Calls Try.prog 43 #[.agg #[v, .int .i64 (q : Nat)], .int .u64 b] W _) := ⟨fun v zs q b W h1 h2 h3 h4 h5 h6 => pushS v zs q b base W h1 h2 h3 h4 h5 h6⟩
  have z1 : ((w.alloc (Go.Obj.cells #[.slice sa ys.length sc, .int .i64 k] 24 (0, 0))).alloc (Go.Obj.cells #[.slice none 0 0, .int .i64 0] 24 (0, 0))).heap[w.heap.size]? = some (Go.Obj.cells #[.slice sa ys.length sc, .int .i64 k] 24 (0, 0)) := keep_cells (new_cells w (Go.Obj.cells #[.slice sa ys.length sc, .int .i64 k] 24 (0, 0))) (bel_alloc _ (Go.Obj.cells #[.slice none 0 0, .int .i64 0] 24 (0, 0)))
  have z2 : ((w.alloc (Go.Obj.cells #[.slice sa ys.length sc, .int .i64 k] 24 (0, 0))).alloc (Go.Obj.cells #[.slice none 0 0, .int .i64 0] 24 (0, 0))).heap[w.heap.size + 1]? = some (Go.Obj.cells #[.slice none 0 0, .int .i64 0] 24 (0, 0)) := by
    have := new_cells (w.alloc (Go.Obj.cells #[.slice sa ys.length sc, .int .i64 k] 24 (0, 0))) (Go.Obj.cells #[.slice none 0 0, .int .i64 0] 24 (0, 0))
    rwa [World.size_alloc] at this
  have z3 : OwnB ((w.alloc (Go.Obj.cells #[.slice sa ys.length sc, .int .i64 k] 24 (0, 0))).alloc (Go.Obj.cells #[.slice none 0 0, .int .i64 0] 24 (0, 0))) base (.slice sa ys.length sc) ys := (hown.alloc _).alloc _
  have z4 := bel_trans (bel_alloc w (Go.Obj.cells #[.slice sa ys.length sc, .int .i64 k] 24 (0, 0))) (bel_alloc _ (Go.Obj.cells #[.slice none 0 0, .int .i64 0] 24 (0, 0)))
  obtain ⟨V, hV⟩ : ∃ V, V = (w.alloc (Go.Obj.cells #[.slice sa ys.length sc, .int .i64 k] 24 (0, 0))).alloc (Go.Obj.cells #[.slice none 0 0, .int .i64 0] 24 (0, 0)) := ⟨_, rfl⟩
  rw [← hV] at z1 z2 z3 z4
  have zo : Out w V := Out.below z4
  have zb : Below base w V := z4.mono hbw
  replace hs := Kp.mk hs
  clear hown z4
  go_enter Try.func41, Try.ntmps41
  go_upto_region 1 with fail
  rw [← hV]
  clear hV
  go_loopw [1, 7] (fun s _ wr => ∃ (f : Nat) (u : Int) (k : Nat) (ys : List Int) (sv : Value), s = .int .u64 u ∧ (f ≤ 64 ∧ 0 ≤ u ∧ u < 18446744073709551616) ∧ Kp (u < 2 ^ f) ∧ Kp (k + f * 33 ≤ 70368744177664 + 64 * 33) ∧ Kp (varL m f ys k u = (zs, q)) ∧ Kp (Snd ys k) ∧ Kp (wr.heap[w.heap.size]? = some (Go.Obj.cells #[sv, .int .i64 k] 24 (0, 0))) ∧ Kp (wr.heap[w.heap.size + 1]? = some (Go.Obj.cells #[.slice none 0 0, .int .i64 0] 24 (0, 0))) ∧ Kp (OwnB wr base sv ys) ∧ Below base w wr ∧ Kp (Out w wr)) (fun s _ _ => (intOf s).toNat)
  case atStart => exact ⟨64, x, k, ys, _, rfl, ⟨by omega, x0, x1⟩, ⟨by simpa using x1⟩, ⟨by omega⟩, hR, hs, ⟨z1⟩, ⟨z2⟩, ⟨z3⟩, zb, ⟨zo⟩⟩
  case round =>
    clear z1 z2 z3 zb zo hs hR hk
    obtain ⟨f, u, k, ys, sv, rfl, ⟨f64, u0, u1⟩, uf, hk, hV, hS, hX1, hX2, hO, hB, hOu⟩ := hrel
    obtain ⟨ga, gc, rfl⟩ := hO.out.form
    have hsz := (Array.getElem?_eq_some_iff.1 hX2.out).1
    have y0 : wr.cell? ⟨w.heap.size, 0, none⟩ = some (.slice ga ys.length gc) := at_cells hX1.out rfl
    have y1 : wr.cell? ⟨w.heap.size, 1, none⟩ = some (.int .i64 k) := at_cells hX1.out rfl
    have f0 := rw_cells hX1.out
    have y2 : wr.cell? ⟨w.heap.size + 1, 0, none⟩ = some (.slice none 0 0) := at_cells hX2.out rfl
    have y3 : wr.cell? ⟨w.heap.size + 1, 1, none⟩ = some (.int .i64 0) := at_cells hX2.out rfl
    have f2 := rw_cells hX2.out
    have hmask := Kp.mk (andMask u m (by omega) u0 u1)
    have hpm := pow_pos2 m
    have hkb := hk.out
    have hpb : (2 : Int) ^ m ≤ 2147483648 := by
      have := Nat.pow_le_pow_right (n := 2) (by decide) m1
      have e3 : ((2 : Int) ^ m) = ((2 ^ m : Nat) : Int) := by push_cast; rfl
      rw [e3]
      omega
    have hmod := Int.emod_lt_of_pos u hpm
    have G1 := CB.out _ ys k (u % 2 ^ m) wr hO.out hS.out (Int.emod_nonneg _ (by omega)) (by omega) (by omega) (by omega)
    rw [putB_mod _ _ _ _ _ (Nat.le_refl m)] at G1
    obtain ⟨ps, hps⟩ : ∃ ps, Kp (ps = putB ys k u m) := ⟨_, ⟨rfl⟩⟩
    obtain ⟨pk, hpk⟩ : ∃ pk, Kp (pk = k + m) := ⟨_, ⟨rfl⟩⟩
    rw [← hps.out, ← hpk.out] at G1
    have hSp : Snd ps pk := by rw [hps.out, hpk.out]; exact hS.out.put u m
    have hpkb : pk ≤ 70368744180000 := by rw [hpk.out]; omega
    replace G1 := Kp.mk G1
    go_upto_region 3 with fail
    rw [hmask.out]
    go_upto_region 4 with (go_at_call 35; refine G1.out.mono ?_; rintro e w1 ⟨v1, rfl, O1, B1, o1⟩; obtain ⟨g1, c1, rfl⟩ := O1.form; have r1 := o1 _ _ _ hX1.out (by decide); have r2 := o1 _ _ _ hX2.out (by decide); have p0 : w1.cell? ⟨w.heap.size, 0, none⟩ = some (.slice ga ys.length gc) := at_cells r1 rfl; have p1 : w1.cell? ⟨w.heap.size, 1, none⟩ = some (.int .i64 k) := at_cells r1 rfl; have p2 := rw_cells r1)
    have hn1 := u8_ne O1 r1 (by decide)
    have s1 := set_cells (set_cells r1 0 (.slice g1 ps.length c1)) 1 (.int .i64 pk)
    have s2 := (heap_set (w1.setCell ⟨w.heap.size, 0, none⟩ (.slice g1 ps.length c1)) w.heap.size 1 (w.heap.size + 1) (.int .i64 pk) (by omega)).trans ((heap_set w1 w.heap.size 0 (w.heap.size + 1) (.slice g1 ps.length c1) (by omega)).trans r2)
    have s3 := (O1.setOther (j := 0) hn1 (.slice g1 ps.length c1)).setOther (j := 1) hn1 (.int .i64 pk)
    have s4 := bel_set (k := 1) (bel_set (k := 0) (hB.trans B1) hbw (.slice g1 ps.length c1)) hbw (.int .i64 pk)
    have s5 := ((hOu.out.trans o1).set w.heap.size 0 (.slice g1 ps.length c1) (Nat.le_refl _)).set w.heap.size 1 (.int .i64 pk) (Nat.le_refl _)
    obtain ⟨W, hW⟩ : ∃ W, W = (w1.setCell ⟨w.heap.size, 0, none⟩ (.slice g1 ps.length c1)).setCell ⟨w.heap.size, 1, none⟩ (.int .i64 pk) := ⟨_, rfl⟩
    rw [← hW] at s1 s2 s3 s4 s5 ⊢
    have t0 : W.cell? ⟨w.heap.size, 0, none⟩ = some (.slice g1 ps.length c1) := at_cells s1 rfl
    have t1 : W.cell? ⟨w.heap.size, 1, none⟩ = some (.int .i64 pk) := at_cells s1 rfl
    have wsz := (Array.getElem?_eq_some_iff.1 s2).1
    clear y0 y1 f0 y2 y3 f2 hW hn1 r1 r2 p0 p1 p2 O1 o1 B1 G1 hX1 hX2 hO hOu hB CB hmask
    by_cases hz : u / 2 ^ m = 0
    · have hzb : (u / 2 ^ m == 0) = true := by simp [hz]
      have er : pushB ps pk 0 = zs ∧ pk + 1 = q := by
        have e := hV.out
        cases f with
        | zero => simp only [varL] at e; injection e with e1 e2; rw [hps.out, hpk.out]; exact ⟨e1, e2⟩
        | succ f => simp only [varL, if_pos hz] at e; injection e with e1 e2; rw [hps.out, hpk.out]; exact ⟨e1, e2⟩
      have G2 := C.out _ ps pk 0 W s3 hSp (by decide) (by decide) (by omega) (by omega)
      rw [er.1] at G2
      have eq : Kp ((pk : Int) + 1 = (q : Int)) := ⟨by rw [← er.2]; push_cast; rfl⟩
      rw [eq.out] at G2
      replace G2 := Kp.mk G2
      clear er C hps hpk hSp hV
      go_wp2_with (go_at_call 43; refine G2.out.mono ?_; rintro e w2 ⟨v2, rfl, O2, B2, o2⟩; obtain ⟨g2, c2, rfl⟩ := O2.form; have r2 := o2 _ _ _ s2 (by decide); have p0 : w2.cell? ⟨w.heap.size + 1, 0, none⟩ = some (.slice none 0 0) := at_cells r2 rfl; have p1 : w2.cell? ⟨w.heap.size + 1, 1, none⟩ = some (.int .i64 0) := at_cells r2 rfl; have p2 := rw_cells r2)
      have hn2 := u8_ne O2 r2 (by decide)
      have zz := set_cells (set_cells r2 0 (.slice g2 zs.length c2)) 1 (.int .i64 q)
      have zo := Kp.mk ((O2.setOther (j := 0) hn2 (.slice g2 zs.length c2)).setOther (j := 1) hn2 (.int .i64 q))
      have zb := bel_set (k := 1) (bel_set (k := 0) (s4.trans B2) (show base ≤ w.heap.size + 1 by omega) (.slice g2 zs.length c2)) (show base ≤ w.heap.size + 1 by omega) (.int .i64 q)
      have zu := Kp.mk (((s5.trans o2).set (w.heap.size + 1) 0 (.slice g2 zs.length c2) (by omega)).set (w.heap.size + 1) 1 (.int .i64 q) (by omega))
      obtain ⟨Z, hZ⟩ : ∃ Z, Z = (w2.setCell ⟨w.heap.size + 1, 0, none⟩ (.slice g2 zs.length c2)).setCell ⟨w.heap.size + 1, 1, none⟩ (.int .i64 q) := ⟨_, rfl⟩
      rw [← hZ] at zz zo zb zu ⊢
      have z0 : Z.cell? ⟨w.heap.size + 1, 0, none⟩ = some (.slice g2 zs.length c2) := at_cells zz rfl
      have z1 : Z.cell? ⟨w.heap.size + 1, 1, none⟩ = some (.int .i64 q) := at_cells zz rfl
      exact bodyPost_ret (v := .agg #[.slice g2 zs.length c2, .int .i64 q]) (by simp [results, Try.results41, go_sem, z0, z1]) rfl ⟨_, rfl, zo.out, zb, zu.out⟩
    · have hzb : (u / 2 ^ m == 0) = false := by simp [hz]
      obtain ⟨f, rfl⟩ : ∃ f', f = f' + 1 := by
        cases f with
        | zero =>
          exfalso
          have := uf.out
          obtain rfl : u = 0 := by simp at this; omega
          simp at hz
        | succ f => exact ⟨f, rfl⟩
      have hlt := half_lt u0 uf.out m0
      have hn1 : Kp (pk + 1 + f * 33 ≤ 70368744177664 + 64 * 33) := ⟨by rw [hpk.out]; omega⟩
      have hn2 : Kp (varL m f (pushB ps pk 1) (pk + 1) (u / 2 ^ m) = (zs, q)) := ⟨by rw [← hV.out, varL, if_neg hz, hps.out, hpk.out]⟩
      have hn3 : Kp (Snd (pushB ps pk 1) (pk + 1)) := ⟨hSp.push (by decide) (by decide)⟩
      have hn4 : Kp (u / 2 ^ m < 2 ^ f) := ⟨hlt.2⟩
      have hn5 : 0 ≤ u / 2 ^ m ∧ u / 2 ^ m < u := by
        have hu : u ≠ 0 := by rintro rfl; simp at hz
        refine ⟨hlt.1, Int.ediv_lt_of_lt_mul (pow_pos2 m) ?_⟩
        have h3 : u * 2 ≤ u * 2 ^ m := Int.mul_le_mul_of_nonneg_left (two_le_pow m0) u0
        omega
      have G2 := C.out _ ps pk 1 W s3 hSp (by decide) (by decide) (by omega) (by omega)
      obtain ⟨ns, hns⟩ : ∃ ns, Kp (ns = pushB ps pk 1) := ⟨_, ⟨rfl⟩⟩
      rw [← hns.out] at G2 hn2 hn3
      obtain ⟨nk, hnk⟩ : ∃ nk, Kp (nk = pk + 1) := ⟨_, ⟨rfl⟩⟩
      have ek : Kp ((pk : Int) + 1 = (nk : Int)) := ⟨by rw [hnk.out]; push_cast; rfl⟩
      rw [← hnk.out] at hn1 hn2 hn3
      rw [ek.out] at G2
      replace G2 := Kp.mk G2
      have hu1 : u / 2 ^ m < 18446744073709551616 := by omega
      clear C hps hpk hSp hV hlt uf hk hkb
      go_wp2_with (go_at_call 43; refine G2.out.mono ?_; rintro e w2 ⟨v2, rfl, O2, B2, o2⟩; obtain ⟨g2, c2, rfl⟩ := O2.form; have r1 := o2 _ _ _ s1 (by decide); have r2 := o2 _ _ _ s2 (by decide); have p0 : w2.cell? ⟨w.heap.size, 0, none⟩ = some (.slice g1 ps.length c1) := at_cells r1 rfl; have p1 : w2.cell? ⟨w.heap.size, 1, none⟩ = some (.int .i64 pk) := at_cells r1 rfl; have p2 := rw_cells r1)
      have hm1 := u8_ne O2 r1 (by decide)
      have hfin := Kp.mk (set_cells (set_cells r1 0 (.slice g2 ns.length c2)) 1 (.int .i64 nk))
      refine ⟨⟨f, u / 2 ^ m, nk, ns, .slice g2 ns.length c2, rfl, ⟨by omega, hn5.1, hu1⟩, hn4, hn1, hn2, hn3, ⟨hfin.out⟩, ⟨?_⟩, ⟨(O2.setOther hm1 _).setOther hm1 _⟩, bel_set (bel_set (s4.trans B2) hbw _) hbw _, ⟨((s5.trans o2).set _ _ _ (Nat.le_refl _)).set _ _ _ (Nat.le_refl _)⟩⟩, by simp [intOf]; omega⟩
      rw [heap_set _ _ _ _ _ (by omega), heap_set _ _ _ _ _ (by omega)]
      exact r2
end Go.Proofs.Ytfagafglloopbaa
