/- Draws: an outcome. -/
import Derived.Test.YtbacbigcecmfbaaDr2
import Derived.Test.YtbacbigcecmfbaaRf5
import Derived.Deep.RegionWith
import Derived.Deep.RegionLaw
namespace Go.Proofs.Ytbacbigcecmfbaa
open Go.ChangeShapes Go.WideShapes Go.ChangeAt Go.RowKit
open Go.Sort (grow)
set_option linter.unusedVariables false
set_option linter.unusedSimpArgs false
theorem step_append_run {P : Program} {ops : Array Oper} {o : Oper} {a : Act} {w w' : World} {K : Act → World → Prop} {Q : Exit → Act → World → Prop} {E : Prop} {v u v' : Value}
    (hg : o.guard = none) (s x : Operand) (t : TypeId) (hop : o.op = Op.call { callee := Callee.builtin Builtin.append, args := #[s, x], argTypes := #[t, t] })
    (hs : a.eval s = v) (hx : a.eval x = u) (hrun : (Builtin.append_ #[t, t] o.type #[v, u]).run P w = .ok v' w') (hK : K (a.put o.dst v') w') :
    if Region.wanted o (yielded ops a.tmps) = true then Oper.wp P o a w K Q else E := by
  have hw : Region.wanted o (yielded ops a.tmps) = true := by simp [Region.wanted, hg]
  rw [if_pos hw]
  unfold Oper.wp
  simp [execOp, hop, resolve, invoke, builtin, hs, hx, hrun, Result.andThen]
  exact hK
theorem uw_ne {w : World} {base B n : Nat} {v : Value} {xs : List Value} {arr : Array Value} {T : TypeId} (h : w.ownsRow base 22 1 v n xs) (hb : w.heap[B]? = some (Go.Obj.cells arr T (0, 0))) (hT : T ≠ 22) : v.ownBlock ≠ some B := fun e => by
  rcases h.2 with ⟨rfl, _⟩ | ⟨g, cap, cur, rfl, _, hg, _⟩
  · cases e
  · simp only [Value.ownBlock, Option.some.injEq] at e
    subst e
    rw [hg] at hb
    injection hb with hb
    injection hb with h1 h2
    exact hT h2.symm
theorem Asd.grown {S : Nat} {w0 w w' : World} {row : Option Nat} (h : Asd S w0 w) (hg : w.grownBy w' row) (hr : ∀ k, row = some k → w0.heap.size ≤ k) : Asd S w0 w' := by
  obtain ⟨g1, g2, g3, g4, g5⟩ := hg
  refine ⟨g1.trans h.os, g2.trans h.tape, g3.trans h.output, Nat.le_trans h.size g4, fun k hk hn => ?_⟩
  exact (g5 k (Nat.lt_of_lt_of_le hk h.size) (fun e => absurd (hr k e.symm) (by omega))).trans (h.block k hk hn)
theorem grown_cells {w w' : World} {row : Option Nat} (hg : w.grownBy w' row) {b : Nat} {o : Obj} (h : w.heap[b]? = some o) (hn : row ≠ some b) : w'.heap[b]? = some o :=
  (hg.block b (Array.getElem?_eq_some_iff.1 h).1 (fun e => hn e.symm)).trans h
theorem OwnW.asd {S : Nat} {w w' : World} {base : Nat} {v : Value} {xs : List Int} (h : OwnW w base v xs) (ha : Asd S w w') (hn : v.ownBlock ≠ some S) : OwnW w' base v xs :=
  h.same (fun g hg => ha.block g (h.lt g hg).2 (fun e => hn (by rw [hg, e])))
theorem OwnW.setOther {w : World} {base B j : Nat} {v : Value} {xs : List Int} (h : OwnW w base v xs) (hn : v.ownBlock ≠ some B) (u : Value) : OwnW (w.setCell ⟨B, j, none⟩ u) base v xs :=
  h.same (fun g hg => heap_set _ _ _ _ _ (fun e => hn (by rw [hg, e])))
theorem Asd.setNew {S B j : Nat} {w w' : World} (h : Asd S w w') (hB : w.heap.size ≤ B) (x : Value) : Asd S w (w'.setCell ⟨B, j, none⟩ x) :=
  ⟨h.os, h.tape, h.output, by rw [World.size_setCell]; exact h.size, fun i hi hn => (heap_set _ _ _ _ _ (by omega)).trans (h.block i hi hn)⟩
set_option maxRecDepth 100000 in
set_option maxHeartbeats 8000000 in
theorem outcomeS (S : Nat) (v : Value) (xs : List Int) (p q : Int) (w : World) (h : Src w S v xs p q) (hp : p ≤ 1000000) :
    Calls Try.prog 20 #[.pointer (some ⟨S, 0, none⟩)] w fun r w' => ∃ (e : Int) (b : Bool) (o x : Int) (vr : Value) (ys : List Int) (s : Int), r = .returned (.agg #[.int .i64 e, .bool b, .int .i64 o, .int .u64 x, vr, .int .i64 s]) ∧ 0 ≤ x ∧ x ≤ 2 ∧ ys.length ≤ 3 ∧ OwnW w' w.heap.size vr ys ∧ Asd S w w' ∧ ∃ p' : Int, p' ≤ p + 16 ∧ Src w' S v xs p' q := by
  have hS := h.lt
  have h0 := h.pos
  obtain ⟨i0, hi0, hz0, hz1, hz2⟩ := info_parts infoW
  obtain ⟨va, vc, rfl⟩ := h.slice
  have b0 := bel_alloc w (Go.Obj.cells #[.int .i64 0, .bool false, .int .i64 0, .int .u64 0, .slice none 0 0, .int .i64 0] 32 (0, 0))
  have n0 := new_cells w (Go.Obj.cells #[.int .i64 0, .bool false, .int .i64 0, .int .u64 0, .slice none 0 0, .int .i64 0] 32 (0, 0))
  have C1 := Kp.mk (nextS S _ xs p q 8 _ (h.keep b0) (by omega) (by decide) (by decide))
  have C2 := Kp.mk (fun W (hs : Src W S (.slice va xs.length vc) xs (p + 1) q) => nextS S _ xs (p + 1) q 9 W hs (by omega) (by decide) (by decide))
  have C3 := Kp.mk (fun W (hs : Src W S (.slice va xs.length vc) xs (p + 1 + 1) q) => nextS S _ xs (p + 1 + 1) q 4 W hs (by omega) (by decide) (by decide))
  have HS := Kp.mk h
  clear h
  go_enter Try.func20, Try.ntmps20
  go_upto_region 2 with (first
    | (go_at_call 22; go_fit C1.out; rintro r w1 ⟨e, rfl, hd1, ha1, hs1⟩)
    | (go_at_call 22; go_fit (C2.out _ hs1); rintro r w2 ⟨s, rfl, hd2, ha2, hs2⟩))
  have A2 : Asd S w w2 := (Below.asd b0 S).trans (ha1.trans ha2)
  have m0 : w2.heap[w.heap.size]? = some (Go.Obj.cells #[.int .i64 0, .bool false, .int .i64 0, .int .u64 0, .slice none 0 0, .int .i64 0] 32 (0, 0)) := (ha1.trans ha2).cells n0 (by omega)
  clear C1 C2 hd1 hd2 ha1 ha2 hs1 b0 n0
  have m1 := new_cells w2 (Go.Obj.cells #[.int .i64 e, .bool false, .int .i64 0, .int .u64 0, .slice none 0 0, .int .i64 s] 32 (0, 0))
  have b2 := bel_alloc w2 (Go.Obj.cells #[.int .i64 e, .bool false, .int .i64 0, .int .u64 0, .slice none 0 0, .int .i64 s] 32 (0, 0))
  have hs12 : Kp (w.heap.size < w2.heap.size) := ⟨(Array.getElem?_eq_some_iff.1 m0).1⟩
  replace m0 := keep_cells m0 b2
  replace A2 := A2.trans (Below.asd b2 S)
  replace hs2 := hs2.keep b2
  generalize w2.alloc (Go.Obj.cells #[.int .i64 e, .bool false, .int .i64 0, .int .u64 0, .slice none 0 0, .int .i64 s] 32 (0, 0)) = V at *
  obtain ⟨B, hB⟩ : ∃ B, B = w2.heap.size := ⟨_, rfl⟩
  rw [← hB] at m1 hs12 ⊢
  clear hB b2
  have BS : B ≠ S := by have := hs12.out; omega
  have hS0 : w.heap.size ≠ S := by omega
  go_upto_region 3 with (go_at_call 22; go_fit (C3.out _ hs2); rintro r w3 ⟨c, rfl, hd3, ha3, hs3⟩)
  replace A2 := A2.trans ha3
  replace m0 := ha3.cells m0 (by omega)
  replace m1 := ha3.cells m1 BS
  obtain ⟨hc0, hc1⟩ := hd3
  replace hc1 := hc1 (by decide)
  clear C3 hs2 ha3
  go_loopw [4] (fun sl wr => ∃ (i : Int) (vr : Value) (ys : List Int) (p' : Int), sl = .int .i64 i ∧ 0 ≤ i ∧ wr.heap[B]? = some (Go.Obj.cells #[.int .i64 e, .bool false, .int .i64 0, .int .u64 0, vr, .int .i64 s] 32 (0, 0)) ∧ wr.heap[w.heap.size]? = some (Go.Obj.cells #[.int .i64 0, .bool false, .int .i64 0, .int .u64 0, .slice none 0 0, .int .i64 0] 32 (0, 0)) ∧ Kp (OwnW wr w.heap.size vr ys) ∧ ys.length + i ≤ 3 ∧ Asd S w wr ∧ p' + i ≤ p + 6 ∧ Src wr S (.slice va xs.length vc) xs p' q) (fun sl _ => (intOf sl).toNat)
  case atStart =>
    exact ⟨c, .slice none 0 0, [], _, rfl, hc0, m1, m0, ⟨⟨rfl, .inl ⟨rfl, rfl⟩⟩⟩, by simp; omega, A2, by omega, hs3⟩
  case round =>
    clear m0 m1 A2 hs3 hc0 hc1
    obtain ⟨i, vr, ys, p', rfl, hi, m1, m0, hO, hl, A2, hp', hs⟩ := hrel
    obtain ⟨ra, rc, rfl⟩ := hO.out.form
    by_cases h1 : 0 < i
    · go_upto_region 5 with fail
      have hBD := (Below.refl wr.heap.size wr).drew
      have m1D := keep_cells m1 hBD
      have sD := hs.keep hBD
      have AD := A2.trans (Below.asd hBD S)
      have OD := Kp.mk (hO.out.keep hBD)
      have m0D := keep_cells m0 hBD
      have cD : wr.drew.cell? ⟨B, 4, none⟩ = some (.slice ra ys.length rc) := at_cells m1D rfl
      clear m0 m1 hs A2 hO
      go_region_law (first
        | (go_simp; go_at_call 22; go_fit (nextS S _ xs p' q 3 _ sD (by omega) (by decide) (by decide)); rintro r w4 ⟨t, rfl, hd4, ha4, hs4⟩; have m14 := ha4.cells m1D BS; have m04 := ha4.cells m0D (by omega); have A4 := AD.trans ha4; have c4 : w4.cell? ⟨B, 4, none⟩ = some (.slice ra ys.length rc) := at_cells m14 rfl; have O4 : OwnW w4 w.heap.size (.slice ra ys.length rc) ys := OD.out.asd ha4 (uw_ne OD.out sD.box (by decide)); have b45 := bel_alloc w4 (Go.Obj.cells #[.int .u64 (IntKind.u64.wrap t)] 22 (0, 0)); have c5 : (w4.alloc (Go.Obj.cells #[.int .u64 (IntKind.u64.wrap t)] 22 (0, 0))).cell? ⟨B, 4, none⟩ = some (.slice ra ys.length rc) := at_keep c4 b45; have hw4 : w.heap.size < w4.heap.size := (Array.getElem?_eq_some_iff.1 m04).1; obtain ⟨v5, w5, hrun, hown, hgrow⟩ := run_append_vals (P := Try.prog) (w4.alloc (Go.Obj.cells #[.int .u64 (IntKind.u64.wrap t)] 22 (0, 0))) w.heap.size 25 25 22 i0 (.int .u64 0) 1 8 Try.underlying25 hi0 hz0 hz1 hz2 rfl (by decide) _ _ _ (World.ownsRow.alloc O4 _) (some ⟨w4.heap.size, 0, none⟩) w4.heap.size 0 1 1 [.int .u64 (IntKind.u64.wrap t)] (fun _ => rfl) rfl (one_new w4 _ _) one_cell (by unfold maxLen; omega) (by omega) (by rw [World.size_alloc]; omega); have O5 : OwnW w5 w.heap.size v5 (ys ++ [IntKind.u64.wrap t]) := by { unfold OwnW; simpa using hown }; have hn4 : ∀ b, b < w4.heap.size → (∃ arr T, w4.heap[b]? = some (Go.Obj.cells arr T (0, 0)) ∧ T ≠ 22) → (Value.slice ra ys.length rc).ownBlock ≠ some b := fun b _ ⟨arr, T, h1, h2⟩ => uw_ne O4 h1 h2; have m15 := grown_cells hgrow (keep_cells m14 b45) (hn4 _ (Array.getElem?_eq_some_iff.1 m14).1 ⟨_, _, m14, by decide⟩); have m05 := grown_cells hgrow (keep_cells m04 b45) (hn4 _ hw4 ⟨_, _, m04, by decide⟩); have s5 := grown_cells hgrow (keep_cells hs4.box b45) (hn4 _ hs4.lt ⟨_, _, hs4.box, by decide⟩); have A5 : Asd S w w5 := (A4.trans (Below.asd b45 S)).grown hgrow (fun k hk => (O4.lt k hk).1); have hs5 : Src w5 S (.slice va xs.length vc) xs (p' + 1) q := HS.out.move A5 s5 hs4.pos; obtain ⟨a5, k5, e5⟩ := O5.form; subst e5; replace O5 := Kp.mk O5; replace hrun := Kp.mk hrun; have c6 : w5.cell? ⟨B, 4, none⟩ = some (.slice ra ys.length rc) := at_cells m15 rfl; have f6 := rw_cells m15; clear hown hgrow hn4 hs4 O4 b45 ha4 m14 m04 A4; dsimp only)
        | (refine step_append_run rfl (.tmp 17) (.tmp 21) 25 rfl (by simp [Act.eval, Act.put]) (by simp [Act.eval, Act.put]) hrun.out ?_))
      all_goals
        have z1 := set_cells m15 4 (.slice a5 (ys ++ [IntKind.u64.wrap t]).length k5)
        have z0 := (heap_set w5 B 4 w.heap.size (.slice a5 (ys ++ [IntKind.u64.wrap t]).length k5) (by have := hs12.out; omega)).trans m05
        have zS := (heap_set w5 B 4 S (.slice a5 (ys ++ [IntKind.u64.wrap t]).length k5) BS).trans s5
        have zO : Kp (OwnW _ _ _ _) := ⟨O5.out.setOther (j := 4) (uw_ne O5.out m15 (by decide)) (.slice a5 (ys ++ [IntKind.u64.wrap t]).length k5)⟩
        have zA := A5.setNew (B := B) (j := 4) (by have := hs12.out; omega) (.slice a5 (ys ++ [IntKind.u64.wrap t]).length k5)
        rw [show (ys ++ [IntKind.u64.wrap t]).length = ys.length + 1 by simp] at z1 z0 zS zA zO
        generalize w5.setCell ⟨B, 4, none⟩ (.slice a5 (ys.length + 1) k5) = Z at *
        have zs : Src Z S (.slice va xs.length vc) xs (p' + 1) q := HS.out.move zA zS hs5.pos
        have hlen : ((ys ++ [IntKind.u64.wrap t]).length : Int) + (i - 1) ≤ 3 := by simp; omega
        clear m15 m05 s5 O5 A5 hs5 c6 f6 c5 c4 hrun m1D m0D sD AD OD cD zS
        go_wp2_with fail
        exact ⟨⟨i - 1, _, _, p' + 1, by go_num, by omega, z1, z0, zO, hlen, zA, by omega, zs⟩, by simp [intOf]; omega⟩
    · have hi0' : i ≤ 0 := by omega
      clear h1
      go_upto_region 6 with fail
      have c0 : wr.cell? ⟨B, 0, none⟩ = some (.int .i64 e) := at_cells m1 rfl
      by_cases he : e = 0
      · have he' : (e == 0) = true := by simp [he]
        have hq := hs.pos
        have C4 := Kp.mk (nextS S _ xs p' q 3 _ hs (by omega) (by decide) (by decide))
        have C5 := Kp.mk (fun W (hs : Src W S (.slice va xs.length vc) xs (p' + 1) q) => nextS S _ xs (p' + 1) q 4 W hs (by omega) (by decide) (by decide))
        replace he := Kp.mk he
        go_upto_region 7 with fail
        go_wp2_with (go_at_call 22; go_fit C4.out; rintro r w4 ⟨t, rfl, hd4, ha4, hs4⟩; obtain ⟨d0, d1⟩ := hd4; replace d1 := d1 (by decide))
        have hA := new_cells w4 (Go.Obj.cells #[.bool false, .int .i64 0, .int .u64 t, .bool true, .int .i64 0, .int .u64 0, .bool false, .int .i64 1, .int .u64 2, .bool false, .int .i64 0, .int .u64 0] 30 (0, 0))
        have bA := bel_alloc w4 (Go.Obj.cells #[.bool false, .int .i64 0, .int .u64 t, .bool true, .int .i64 0, .int .u64 0, .bool false, .int .i64 1, .int .u64 2, .bool false, .int .i64 0, .int .u64 0] 30 (0, 0))
        generalize w4.alloc (Go.Obj.cells #[.bool false, .int .i64 0, .int .u64 t, .bool true, .int .i64 0, .int .u64 0, .bool false, .int .i64 1, .int .u64 2, .bool false, .int .i64 0, .int .u64 0] 30 (0, 0)) = W5 at *
        obtain ⟨A, hAe⟩ : ∃ A, A = w4.heap.size := ⟨_, rfl⟩
        rw [← hAe] at hA ⊢
        have hAS : A ≠ S := by have := hs4.lt; omega
        refine (C5.out _ (hs4.keep bA)).mono ?_
        rintro r w6 ⟨u, rfl, hd6, ha6, hs6⟩
        obtain ⟨d2, d3⟩ := hd6
        replace d3 := d3 (by decide)
        have hu : u = 0 ∨ u = 1 ∨ u = 2 ∨ u = 3 := by omega
        have a46 := (ha4.trans (Below.asd bA S)).trans ha6
        replace hA := ha6.cells hA hAS
        have A6 := A2.trans a46
        have m16 := a46.cells m1 BS
        have m06 := a46.cells m0 (by omega)
        have O6 : OwnW w6 w.heap.size (.slice ra ys.length rc) ys := hO.out.asd a46 (uw_ne hO.out hs.box (by decide))
        have hnB := uw_ne O6 m16 (by decide)
        have hB0 : B ≠ w.heap.size := by have := hs12.out; omega
        have hB1 : w.heap.size ≤ B := by have := hs12.out; omega
        clear C4 C5 ha4 bA ha6 hAe a46 m1 m0 hO A2 c0 he'
        have g0 : w6.cell? ⟨A, 0, none⟩ = some (.bool false) := at_cells hA rfl
        have g1 : w6.cell? ⟨A, 1, none⟩ = some (.int .i64 0) := at_cells hA rfl
        have g2 : w6.cell? ⟨A, 2, none⟩ = some (.int .u64 t) := at_cells hA rfl
        have g3 : w6.cell? ⟨A, 3, none⟩ = some (.bool true) := at_cells hA rfl
        have g4 : w6.cell? ⟨A, 4, none⟩ = some (.int .i64 0) := at_cells hA rfl
        have g5 : w6.cell? ⟨A, 5, none⟩ = some (.int .u64 0) := at_cells hA rfl
        have g6 : w6.cell? ⟨A, 6, none⟩ = some (.bool false) := at_cells hA rfl
        have g7 : w6.cell? ⟨A, 7, none⟩ = some (.int .i64 1) := at_cells hA rfl
        have g8 : w6.cell? ⟨A, 8, none⟩ = some (.int .u64 2) := at_cells hA rfl
        have g9 : w6.cell? ⟨A, 9, none⟩ = some (.bool false) := at_cells hA rfl
        have g10 : w6.cell? ⟨A, 10, none⟩ = some (.int .i64 0) := at_cells hA rfl
        have g11 : w6.cell? ⟨A, 11, none⟩ = some (.int .u64 0) := at_cells hA rfl
        have k0 : w6.cell? ⟨B, 0, none⟩ = some (.int .i64 e) := at_cells m16 rfl
        have k1 : w6.cell? ⟨B, 1, none⟩ = some (.bool false) := at_cells m16 rfl
        have k2 : w6.cell? ⟨B, 2, none⟩ = some (.int .i64 0) := at_cells m16 rfl
        have k3 : w6.cell? ⟨B, 3, none⟩ = some (.int .u64 0) := at_cells m16 rfl
        have k4 : w6.cell? ⟨B, 4, none⟩ = some (.slice ra ys.length rc) := at_cells m16 rfl
        have k5 : w6.cell? ⟨B, 5, none⟩ = some (.int .i64 s) := at_cells m16 rfl
        have f6 := rw_cells m16
        rcases hu with rfl | rfl | rfl | rfl
        · go_upto_region 8 with fail
          have z1 := set_cells (set_cells (set_cells m16 1 (.bool false)) 2 (.int .i64 0)) 3 (.int .u64 t)
          have z0 := (heap_set ((w6.setCell ⟨B, 1, none⟩ (.bool false)).setCell ⟨B, 2, none⟩ (.int .i64 0)) B 3 w.heap.size (.int .u64 t) hB0).trans ((heap_set (w6.setCell ⟨B, 1, none⟩ (.bool false)) B 2 w.heap.size (.int .i64 0) hB0).trans ((heap_set w6 B 1 w.heap.size (.bool false) hB0).trans m06))
          have zS := (heap_set ((w6.setCell ⟨B, 1, none⟩ (.bool false)).setCell ⟨B, 2, none⟩ (.int .i64 0)) B 3 S (.int .u64 t) BS).trans ((heap_set (w6.setCell ⟨B, 1, none⟩ (.bool false)) B 2 S (.int .i64 0) BS).trans ((heap_set w6 B 1 S (.bool false) BS).trans hs6.box))
          have zO : Kp (OwnW _ _ _ _) := ⟨((O6.setOther (j := 1) hnB (.bool false)).setOther (j := 2) hnB (.int .i64 0)).setOther (j := 3) hnB (.int .u64 t)⟩
          have zA := ((A6.setNew (B := B) (j := 1) hB1 (.bool false)).setNew (B := B) (j := 2) hB1 (.int .i64 0)).setNew (B := B) (j := 3) hB1 (.int .u64 t)
          generalize ((w6.setCell ⟨B, 1, none⟩ (.bool false)).setCell ⟨B, 2, none⟩ (.int .i64 0)).setCell ⟨B, 3, none⟩ (.int .u64 t) = Z at *
          have zs := HS.out.move zA zS hs6.pos
          clear hA hs6 A6 m16 m06 O6 hnB f6 zS g0 g1 g2 g3 g4 g5 g6 g7 g8 g9 g10 g11 k0 k1 k2 k3 k4 k5
          have p0 := at_cells (j := 0) z1 rfl
          have p1 := at_cells (j := 1) z1 rfl
          have p2 := at_cells (j := 2) z1 rfl
          have p3 := at_cells (j := 3) z1 rfl
          have p4 := at_cells (j := 4) z1 rfl
          have p5 := at_cells (j := 5) z1 rfl
          have l0 := at_cells (j := 0) z0 rfl
          have l1 := at_cells (j := 1) z0 rfl
          have l2 := at_cells (j := 2) z0 rfl
          have l3 := at_cells (j := 3) z0 rfl
          have l4 := at_cells (j := 4) z0 rfl
          have l5 := at_cells (j := 5) z0 rfl
          have f0 := rw_cells z0
          go_wp2_with fail
          generalize hY : (((((Z.setCell _ _).setCell _ _).setCell _ _).setCell _ _).setCell _ _).setCell _ _ = Y
          have y2 := set_cells (set_cells (set_cells (set_cells (set_cells (set_cells z0 0 (.int .i64 e)) 1 (.bool false)) 2 (.int .i64 0)) 3 (.int .u64 t)) 4 (.slice ra ys.length rc)) 5 (.int .i64 s)
          rw [hY] at y2
          have yA : Asd S w Y := by rw [← hY]; exact ((((((zA.setNew (Nat.le_refl _) _).setNew (Nat.le_refl _) _).setNew (Nat.le_refl _) _).setNew (Nat.le_refl _) _).setNew (Nat.le_refl _) _).setNew (Nat.le_refl _) _)
          have yS : Y.heap[S]? = Z.heap[S]? := by rw [← hY, heap_set _ _ _ _ _ hS0, heap_set _ _ _ _ _ hS0, heap_set _ _ _ _ _ hS0, heap_set _ _ _ _ _ hS0, heap_set _ _ _ _ _ hS0, heap_set _ _ _ _ _ hS0]
          have yO : OwnW Y w.heap.size (.slice ra ys.length rc) ys := by
            rw [← hY]
            have hn0 := uw_ne zO.out z0 (by decide)
            exact (((((zO.out.setOther hn0 _).setOther hn0 _).setOther hn0 _).setOther hn0 _).setOther hn0 _).setOther hn0 _
          have ys' : Src Y S (.slice va xs.length vc) xs _ q := HS.out.move yA (yS.trans zs.box) zs.pos
          have d0' := at_cells (j := 0) y2 rfl
          have d1' := at_cells (j := 1) y2 rfl
          have d2' := at_cells (j := 2) y2 rfl
          have d3' := at_cells (j := 3) y2 rfl
          have d4' := at_cells (j := 4) y2 rfl
          have d5' := at_cells (j := 5) y2 rfl
          clear hY
          exact bodyPost_ret (v := .agg #[.int .i64 e, .bool false, .int .i64 0, .int .u64 t, .slice ra ys.length rc, .int .i64 s]) (by simp [results, Try.results20, go_sem, d0', d1', d2', d3', d4', d5']) rfl ⟨_, _, _, _, _, ys, _, rfl, by omega, by omega, by omega, yO, yA, _, by omega, ys'⟩
        · go_upto_region 8 with fail
          have z1 := set_cells (set_cells (set_cells m16 1 (.bool true)) 2 (.int .i64 0)) 3 (.int .u64 0)
          have z0 := (heap_set ((w6.setCell ⟨B, 1, none⟩ (.bool true)).setCell ⟨B, 2, none⟩ (.int .i64 0)) B 3 w.heap.size (.int .u64 0) hB0).trans ((heap_set (w6.setCell ⟨B, 1, none⟩ (.bool true)) B 2 w.heap.size (.int .i64 0) hB0).trans ((heap_set w6 B 1 w.heap.size (.bool true) hB0).trans m06))
          have zS := (heap_set ((w6.setCell ⟨B, 1, none⟩ (.bool true)).setCell ⟨B, 2, none⟩ (.int .i64 0)) B 3 S (.int .u64 0) BS).trans ((heap_set (w6.setCell ⟨B, 1, none⟩ (.bool true)) B 2 S (.int .i64 0) BS).trans ((heap_set w6 B 1 S (.bool true) BS).trans hs6.box))
          have zO : Kp (OwnW _ _ _ _) := ⟨((O6.setOther (j := 1) hnB (.bool true)).setOther (j := 2) hnB (.int .i64 0)).setOther (j := 3) hnB (.int .u64 0)⟩
          have zA := ((A6.setNew (B := B) (j := 1) hB1 (.bool true)).setNew (B := B) (j := 2) hB1 (.int .i64 0)).setNew (B := B) (j := 3) hB1 (.int .u64 0)
          generalize ((w6.setCell ⟨B, 1, none⟩ (.bool true)).setCell ⟨B, 2, none⟩ (.int .i64 0)).setCell ⟨B, 3, none⟩ (.int .u64 0) = Z at *
          have zs := HS.out.move zA zS hs6.pos
          clear hA hs6 A6 m16 m06 O6 hnB f6 zS g0 g1 g2 g3 g4 g5 g6 g7 g8 g9 g10 g11 k0 k1 k2 k3 k4 k5
          have p0 := at_cells (j := 0) z1 rfl
          have p1 := at_cells (j := 1) z1 rfl
          have p2 := at_cells (j := 2) z1 rfl
          have p3 := at_cells (j := 3) z1 rfl
          have p4 := at_cells (j := 4) z1 rfl
          have p5 := at_cells (j := 5) z1 rfl
          have l0 := at_cells (j := 0) z0 rfl
          have l1 := at_cells (j := 1) z0 rfl
          have l2 := at_cells (j := 2) z0 rfl
          have l3 := at_cells (j := 3) z0 rfl
          have l4 := at_cells (j := 4) z0 rfl
          have l5 := at_cells (j := 5) z0 rfl
          have f0 := rw_cells z0
          go_wp2_with fail
          generalize hY : (((((Z.setCell _ _).setCell _ _).setCell _ _).setCell _ _).setCell _ _).setCell _ _ = Y
          have y2 := set_cells (set_cells (set_cells (set_cells (set_cells (set_cells z0 0 (.int .i64 e)) 1 (.bool true)) 2 (.int .i64 0)) 3 (.int .u64 0)) 4 (.slice ra ys.length rc)) 5 (.int .i64 s)
          rw [hY] at y2
          have yA : Asd S w Y := by rw [← hY]; exact ((((((zA.setNew (Nat.le_refl _) _).setNew (Nat.le_refl _) _).setNew (Nat.le_refl _) _).setNew (Nat.le_refl _) _).setNew (Nat.le_refl _) _).setNew (Nat.le_refl _) _)
          have yS : Y.heap[S]? = Z.heap[S]? := by rw [← hY, heap_set _ _ _ _ _ hS0, heap_set _ _ _ _ _ hS0, heap_set _ _ _ _ _ hS0, heap_set _ _ _ _ _ hS0, heap_set _ _ _ _ _ hS0, heap_set _ _ _ _ _ hS0]
          have yO : OwnW Y w.heap.size (.slice ra ys.length rc) ys := by
            rw [← hY]
            have hn0 := uw_ne zO.out z0 (by decide)
            exact (((((zO.out.setOther hn0 _).setOther hn0 _).setOther hn0 _).setOther hn0 _).setOther hn0 _).setOther hn0 _
          have ys' : Src Y S (.slice va xs.length vc) xs _ q := HS.out.move yA (yS.trans zs.box) zs.pos
          have d0' := at_cells (j := 0) y2 rfl
          have d1' := at_cells (j := 1) y2 rfl
          have d2' := at_cells (j := 2) y2 rfl
          have d3' := at_cells (j := 3) y2 rfl
          have d4' := at_cells (j := 4) y2 rfl
          have d5' := at_cells (j := 5) y2 rfl
          clear hY
          exact bodyPost_ret (v := .agg #[.int .i64 e, .bool true, .int .i64 0, .int .u64 0, .slice ra ys.length rc, .int .i64 s]) (by simp [results, Try.results20, go_sem, d0', d1', d2', d3', d4', d5']) rfl ⟨_, _, _, _, _, ys, _, rfl, by omega, by omega, by omega, yO, yA, _, by omega, ys'⟩
        · go_upto_region 8 with fail
          have z1 := set_cells (set_cells (set_cells m16 1 (.bool false)) 2 (.int .i64 1)) 3 (.int .u64 2)
          have z0 := (heap_set ((w6.setCell ⟨B, 1, none⟩ (.bool false)).setCell ⟨B, 2, none⟩ (.int .i64 1)) B 3 w.heap.size (.int .u64 2) hB0).trans ((heap_set (w6.setCell ⟨B, 1, none⟩ (.bool false)) B 2 w.heap.size (.int .i64 1) hB0).trans ((heap_set w6 B 1 w.heap.size (.bool false) hB0).trans m06))
          have zS := (heap_set ((w6.setCell ⟨B, 1, none⟩ (.bool false)).setCell ⟨B, 2, none⟩ (.int .i64 1)) B 3 S (.int .u64 2) BS).trans ((heap_set (w6.setCell ⟨B, 1, none⟩ (.bool false)) B 2 S (.int .i64 1) BS).trans ((heap_set w6 B 1 S (.bool false) BS).trans hs6.box))
          have zO : Kp (OwnW _ _ _ _) := ⟨((O6.setOther (j := 1) hnB (.bool false)).setOther (j := 2) hnB (.int .i64 1)).setOther (j := 3) hnB (.int .u64 2)⟩
          have zA := ((A6.setNew (B := B) (j := 1) hB1 (.bool false)).setNew (B := B) (j := 2) hB1 (.int .i64 1)).setNew (B := B) (j := 3) hB1 (.int .u64 2)
          generalize ((w6.setCell ⟨B, 1, none⟩ (.bool false)).setCell ⟨B, 2, none⟩ (.int .i64 1)).setCell ⟨B, 3, none⟩ (.int .u64 2) = Z at *
          have zs := HS.out.move zA zS hs6.pos
          clear hA hs6 A6 m16 m06 O6 hnB f6 zS g0 g1 g2 g3 g4 g5 g6 g7 g8 g9 g10 g11 k0 k1 k2 k3 k4 k5
          have p0 := at_cells (j := 0) z1 rfl
          have p1 := at_cells (j := 1) z1 rfl
          have p2 := at_cells (j := 2) z1 rfl
          have p3 := at_cells (j := 3) z1 rfl
          have p4 := at_cells (j := 4) z1 rfl
          have p5 := at_cells (j := 5) z1 rfl
          have l0 := at_cells (j := 0) z0 rfl
          have l1 := at_cells (j := 1) z0 rfl
          have l2 := at_cells (j := 2) z0 rfl
          have l3 := at_cells (j := 3) z0 rfl
          have l4 := at_cells (j := 4) z0 rfl
          have l5 := at_cells (j := 5) z0 rfl
          have f0 := rw_cells z0
          go_wp2_with fail
          generalize hY : (((((Z.setCell _ _).setCell _ _).setCell _ _).setCell _ _).setCell _ _).setCell _ _ = Y
          have y2 := set_cells (set_cells (set_cells (set_cells (set_cells (set_cells z0 0 (.int .i64 e)) 1 (.bool false)) 2 (.int .i64 1)) 3 (.int .u64 2)) 4 (.slice ra ys.length rc)) 5 (.int .i64 s)
          rw [hY] at y2
          have yA : Asd S w Y := by rw [← hY]; exact ((((((zA.setNew (Nat.le_refl _) _).setNew (Nat.le_refl _) _).setNew (Nat.le_refl _) _).setNew (Nat.le_refl _) _).setNew (Nat.le_refl _) _).setNew (Nat.le_refl _) _)
          have yS : Y.heap[S]? = Z.heap[S]? := by rw [← hY, heap_set _ _ _ _ _ hS0, heap_set _ _ _ _ _ hS0, heap_set _ _ _ _ _ hS0, heap_set _ _ _ _ _ hS0, heap_set _ _ _ _ _ hS0, heap_set _ _ _ _ _ hS0]
          have yO : OwnW Y w.heap.size (.slice ra ys.length rc) ys := by
            rw [← hY]
            have hn0 := uw_ne zO.out z0 (by decide)
            exact (((((zO.out.setOther hn0 _).setOther hn0 _).setOther hn0 _).setOther hn0 _).setOther hn0 _).setOther hn0 _
          have ys' : Src Y S (.slice va xs.length vc) xs _ q := HS.out.move yA (yS.trans zs.box) zs.pos
          have d0' := at_cells (j := 0) y2 rfl
          have d1' := at_cells (j := 1) y2 rfl
          have d2' := at_cells (j := 2) y2 rfl
          have d3' := at_cells (j := 3) y2 rfl
          have d4' := at_cells (j := 4) y2 rfl
          have d5' := at_cells (j := 5) y2 rfl
          clear hY
          exact bodyPost_ret (v := .agg #[.int .i64 e, .bool false, .int .i64 1, .int .u64 2, .slice ra ys.length rc, .int .i64 s]) (by simp [results, Try.results20, go_sem, d0', d1', d2', d3', d4', d5']) rfl ⟨_, _, _, _, _, ys, _, rfl, by omega, by omega, by omega, yO, yA, _, by omega, ys'⟩
        · go_upto_region 8 with fail
          have z1 := set_cells (set_cells (set_cells m16 1 (.bool false)) 2 (.int .i64 0)) 3 (.int .u64 0)
          have z0 := (heap_set ((w6.setCell ⟨B, 1, none⟩ (.bool false)).setCell ⟨B, 2, none⟩ (.int .i64 0)) B 3 w.heap.size (.int .u64 0) hB0).trans ((heap_set (w6.setCell ⟨B, 1, none⟩ (.bool false)) B 2 w.heap.size (.int .i64 0) hB0).trans ((heap_set w6 B 1 w.heap.size (.bool false) hB0).trans m06))
          have zS := (heap_set ((w6.setCell ⟨B, 1, none⟩ (.bool false)).setCell ⟨B, 2, none⟩ (.int .i64 0)) B 3 S (.int .u64 0) BS).trans ((heap_set (w6.setCell ⟨B, 1, none⟩ (.bool false)) B 2 S (.int .i64 0) BS).trans ((heap_set w6 B 1 S (.bool false) BS).trans hs6.box))
          have zO : Kp (OwnW _ _ _ _) := ⟨((O6.setOther (j := 1) hnB (.bool false)).setOther (j := 2) hnB (.int .i64 0)).setOther (j := 3) hnB (.int .u64 0)⟩
          have zA := ((A6.setNew (B := B) (j := 1) hB1 (.bool false)).setNew (B := B) (j := 2) hB1 (.int .i64 0)).setNew (B := B) (j := 3) hB1 (.int .u64 0)
          generalize ((w6.setCell ⟨B, 1, none⟩ (.bool false)).setCell ⟨B, 2, none⟩ (.int .i64 0)).setCell ⟨B, 3, none⟩ (.int .u64 0) = Z at *
          have zs := HS.out.move zA zS hs6.pos
          clear hA hs6 A6 m16 m06 O6 hnB f6 zS g0 g1 g2 g3 g4 g5 g6 g7 g8 g9 g10 g11 k0 k1 k2 k3 k4 k5
          have p0 := at_cells (j := 0) z1 rfl
          have p1 := at_cells (j := 1) z1 rfl
          have p2 := at_cells (j := 2) z1 rfl
          have p3 := at_cells (j := 3) z1 rfl
          have p4 := at_cells (j := 4) z1 rfl
          have p5 := at_cells (j := 5) z1 rfl
          have l0 := at_cells (j := 0) z0 rfl
          have l1 := at_cells (j := 1) z0 rfl
          have l2 := at_cells (j := 2) z0 rfl
          have l3 := at_cells (j := 3) z0 rfl
          have l4 := at_cells (j := 4) z0 rfl
          have l5 := at_cells (j := 5) z0 rfl
          have f0 := rw_cells z0
          go_wp2_with fail
          generalize hY : (((((Z.setCell _ _).setCell _ _).setCell _ _).setCell _ _).setCell _ _).setCell _ _ = Y
          have y2 := set_cells (set_cells (set_cells (set_cells (set_cells (set_cells z0 0 (.int .i64 e)) 1 (.bool false)) 2 (.int .i64 0)) 3 (.int .u64 0)) 4 (.slice ra ys.length rc)) 5 (.int .i64 s)
          rw [hY] at y2
          have yA : Asd S w Y := by rw [← hY]; exact ((((((zA.setNew (Nat.le_refl _) _).setNew (Nat.le_refl _) _).setNew (Nat.le_refl _) _).setNew (Nat.le_refl _) _).setNew (Nat.le_refl _) _).setNew (Nat.le_refl _) _)
          have yS : Y.heap[S]? = Z.heap[S]? := by rw [← hY, heap_set _ _ _ _ _ hS0, heap_set _ _ _ _ _ hS0, heap_set _ _ _ _ _ hS0, heap_set _ _ _ _ _ hS0, heap_set _ _ _ _ _ hS0, heap_set _ _ _ _ _ hS0]
          have yO : OwnW Y w.heap.size (.slice ra ys.length rc) ys := by
            rw [← hY]
            have hn0 := uw_ne zO.out z0 (by decide)
            exact (((((zO.out.setOther hn0 _).setOther hn0 _).setOther hn0 _).setOther hn0 _).setOther hn0 _).setOther hn0 _
          have ys' : Src Y S (.slice va xs.length vc) xs _ q := HS.out.move yA (yS.trans zs.box) zs.pos
          have d0' := at_cells (j := 0) y2 rfl
          have d1' := at_cells (j := 1) y2 rfl
          have d2' := at_cells (j := 2) y2 rfl
          have d3' := at_cells (j := 3) y2 rfl
          have d4' := at_cells (j := 4) y2 rfl
          have d5' := at_cells (j := 5) y2 rfl
          clear hY
          exact bodyPost_ret (v := .agg #[.int .i64 e, .bool false, .int .i64 0, .int .u64 0, .slice ra ys.length rc, .int .i64 s]) (by simp [results, Try.results20, go_sem, d0', d1', d2', d3', d4', d5']) rfl ⟨_, _, _, _, _, ys, _, rfl, by omega, by omega, by omega, yO, yA, _, by omega, ys'⟩
      · have he' : (e == 0) = false := beq_false_of_ne he
        go_upto_region 8 with fail
        have z1 := m1
        have z0 := m0
        have zO := hO
        have zA := A2
        have zs := hs
        obtain ⟨Z, hZ⟩ : ∃ Z, Z = wr := ⟨_, rfl⟩
        rw [← hZ] at z1 z0 zO zA zs ⊢
        clear hZ m1 m0 hO A2 hs c0
        have p0 := at_cells (j := 0) z1 rfl
        have p1 := at_cells (j := 1) z1 rfl
        have p2 := at_cells (j := 2) z1 rfl
        have p3 := at_cells (j := 3) z1 rfl
        have p4 := at_cells (j := 4) z1 rfl
        have p5 := at_cells (j := 5) z1 rfl
        have l0 := at_cells (j := 0) z0 rfl
        have l1 := at_cells (j := 1) z0 rfl
        have l2 := at_cells (j := 2) z0 rfl
        have l3 := at_cells (j := 3) z0 rfl
        have l4 := at_cells (j := 4) z0 rfl
        have l5 := at_cells (j := 5) z0 rfl
        have f0 := rw_cells z0
        go_wp2_with fail
        generalize hY : (((((Z.setCell _ _).setCell _ _).setCell _ _).setCell _ _).setCell _ _).setCell _ _ = Y
        have y2 := set_cells (set_cells (set_cells (set_cells (set_cells (set_cells z0 0 (.int .i64 e)) 1 (.bool false)) 2 (.int .i64 0)) 3 (.int .u64 0)) 4 (.slice ra ys.length rc)) 5 (.int .i64 s)
        rw [hY] at y2
        have yA : Asd S w Y := by rw [← hY]; exact ((((((zA.setNew (Nat.le_refl _) _).setNew (Nat.le_refl _) _).setNew (Nat.le_refl _) _).setNew (Nat.le_refl _) _).setNew (Nat.le_refl _) _).setNew (Nat.le_refl _) _)
        have yS : Y.heap[S]? = Z.heap[S]? := by rw [← hY, heap_set _ _ _ _ _ hS0, heap_set _ _ _ _ _ hS0, heap_set _ _ _ _ _ hS0, heap_set _ _ _ _ _ hS0, heap_set _ _ _ _ _ hS0, heap_set _ _ _ _ _ hS0]
        have yO : OwnW Y w.heap.size (.slice ra ys.length rc) ys := by
          rw [← hY]
          have hn0 := uw_ne zO.out z0 (by decide)
          exact (((((zO.out.setOther hn0 _).setOther hn0 _).setOther hn0 _).setOther hn0 _).setOther hn0 _).setOther hn0 _
        have ys' : Src Y S (.slice va xs.length vc) xs _ q := HS.out.move yA (yS.trans zs.box) zs.pos
        have d0' := at_cells (j := 0) y2 rfl
        have d1' := at_cells (j := 1) y2 rfl
        have d2' := at_cells (j := 2) y2 rfl
        have d3' := at_cells (j := 3) y2 rfl
        have d4' := at_cells (j := 4) y2 rfl
        have d5' := at_cells (j := 5) y2 rfl
        clear hY
        exact bodyPost_ret (v := .agg #[.int .i64 e, .bool false, .int .i64 0, .int .u64 0, .slice ra ys.length rc, .int .i64 s]) (by simp [results, Try.results20, go_sem, d0', d1', d2', d3', d4', d5']) rfl ⟨_, _, _, _, _, ys, _, rfl, by omega, by omega, by omega, yO, yA, _, by omega, ys'⟩
end Go.Proofs.Ytbacbigcecmfbaa
