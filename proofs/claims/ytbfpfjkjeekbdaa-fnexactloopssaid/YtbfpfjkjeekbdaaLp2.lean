/- Loops: the program's search backwards from the tails. -/
import Derived.Test.YtbfpfjkjeekbdaaLp0
import Derived.Test.YtbfpfjkjeekbdaaWk2
import Derived.Lib.SliceRun
import Derived.Laws.OwnMore
namespace Go.Proofs.Ytbfpfjkjeekbdaa
open Go.ChangeShapes Go.WideShapes Go.ChangeAt Go.RowKit Go.Maps
set_option linter.unusedVariables false
set_option linter.unusedSimpArgs false
theorem wpList_append_run {P : Program} (w : World) {ops : Array Oper} {rest : List Oper} {op : Oper} {ac : Act} {Q : Exit → Act → World → Prop} (hgd : op.guard = none) (s x : Operand) (t : TypeId)
    (ho : op.op = .call { callee := .builtin .append, args := #[s, x], argTypes := #[t, t] }) {v u v' : Value} {w' : World} (hs : ac.eval s = v) (hx : ac.eval x = u)
    (hr : (Builtin.append_ #[t, t] op.type #[v, u]).run P w = .ok v' w') (h : wpList P ops Q rest (ac.put op.dst v') w') : wpList P ops Q (op :: rest) ac w := by
  refine wpList_plain hgd fun K hK => ?_
  unfold Oper.wp execOp
  simp only [ho, resolve, invoke, builtin, Sem.run_bind, Sem.run_pure, Result.andThen_ok, List.map_toArray, List.map_cons, List.map_nil, hs, hx, hr]
  exact hK _ _ h
theorem grown_cells2 {w w' : World} {k b : Nat} {o : Obj} (hg : w.grownBy w' (some k)) (h : w.heap[b]? = some o) (hn : b ≠ k) : w'.heap[b]? = some o :=
  (hg.block b (Array.getElem?_eq_some_iff.1 h).1 (fun e => hn (by injection e))).trans h
theorem Ints.shape2 {lo : Nat} {k : IntKind} {w : World} {v : Value} {xs : List Int} (h : Ints lo k w v xs) : ∃ a c, v = .slice a xs.length c := by
  obtain ⟨b, o, ⟨⟨a, cap, rfl, h1, h2⟩, h3⟩, -, hc⟩ := h.ex
  exact ⟨a, cap, rfl⟩
theorem pot_le (bls : List (List InD)) (inn : Int → Bool) : ∀ n : Nat, pot bls inn n ≤ pot bls (fun _ => false) n
  | 0 => Nat.le_refl _
  | n + 1 => by
    have := pot_le bls inn n
    simp only [pot]
    split <;> simp <;> omega
set_option maxRecDepth 100000 in
set_option maxHeartbeats 8000000 in
theorem behindI (bls : List (List InD)) (h nb : Nat) (hnb : bls.length = nb) (hh : h < nb) (hn : nb ≤ 1048576) (hpot : pot bls (fun _ => false) nb ≤ 4194304) (ht : (tlL bls h).length ≤ 1048576) (U w : World) (lo : Nat) (vN vP vt : Value) (a1 a2 a3 a4 a5 a6 : Option Addr) (m1 m2 m3 m4 m5 m6 c1 c2 c3 c4 c5 c6 : Nat)
    (hU : Below U.heap.size U w) (hP : Rws lo U vP nb (prevs bls nb)) (hO : OwnI w U.heap.size vt (tlL bls h))
    (CC : ∀ W' y, Below U.heap.size U W' → Calls Try.prog 46 #[.agg #[.slice a1 m1 c1, .slice a2 m2 c2, .slice a3 m3 c3], .int .i64 y] W' fun e w' => e = .returned (.bool (dmB bls 0 y)) ∧ Below W'.heap.size W' w') :
    Calls Try.prog 40 #[.agg #[vN, vP], .int .i64 h, vt, .agg #[.slice a1 m1 c1, .slice a2 m2 c2, .slice a3 m3 c3, .slice a4 m4 c4, .slice a5 m5 c5, .slice a6 m6 c6]] w fun e w' =>
      ∃ b n acc, e = .returned (.map (some b)) ∧ SetI w' b n acc ∧ n ≤ 1048576 + 5242880 ∧ (∀ x, acc.contains x = true ↔ InL bls h x) ∧ w.heap.size ≤ b ∧ w.grownBy w' vt.ownBlock := by
  obtain ⟨i0, hi0, hz0, hz1, hz2⟩ := info_parts info64
  obtain ⟨bP, oP, ⟨⟨aP, cP, rfl, l1, l2⟩, l3⟩, lr, lc⟩ := hP.ex
  have l4 := l2 (by omega)
  subst l4
  have hPlt : ∀ i, i < nb → bP < U.heap.size := fun i hi => by
    obtain ⟨u, q, -⟩ := lc i hi
    exact Lib.lt_of_cell q
  obtain ⟨at0, ct0, rfl⟩ := hO.shape
  have hrowU : ∀ g, (Value.slice at0 (tlL bls h).length ct0).ownBlock = some g → U.heap.size ≤ g := fun g hg => (hO.r.lt g hg).1
  obtain ⟨rowT, hrowT⟩ : ∃ rowT, rowT = (Value.slice at0 (tlL bls h).length ct0).ownBlock := ⟨_, rfl⟩
  rw [← hrowT] at hrowU ⊢
  have hwf : (Lit.int .i64 (h : Int)).wf = true := WalkArith.wf_i64 (by omega)
  have b1 := bel_trans (bel_alloc w (Go.Obj.cells #[vN, .slice (some ⟨bP, oP, none⟩) nb cP] 53)) (bel_alloc _ (Go.Obj.cells #[.slice a1 m1 c1, .slice a2 m2 c2, .slice a3 m3 c3, .slice a4 m4 c4, .slice a5 m5 c5, .slice a6 m6 c6] 58))
  have x1 := keep_cells (new_cells w (Go.Obj.cells #[vN, .slice (some ⟨bP, oP, none⟩) nb cP] 53)) (bel_alloc _ (Go.Obj.cells #[.slice a1 m1 c1, .slice a2 m2 c2, .slice a3 m3 c3, .slice a4 m4 c4, .slice a5 m5 c5, .slice a6 m6 c6] 58))
  have x2 := new_cells (w.alloc (Go.Obj.cells #[vN, .slice (some ⟨bP, oP, none⟩) nb cP] 53)) (Go.Obj.cells #[.slice a1 m1 c1, .slice a2 m2 c2, .slice a3 m3 c3, .slice a4 m4 c4, .slice a5 m5 c5, .slice a6 m6 c6] 58)
  rw [World.size_alloc] at x2
  obtain ⟨V, hV⟩ : ∃ V, Kp (V = (w.alloc (Go.Obj.cells #[vN, .slice (some ⟨bP, oP, none⟩) nb cP] 53)).alloc (Go.Obj.cells #[.slice a1 m1 c1, .slice a2 m2 c2, .slice a3 m3 c3, .slice a4 m4 c4, .slice a5 m5 c5, .slice a6 m6 c6] 58)) := ⟨_, ⟨rfl⟩⟩
  rw [← hV.out] at b1 x1 x2
  have hsV : Kp (w.heap.size + 2 ≤ V.heap.size) := ⟨by have := (Array.getElem?_eq_some_iff.1 x2).1; omega⟩
  obtain ⟨Wy, hins, hown, hgy⟩ := (World.ownsMap_made V Try.prog 2 (unitElem (H := Unit))).update lawK Try.underlying61 (by decide) (keyOf_int_mk Try.underlying2 hwf) unitElem_mk
  have hSy : SetI Wy V.heap.size 1 [(h : Int)] := ⟨_, hown, fun y => by
    by_cases e : y = h
    · subst e
      rw [has_put_same Maps.isMap_empty (show WideAt.IsKeyLit (.int .i64 (h : Int)) from trivial)]
      simp
    · rw [has_put_other (fun h => e (by cases h; rfl))]
      simp [e, Maps.has]⟩
  have hby : Below V.heap.size V Wy := (bel_alloc V (.map #[] 0)).grown hgy (by simp) (fun k hk => by cases hk; exact Nat.le_refl _)
  have hUw := hU.size
  have hg0 : w.grownBy Wy rowT := grown_bel (bel_trans b1 hby) _
  have hW0 := Wk.start (bls := bls) (h := h)
  have hO0 := (hO.keep b1).keep hby
  have y1 := keep_cells x1 hby
  have y2 := keep_cells x2 hby
  have hmm := @run_makeMap Try.prog
  clear hown hgy x1 x2
  go_enter Try.func40, Try.ntmps40
  go_upto_region 1 with fail
  rw [← hV.out]
  go_wp2_with fail
  have hp0 : (tlL bls h).length + pot bls (fun x => [(h : Int)].contains x) nb ≤ 1048576 + 4194304 := by have := pot_le bls (fun x => [(h : Int)].contains x) nb; omega
  have hW1 : Kp (Wk bls h (fun x => [(h : Int)].contains x) (fun x => x ∈ tlL bls h)) := ⟨by rw [show (fun x => [(h : Int)].contains x) = (fun x => x == (h : Int)) from funext fun x => by rw [Bool.eq_iff_iff]; simp]; exact hW0⟩
  have hsep0 : Kp (rowT = (Value.slice at0 (tlL bls h).length ct0).ownBlock ∨ ∀ g, (Value.slice at0 (tlL bls h).length ct0).ownBlock = some g → w.heap.size ≤ g) := ⟨.inl hrowT⟩
  replace hrowT := Kp.mk hrowT
  clear hW0 hins hO
  go_loopg [2, 10] ((tlL bls h).length + pot bls (fun x => [(h : Int)].contains x) nb) (fun k s _ wr => ∃ (n : Nat) (acc ys : List Int), wr.ownsRow U.heap.size 2 1 s ys.length (ys.map (Value.int .i64)) ∧ SetI wr V.heap.size n acc ∧ Kp (Wk bls h (fun x => acc.contains x) (fun x => x ∈ ys)) ∧ ys.length + pot bls (fun x => acc.contains x) nb = k ∧ n + k ≤ 1 + (1048576 + 4194304) ∧ w.grownBy wr rowT ∧ Kp (rowT = s.ownBlock ∨ ∀ g, s.ownBlock = some g → w.heap.size ≤ g) ∧ wr.heap[w.heap.size]? = some (Go.Obj.cells #[vN, .slice (some ⟨bP, oP, none⟩) nb cP] 53 (0, 0)) ∧ wr.heap[w.heap.size + 1]? = some (Go.Obj.cells #[.slice a1 m1 c1, .slice a2 m2 c2, .slice a3 m3 c3, .slice a4 m4 c4, .slice a5 m5 c5, .slice a6 m6 c6] 58 (0, 0)))
  case atStart => exact ⟨1, [(h : Int)], tlL bls h, hO0.r, hSy, hW1, rfl, by omega, hg0, hsep0, y1, y2⟩
  case round =>
    clear hO0 hSy hW1 hp0 hg0 hsep0 y1 y2
    obtain ⟨n, acc, ys, hown, hset, hK, hk, hnk, hg, hsep, y1, y2⟩ := hrel
    have hUr : Below U.heap.size U wr := hU.grown hg hUw hrowU
    rcases List.eq_nil_or_concat ys with rfl | ⟨us, x, ews⟩
    · obtain ⟨a9, c9, rfl⟩ := (OwnI.mk hown).shape
      have hfin : Kp (∀ x, acc.contains x = true ↔ InL bls h x) := ⟨hK.out.done (fun x hx => by simp at hx)⟩
      clear hown hK hsep hUr
      go_wp2_with fail
      go_ret
      exact ⟨V.heap.size, n, acc, rfl, hset, by omega, hfin.out, by have := hsV.out; omega, hg⟩
    · rw [List.concat_eq_append] at ews
      subst ews
      rw [show (us ++ [x]).length = us.length + 1 by simp] at hown hk
      rcases hown.2 with ⟨-, e⟩ | ⟨g, cap, cur, hv, hgb, hgc, hn1, hn2, hn3, hn4⟩
      · omega
      subst hv
      have hcx : wr.cell? ⟨g, us.length, none⟩ = some (.int .i64 x) := by
        rw [hown.cellAt us.length (by omega)]
        simp
      have hcut := own_cut hown
      have d0 := at_cells (j := 0) y2 rfl
      have d1 := at_cells (j := 1) y2 rfl
      have d2 := at_cells (j := 2) y2 rfl
      have C1 := Kp.mk (CC wr x hUr)
      have hul : us.length ≤ 1048576 + 4194304 := by omega
      clear hown hgc hn2 hn3 hn4
      have hskip : Kp ((acc.contains x = true ∨ dmB bls 0 x = false) → Wk bls h (fun x => acc.contains x) (fun x => x ∈ us)) := ⟨fun hq => hK.out.skip hq (fun y hy => by
        rcases List.mem_append.1 hy with q | q
        · exact .inr q
        · exact .inl (by simpa using q)) (fun y hy => List.mem_append_left _ hy)⟩
      cases hd : dmB bls 0 x with
      | false =>
        rw [hd] at C1
        have hK2 := Kp.mk (hskip.out (.inr hd))
        replace hd := Kp.mk hd
        clear hskip hK
        go_wp2_with (go_at_call 46; go_fit C1.out; rintro e w2 ⟨rfl, hb2⟩)
        have hown2 := (OwnI.keep ⟨hcut⟩ hb2).r
        have hset2 := hset.keep hb2
        have hg2 := grown_trans hg (grown_bel hb2 rowT) (.inl rfl)
        have z1 := keep_cells y1 hb2
        have z2 := keep_cells y2 hb2
        clear hcut hset hg y1 y2 d0 d1 d2 hcx C1 hUr hb2
        go_wp2_with fail
        go_roundg (us.length + pot bls (fun x => acc.contains x) nb)
        case measure => omega
        case rel => exact ⟨n, acc, us, hown2, hset2, hK2, rfl, by omega, hg2, hsep, z1, z2⟩
      | true =>
        rw [hd] at C1
        obtain ⟨hx0, hx1⟩ := dm_bd hd
        rw [hnb] at hx1
        obtain ⟨X, rfl⟩ : ∃ X : Nat, x = X := ⟨x.toNat, by omega⟩
        have hwx : (Lit.int .i64 (X : Int)).wf = true := WalkArith.wf_i64 (by omega)
        have hmv : V.heap.size < 1099511627776 ∨ True := .inr trivial
        have CA : Kp (∀ W, SetI W V.heap.size n acc → Calls Try.prog 32 #[.map (some V.heap.size), .int .i64 X] W _) := ⟨fun W hs => addI2 V.heap.size n acc X W hs (by omega) hwx⟩
        go_wp2_with (go_at_call 46; go_fit C1.out; rintro e w2 ⟨rfl, hb2⟩)
        have hown2 := (OwnI.keep ⟨hcut⟩ hb2).r
        have hset2 := hset.keep hb2
        have hg2 := grown_trans hg (grown_bel hb2 rowT) (.inl rfl)
        have z1 := keep_cells y1 hb2
        have z2 := keep_cells y2 hb2
        have C2 := Kp.mk (CA.out w2 hset2)
        clear hcut hset hg y1 y2 d0 d1 d2 hcx C1 hUr hb2 CA
        have hne2 := hset2.row_ne hown2
        cases hc : acc.contains (X : Int) with
        | true =>
          rw [hc] at C2
          have hK2 := Kp.mk (hskip.out (.inl hc))
          have ea : addL acc X = acc := if_pos hc
          rw [ea] at C2
          replace hc := Kp.mk hc
          replace hd := Kp.mk hd
          clear hskip hK hset2 ea
          go_wp2_with fail
          refine C2.out.mono ?_
          rintro e w3 ⟨rfl, hg3, hset3⟩
          have hown3 := hown2.kept hg3 (.inr (Ne.symm hne2))
          have z3 := grown_cells2 hg3 z1 (by have := hsV.out; omega)
          have z4 := grown_cells2 hg3 z2 (by have := hsV.out; omega)
          have hg4 := grown_trans hg2 hg3 (.inr (fun g hg => by cases hg; have := hsV.out; omega))
          clear hown2 hg2 z1 z2 C2 hg3 hne2
          replace hset3 : SetI w3 V.heap.size n acc := hset3
          go_wp2_with fail
          go_roundg (us.length + pot bls (fun x => acc.contains x) nb)
          case measure => omega
          case rel => exact ⟨n, acc, us, hown3, hset3, hK2, rfl, by omega, hg4, hsep, z3, z4⟩
        | false =>
          rw [hc] at C2
          have hadd : (fun y => (addL acc (X : Int)).contains y) = (fun y => acc.contains y || y == (X : Int)) := funext fun y => addL_at acc X y
          have hpt := pot_take (bls := bls) (inn := fun y => acc.contains y) (b := (X : Int)) hc hx0 nb hx1
          have hK2 : Kp (Wk bls h (fun y => (addL acc (X : Int)).contains y) (fun y => y ∈ us ++ prevs bls bls.length X)) := ⟨by
            rw [hadd]
            refine hK.out.take (b := (X : Int)) (by simp) hc hd (fun y hy => ?_) (fun y hy => by rw [Int.toNat_natCast] at hy; exact List.mem_append_right _ hy) (fun y hy => ?_)
            · rcases List.mem_append.1 hy with q | q
              · exact .inr (List.mem_append_left _ q)
              · exact .inl (by simpa using q)
            · rw [Int.toNat_natCast]
              rcases List.mem_append.1 hy with q | q
              · exact .inl (List.mem_append_left _ q)
              · exact .inr q⟩
          rw [← hadd, Int.toNat_natCast] at hpt
          obtain ⟨pu, hpu, hpr⟩ := lc X (by omega)
          replace hc := Kp.mk hc
          replace hd := Kp.mk hd
          clear hskip hK hset2 hadd
          go_wp2_with fail
          refine C2.out.mono ?_
          rintro e w3 ⟨rfl, hg3, hset3⟩
          have hown3 := hown2.kept hg3 (.inr (Ne.symm hne2))
          have z3 := grown_cells2 hg3 z1 (by have := hsV.out; omega)
          have z4 := grown_cells2 hg3 z2 (by have := hsV.out; omega)
          have hg4 := grown_trans hg2 hg3 (.inr (fun g hg => by cases hg; have := hsV.out; omega))
          replace hset3 : SetI w3 V.heap.size (n + 1) (addL acc X) := hset3
          clear hown2 hg2 z1 z2 C2 hg3 hne2
          have hU3 : Below U.heap.size U w3 := hU.grown hg4 hUw hrowU
          have k1 := at_cells (j := 1) z3 rfl
          have k2 := at_keep hpu hU3
          have hpr3 := hpr.keep hU3
          rw [hnb] at hK2 hpt
          have hbs : U.heap.size ≤ w3.heap.size := hU3.size
          obtain ⟨v4, w4, hrun, hown4, hg5, hat⟩ := run_append_ints (P := Try.prog) w3 U.heap.size 22 22 2 i0 (.int .i64 0) Try.underlying22 hi0 hz0 hz1 hz2 rfl (.slice (some ⟨g, 0, none⟩) us.length cap) us.length (us.map (Value.int .i64)) hown3 pu (prevs bls nb X) hpr3 (by omega) hbs
          have hset4 := hset3.kept hg5 (hset3.row_ne hown3)
          have z5 := (hg5.block _ (Array.getElem?_eq_some_iff.1 z3).1 (own_ne hown3 z3 (by decide))).trans z3
          have z6 := (hg5.block _ (Array.getElem?_eq_some_iff.1 z4).1 (own_ne hown3 z4 (by decide))).trans z4
          have hrow4 : w4.ownsRow U.heap.size 2 1 v4 (us ++ prevs bls nb X).length ((us ++ prevs bls nb X).map (Value.int .i64)) := by simpa using hown4
          have hw3 := hg4.size
          have hsep3 : rowT = some g ∨ ∀ k, some g = some k → w.heap.size ≤ k := hsep.out
          have hg6 := grown_trans hg4 hg5 (by
            rcases hsep3 with q | q
            · exact .inl q.symm
            · exact .inr (fun k hk => q k hk))
          have hsep4 : Kp (rowT = v4.ownBlock ∨ ∀ k, v4.ownBlock = some k → w.heap.size ≤ k) := ⟨by
            rcases hat with q | q
            · rw [q]; exact hsep3
            · exact .inr (fun k hk => by rw [q] at hk; cases hk; exact hw3)⟩
          obtain ⟨pa, pc, rfl⟩ := hpr3.shape2
          replace hrun := Kp.mk hrun
          clear hown3 hown4 hg5 hat hset3 hpr hpr3 hpu hU3 hbs hg4 hsep3 hw3 hsep
          go_wp2_with (at_builtin; refine wpList_append_run _ rfl (.tmp 38) (.tmp 43) 22 rfl rfl rfl hrun.out ?_)
          go_roundg ((us ++ prevs bls nb X).length + pot bls (fun y => (addL acc (X : Int)).contains y) nb)
          case measure => simp only [List.length_append]; omega
          case rel => exact ⟨n + 1, addL acc X, us ++ prevs bls nb X, hrow4, hset4, hK2, rfl, by simp only [List.length_append]; omega, hg6, hsep4, z5, z6⟩
end Go.Proofs.Ytbfpfjkjeekbdaa
namespace Go.Proofs.Ytbfpfjkjeekbdaa
open Go.ChangeShapes Go.WideShapes Go.ChangeAt Go.RowKit
set_option linter.unusedVariables false
set_option linter.unusedSimpArgs false
/-- The closure, as the program makes it. -/
abbrev cloV (bd bh : Nat) : Value := .func (.func 37) #[] #[.pointer (some ⟨bd, 0, none⟩), .pointer (some ⟨bh, 0, none⟩)]
set_option maxRecDepth 100000 in
set_option maxHeartbeats 4000000 in
theorem indexL (vs : Value) (xs : List Int) (bd bh : Nat) (p : Int → Bool) (w : World) {lo : Nat} (h : Ints lo .i64 w vs xs)
    (CC : ∀ W' y, Below w.heap.size w W' → Calls Try.prog 37 #[.int .i64 y, .pointer (some ⟨bd, 0, none⟩), .pointer (some ⟨bh, 0, none⟩)] W' fun e w' => e = .returned (.bool (!p y)) ∧ Below W'.heap.size W' w') :
    Calls Try.prog 59 #[vs, cloV bd bh] w fun e w' => ∃ r : Int, e = .returned (.int .i64 r) ∧ Kp ((r = -1 ∧ xs.filter p = xs) ∨ ∃ i : Nat, r = i ∧ ∃ hi : i < xs.length, p xs[i] = false ∧ (xs.take i).filter p = xs.take i) ∧ Below w.heap.size w w' := by
  obtain ⟨b, o, ⟨⟨a, cap, rfl, h1, h2⟩, h3⟩, -, hc⟩ := h.ex
  have g1 : (xs.length : Int) ≤ 140737488355328 := by omega
  replace h2 := Kp.mk h2
  replace hc := Kp.mk hc
  replace CC := Kp.mk CC
  clear h
  go_enter Try.func59, Try.ntmps59
  go_wp2_with fail
  go_loopw [5, 8] (fun _ s wr => ∃ i : Nat, i ≤ xs.length ∧ s = .int .i64 i ∧ Kp ((xs.take i).filter p = xs.take i) ∧ Below w.heap.size w wr) (fun _ s _ => xs.length - (intOf s).toNat)
  case atStart => exact ⟨0, Nat.zero_le _, rfl, ⟨by simp⟩, Below.refl _ _⟩
  case round =>
    obtain ⟨i, hi, rfl, hd, hB⟩ := hrel
    by_cases hlt : i < xs.length
    · obtain rfl := h2.out (by omega)
      have c0 := at_keep (hc.out i hlt) hB
      have C := Kp.mk (CC.out wr xs[i] hB)
      have HX : Kp (∀ hq : i < xs.length, xs[i]'hq = xs[i]) := ⟨fun _ => rfl⟩
      have hnext : Kp (p xs[i] = true → (xs.take (i + 1)).filter p = xs.take (i + 1)) := ⟨fun hp => by
        rw [List.take_succ_eq_append_getElem hlt, List.filter_append, hd.out]
        simp [hp]⟩
      have hstop : Kp (p xs[i] = false → ((i : Int) = -1 ∧ xs.filter p = xs) ∨ ∃ k : Nat, (i : Int) = k ∧ ∃ hk : k < xs.length, p xs[k] = false ∧ (xs.take k).filter p = xs.take k) := ⟨fun hp => .inr ⟨i, rfl, hlt, hp, hd.out⟩⟩
      generalize xs[i] = x at *
      cases hp : p x with
      | true =>
        rw [hp] at C
        have hd2 := Kp.mk (hnext.out hp)
        clear hnext hstop HX hd
        replace hp := Kp.mk hp
        go_wp2_with fail
        refine C.out.mono ?_
        rintro e w1 ⟨rfl, hb1⟩
        have hB2 := bel_trans hB hb1
        clear C hB hb1 c0
        go_wp2_with fail
        exact ⟨⟨i + 1, by omega, by go_num, hd2, hB2⟩, by simp [intOf]; omega⟩
      | false =>
        rw [hp] at C
        have hd2 := Kp.mk (hstop.out hp)
        clear hnext hstop HX hd
        replace hp := Kp.mk hp
        go_wp2_with fail
        refine C.out.mono ?_
        rintro e w1 ⟨rfl, hb1⟩
        have hB2 := bel_trans hB hb1
        clear C hB hb1 c0
        go_wp2_with fail
        go_ret
        exact ⟨i, rfl, hd2, hB2⟩
    · obtain rfl : i = xs.length := by omega
      have hd2 := hd.out
      rw [List.take_length] at hd2
      replace hd2 := Kp.mk hd2
      go_wp2_with fail
      go_ret
      exact ⟨-1, rfl, ⟨.inl ⟨rfl, hd2.out⟩⟩, hB⟩
/-- The first i are the kept ones of the first j, those from j on are as they were. -/
theorem keep_put {xs zs : List Int} {p : Int → Bool} {i j : Nat} (hij : i ≤ j) (hj : j < xs.length) (hl : zs.length = xs.length) (h1 : zs.take i = (xs.take j).filter p) (h2 : zs.drop j = xs.drop j) :
    (p xs[j] = true → (zs.set i xs[j]).take (i + 1) = (xs.take (j + 1)).filter p ∧ (zs.set i xs[j]).drop (j + 1) = xs.drop (j + 1)) ∧ (p xs[j] = false → zs.take i = (xs.take (j + 1)).filter p ∧ zs.drop (j + 1) = xs.drop (j + 1)) := by
  have hd : zs.drop (j + 1) = xs.drop (j + 1) := by
    have := congrArg (List.drop 1) h2
    rwa [List.drop_drop, List.drop_drop] at this
  refine ⟨fun hp => ⟨?_, ?_⟩, fun hp => ⟨?_, hd⟩⟩
  · rw [List.take_succ_eq_append_getElem hj, List.filter_append, ← h1]
    rw [List.take_succ_eq_append_getElem (by rw [List.length_set]; omega), List.take_set_of_le (Nat.le_refl i)]
    simp [hp]
  · rw [List.drop_set_of_lt (by omega)]
    exact hd
  · rw [List.take_succ_eq_append_getElem hj, List.filter_append, ← h1]
    simp [hp]
theorem keep_get {xs zs : List Int} {j : Nat} (hj : j < xs.length) (hl : zs.length = xs.length) (h2 : zs.drop j = xs.drop j) : zs[j]'(by omega) = xs[j] := by
  have e : (zs.drop j)[0]? = (xs.drop j)[0]? := by rw [h2]
  rw [List.getElem?_drop, List.getElem?_drop] at e
  rw [Nat.add_zero, List.getElem?_eq_getElem (by omega), List.getElem?_eq_getElem hj] at e
  exact Option.some.inj e
end Go.Proofs.Ytbfpfjkjeekbdaa
namespace Go.Proofs.Ytbfpfjkjeekbdaa
open Go.ChangeShapes Go.WideShapes Go.ChangeAt Go.RowKit
set_option linter.unusedVariables false
set_option linter.unusedSimpArgs false
theorem zeroI64 (w : World) : (zeroValue 2).run Try.prog w = .ok (.int .i64 0) w := by kernel_rfl
/-- Cells from o on are overwritten: the first o stay. -/
theorem own_clear {base t g n cap : Nat} : ∀ (vs : List Value) (o : Nat) {w : World} {xs : List Value}, w.ownsRow base t 1 (.slice (some ⟨g, 0, none⟩) n cap) n xs →
    ∃ ys, (w.setCells g o vs).ownsRow base t 1 (.slice (some ⟨g, 0, none⟩) n cap) n ys ∧ ys.take o = xs.take o ∧ w.grownBy (w.setCells g o vs) (some g)
  | [], o, w, xs, h => ⟨xs, h, rfl, World.grownBy.refl _ _⟩
  | v :: r, o, w, xs, h => by
    obtain ⟨ys, h1, h2, h3⟩ := own_clear r (o + 1) (h.stored o v).1
    refine ⟨ys, h1, ?_, (h.stored o v).2.trans h3⟩
    have := congrArg (List.take o) h2
    rw [List.take_take, List.take_take, Nat.min_eq_left (Nat.le_succ o), List.take_set_of_le (Nat.le_refl o)] at this
    exact this
/-- The first k of a row. -/
theorem own_front {w : World} {base g n cap k : Nat} {xs : List Value} (h : w.ownsRow base 2 1 (.slice (some ⟨g, 0, none⟩) n cap) n xs) (hk : k ≤ n) :
    w.ownsRow base 2 1 (.slice (some ⟨g, 0, none⟩) k cap) k (xs.take k) := by
  have hl := h.1
  refine ⟨by simp; omega, ?_⟩
  rcases h.2 with ⟨e, -⟩ | ⟨g', cap', cur, hv, hb, hg, h1, h2, h3, h4⟩
  · cases e
  · cases hv
    refine .inr ⟨g, cap, cur, rfl, hb, hg, by omega, h2, h3, ?_⟩
    rw [← h4, List.take_take]
    congr 1
    omega
set_option maxRecDepth 100000 in
set_option maxHeartbeats 4000000 in
theorem deleteL (xs : List Int) (a : Option Addr) (cap bd bh base : Nat) (p : Int → Bool) (w : World) (hn : xs.length ≤ 1048576)
    (hO : w.ownsRow base 2 1 (.slice a xs.length cap) xs.length (xs.map (Value.int .i64)))
    (CC : ∀ W' y, w.grownBy W' (Value.slice a xs.length cap).ownBlock → Calls Try.prog 37 #[.int .i64 y, .pointer (some ⟨bd, 0, none⟩), .pointer (some ⟨bh, 0, none⟩)] W' fun e w' => e = .returned (.bool (!p y)) ∧ Below W'.heap.size W' w') :
    Calls Try.prog 38 #[.slice a xs.length cap, cloV bd bh] w fun e w' => e = .returned (.slice a (xs.filter p).length cap) ∧ w'.ownsRow base 2 1 (.slice a (xs.filter p).length cap) (xs.filter p).length ((xs.filter p).map (Value.int .i64)) ∧ w.grownBy w' (Value.slice a xs.length cap).ownBlock := by
  have C1 := Kp.mk (indexL (.slice a xs.length cap) xs bd bh p w (OwnI.mk hO |>.ints hn) (fun W' y hb => CC W' y (grown_bel hb _)))
  replace CC := Kp.mk CC
  replace hO := Kp.mk hO
  go_enter Try.func38, Try.ntmps38
  go_wp2_with fail
  refine C1.out.mono ?_
  rintro e w1 ⟨r, rfl, hr, hb1⟩
  have hg1 := grown_bel hb1 (Value.slice a xs.length cap).ownBlock
  have hO1 := Kp.mk (hO.out.kept (grown_bel hb1 none) (by
    cases a with
    | none => exact .inl rfl
    | some q => exact .inr (by simp [Value.ownBlock])))
  clear C1 hO hb1
  rcases hr.out with ⟨rfl, hf⟩ | ⟨i0, rfl, hi0, hp0, ht0⟩
  · replace hf := Kp.mk hf
    clear hr
    go_wp2_with fail
    go_ret
    rw [hf.out]
    exact ⟨rfl, hO1.out, hg1⟩
  clear hr
  obtain ⟨g, rfl⟩ : ∃ g, a = some ⟨g, 0, none⟩ := by
    rcases hO1.out.2 with ⟨-, e⟩ | ⟨g, cap', cur, hv, -⟩
    · omega
    · cases hv; exact ⟨g, rfl⟩
  have hcap : xs.length ≤ cap := by
    rcases hO1.out.2 with ⟨e, -⟩ | ⟨g', cap', cur, hv, -, -, h1, -⟩
    · cases e
    · cases hv; exact h1
  have hcap2 : cap ≤ maxLen := by
    rcases hO1.out.2 with ⟨e, -⟩ | ⟨g', cap', cur, hv, -, -, -, h1, -⟩
    · cases e
    · cases hv; exact h1
  unfold maxLen at hcap2
  have ht1 : Kp (xs.take i0 = (xs.take (i0 + 1)).filter p) := ⟨by
    rw [List.take_succ_eq_append_getElem hi0, List.filter_append, ht0]
    simp [hp0]⟩
  clear hp0 ht0
  go_wp2_with fail
  go_loopg [5, 6, 7] (xs.length - (i0 + 1)) (fun k s5 s6 _ wr => ∃ (i j : Nat) (zs : List Int), s5 = .int .i64 i ∧ s6 = .int .i64 j ∧ i < j ∧ j ≤ xs.length ∧ zs.length = xs.length ∧ Kp (zs.take i = (xs.take j).filter p) ∧ Kp (zs.drop j = xs.drop j) ∧ Kp (wr.ownsRow base 2 1 (.slice (some ⟨g, 0, none⟩) xs.length cap) xs.length (zs.map (Value.int .i64))) ∧ w.grownBy wr (some g) ∧ xs.length - j = k)
  case atStart => exact ⟨i0, i0 + 1, xs, rfl, by go_num, by omega, by omega, rfl, ht1, ⟨rfl⟩, hO1, hg1, rfl⟩
  case round =>
    clear hO1 ht1 hg1
    obtain ⟨i, j, zs, rfl, rfl, hij, hj, hl, h1, h2, hz, hg, rfl⟩ := hrel
    by_cases hlt : j < xs.length
    · have hget := keep_get hlt hl h2.out
      have hput := Kp.mk (keep_put (Nat.le_of_lt hij) hlt hl h1.out h2.out)
      have c0 : wr.cell? ⟨g, j, none⟩ = some (.int .i64 xs[j]) := by
        rw [hz.out.cellAt j (by omega), List.getElem?_map, List.getElem?_eq_getElem (by omega), hget]
        rfl
      have C := Kp.mk (CC.out wr xs[j] hg)
      clear hget
      generalize xs[j] = x at *
      cases hp : p x with
      | true =>
        rw [hp] at C
        obtain ⟨h1', h2'⟩ := hput.out.1 hp
        replace h1' := Kp.mk h1'
        replace h2' := Kp.mk h2'
        replace hp := Kp.mk hp
        clear hput h1 h2
        go_wp2_with fail
        refine C.out.mono ?_
        rintro e w2 ⟨rfl, hb2⟩
        have hz2 := Kp.mk (hz.out.kept (grown_bel hb2 none) (.inr (by simp [Value.ownBlock])))
        have hg2 := hg.trans (grown_bel hb2 _)
        clear C hz hg hb2 c0
        obtain ⟨z, cz⟩ : ∃ z, w2.cell? ⟨g, i, none⟩ = some z := ⟨_, by rw [hz2.out.cellAt i (by omega)]; exact List.getElem?_eq_getElem (by simp; omega)⟩
        have fz := hz2.out.frozenAt i
        have hst := Kp.mk (hz2.out.stored i (.int .i64 x))
        clear hz2
        go_wp2_with fail
        have hst2 := hst.out.1
        rw [← List.map_set] at hst2
        go_roundg (xs.length - (j + 1))
        case measure => omega
        case rel => exact ⟨i + 1, j + 1, zs.set i x, by go_num, by go_num, by omega, by omega, by simpa using hl, h1', h2', ⟨hst2⟩, hg2.trans hst.out.2, rfl⟩
      | false =>
        rw [hp] at C
        obtain ⟨h1', h2'⟩ := hput.out.2 hp
        replace h1' := Kp.mk h1'
        replace h2' := Kp.mk h2'
        replace hp := Kp.mk hp
        clear hput h1 h2
        go_wp2_with fail
        refine C.out.mono ?_
        rintro e w2 ⟨rfl, hb2⟩
        have hz2 := Kp.mk (hz.out.kept (grown_bel hb2 none) (.inr (by simp [Value.ownBlock])))
        have hg2 := hg.trans (grown_bel hb2 _)
        clear C hz hg hb2 c0
        go_wp2_with fail
        go_roundg (xs.length - (j + 1))
        case measure => omega
        case rel => exact ⟨i, j + 1, zs, rfl, by go_num, by omega, by omega, hl, h1', h2', hz2, hg2, rfl⟩
    · obtain rfl : j = xs.length := by omega
      have h3 := h1.out
      rw [List.take_length] at h3
      have hlen : i = (xs.filter p).length := by
        rw [← h3, List.length_take]
        omega
      obtain ⟨ys, k1, k2, k3⟩ := own_clear (List.replicate (xs.length - i) (.int .i64 0)) i hz.out
      have k4 := own_front k1 (Nat.le_of_lt hij)
      rw [k2, ← List.map_take, h3] at k4
      have hend := Kp.mk (And.intro k4 (hg.trans k3))
      have hcl : ∀ ty, (Builtin.clear_ #[22] ty #[.slice (some ⟨g, i, none⟩) (xs.length - i) (cap - i)]).run Try.prog wr = .ok (.tuple #[]) (wr.setCells g i (List.replicate (xs.length - i) (.int .i64 0))) :=
        fun ty => Lib.run_clear_slice wr 22 2 ty (.int .i64 0) Try.underlying22 zeroI64 rfl rfl g i _ _ (by omega) (fun q hq => by rw [hz.out.cellAt (i + q) (by omega), List.getElem?_eq_getElem (by simp; omega)]; rfl) (fun q hq => hz.out.frozenAt (i + q))
      replace hlen := Kp.mk hlen
      clear k1 k2 k3 k4 h1 h2 hz hg h3
      go_wp2_with (simp only [hcl])
      go_ret
      rw [← hlen.out]
      exact ⟨rfl, hend.out.1, hend.out.2⟩
end Go.Proofs.Ytbfpfjkjeekbdaa
