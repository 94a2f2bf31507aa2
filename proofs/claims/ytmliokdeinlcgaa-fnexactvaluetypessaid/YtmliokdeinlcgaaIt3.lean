/- The program's walk through the values that instructions define: its contract. -/
import Derived.Test.YtmliokdeinlcgaaIt2
import Derived.Shelf.Abstract
namespace Go.Proofs.Ytmliokdeinlcgaa
open Go.ChangeShapes Go.WideShapes Go.ChangeAt Go.RowKit
attribute [local go_sem] Oper.semAt_some
set_option linter.unusedVariables false
set_option linter.unusedSimpArgs false
theorem room_any {F : Fence} (hd : F.depth = none) (k : Nat) : F.room k := fun d h => by rw [hd] at h; cases h
theorem yield_any {F : Fence} (hd : F.depth = none) {m : Nat} (m' : Nat) {P : Program} {l : Nat} {args : Array Value} {W : World} {R : Ending → World → Prop} (h : YieldAt F m P l args W R) : YieldAt F m' P l args W R := by
  obtain ⟨fn, tmps, assign, body, hy, hR⟩ := h
  exact ⟨fn, tmps, assign, body, hy, hR.1, fun c cs _ => hR.2 c cs (room_any hd _)⟩
/-- The values that are defined, the first being n, with their places. -/
def defL (n : Int) : List ItD → List (Int × Nat × Nat)
  | [] => []
  | y :: r => if y.d.ty = 0 then defL n r else (n, y.b, y.i) :: defL (n + 1) r
def cntD (L : List ItD) : Nat := (L.filter fun y => !decide (y.d.ty = 0)).length
theorem cnt_take (L : List ItD) (k : Nat) (h : k < L.length) : cntD (L.take (k + 1)) = cntD (L.take k) + if L[k].d.ty = 0 then 0 else 1 := by
  unfold cntD
  rw [List.take_succ_eq_append_getElem h, List.filter_append, List.length_append]
  by_cases q : L[k].d.ty = 0 <;> simp [q]
theorem cnt_le (L : List ItD) (k : Nat) : cntD (L.take k) ≤ L.length := by
  unfold cntD
  have := List.length_filter_le (fun y => !decide (y.d.ty = 0)) (L.take k)
  have := List.length_take_le' k L
  omega
theorem defL_len (n : Int) (L : List ItD) : (defL n L).length = cntD L := by
  unfold cntD
  induction L generalizing n with
  | nil => rfl
  | cons y r ih =>
    by_cases q : y.d.ty = 0
    · simp [defL, q, ih]
    · simp [defL, q, ih]
theorem defL_at (n : Int) (L : List ItD) (k : Nat) (h : k < L.length) (ht : L[k].d.ty ≠ 0) : ∃ q : cntD (L.take k) < (defL n L).length, (defL n L)[cntD (L.take k)] = (n + cntD (L.take k), L[k].b, L[k].i) := by
  induction L generalizing n k with
  | nil => simp at h
  | cons y r ih =>
    cases k with
    | zero =>
      simp only [List.getElem_cons_zero] at ht
      simp [defL, ht, cntD]
    | succ k =>
      simp only [List.getElem_cons_succ] at ht ⊢
      by_cases q : y.d.ty = 0
      · obtain ⟨q1, q2⟩ := ih n k (by simpa using h) ht
        have e : cntD ((y :: r).take (k + 1)) = cntD (r.take k) := by simp [cntD, q]
        simp only [defL, q, if_true, e]
        exact ⟨q1, q2⟩
      · obtain ⟨q1, q2⟩ := ih (n + 1) k (by simpa using h) ht
        have e : cntD ((y :: r).take (k + 1)) = cntD (r.take k) + 1 := by simp [cntD, q]
        simp only [defL, q, if_false, e, List.length_cons, List.getElem_cons_succ]
        refine ⟨by omega, ?_⟩
        rw [q2]
        simp; omega
abbrev dfE (x : Int × Nat × Nat) : Array Value := #[.int .i64 x.1, .agg #[.int .i64 x.2.1, .int .i64 x.2.2]]
theorem instrsOf_c (name : ByteArray) (link res : Int) (vp vb : Value) (hp : ∃ a n c, vp = .slice a n c) (hb : ∃ a n c, vb = .slice a n c) (w : World) :
    Calls Try.prog 26 #[.agg #[.string name, .int .i64 link, vp, .int .i64 res, vb]] w fun e w' => e = .returned (.func (.func 40) #[] #[.pointer (some ⟨w.heap.size, 0, none⟩)]) ∧ w' = w.alloc (.cells #[.string name, .int .i64 link, vp, .int .i64 res, vb] 31) := by
  obtain ⟨a1, n1, c1, rfl⟩ := hp
  obtain ⟨a2, n2, c2, rfl⟩ := hb
  go_enter Try.func26, Try.ntmps26
  go_wp2
  go_ret
  exact ⟨rfl, rfl⟩
theorem definitionsOf_c (name : ByteArray) (link res : Int) (vp vb : Value) (hp : ∃ a n c, vp = .slice a n c) (hb : ∃ a n c, vb = .slice a n c) (w : World) :
    Calls Try.prog 27 #[.agg #[.string name, .int .i64 link, vp, .int .i64 res, vb]] w fun e w' => e = .returned (.func (.func 41) #[] #[.pointer (some ⟨w.heap.size, 0, none⟩)]) ∧ w' = w.alloc (.cells #[.string name, .int .i64 link, vp, .int .i64 res, vb] 31) := by
  obtain ⟨a1, n1, c1, rfl⟩ := hp
  obtain ⟨a2, n2, c2, rfl⟩ := hb
  go_enter Try.func27, Try.ntmps27
  go_wp2
  go_ret
  exact ⟨rfl, rfl⟩
set_option maxRecDepth 100000 in
set_option maxHeartbeats 2000000 in
theorem defs_seq (n : Nat) (S : Nat → Prop) (n0 Bf : Nat) (w0 : World) (name : ByteArray) (link res : Int) (vp vb : Value) (np : Nat) (hp : ∃ a c, vp = .slice a np c) (hb : ∃ a n c, vb = .slice a n c) (Y : List (List ItD)) (hY : ItBls n0 w0 vb Y)
    (hx : Below n0 w0 w0) (h0 : At w0 Bf 0 (.string name)) (h1 : At w0 Bf 1 (.int .i64 link)) (h2 : At w0 Bf 2 vp) (h3 : At w0 Bf 3 (.int .i64 res)) (h4 : At w0 Bf 4 vb) (hS : ∀ k, k < n0 → S k) (hB : S Bf) (hSw : ∀ k, S k → k < w0.heap.size)
    (hbd : np + Y.flatten.length ≤ 1099511627776) :
    SeqL Fence.wide n Try.prog 41 #[.pointer (some ⟨Bf, 0, none⟩)] dfE S (defL np Y.flatten) w0 := by
  intro l J Jx W hW hJ hJx hR hJ0
  have K0 : Kq S w0 W := Kq.below hW hSw
  obtain ⟨a1, c1, rfl⟩ := hp
  obtain ⟨a2, n2, c2, rfl⟩ := hb
  replace h0 := K0.at hB h0
  replace h1 := K0.at hB h1
  replace h2 := K0.at hB h2
  replace h3 := K0.at hB h3
  replace h4 := K0.at hB h4
  replace hY := Kp.mk hY
  replace hR := Kp.mk hR
  replace hS := Kp.mk hS
  refine callsIn_wide.2 ((callsIn_wide (n := 9)).1 ?_)
  refine callsIn_of_wp_marks Try.func41 rfl trivial ?_ rfl
  simp only [Try.ntmps41, List.size_toArray, List.length_cons, List.length_nil, Nat.reduceAdd, Nat.reduceSub, Array.replicate_succ, Array.replicate_zero, List.push_toArray, List.append_toArray, List.nil_append, List.cons_append]
  have C : Kp (∀ w, CallsIn Fence.wide 8 Try.prog _ _ w _) := ⟨fun w => callsIn_wide.2 (instrsOf_c name link res (.slice a1 np c1) (.slice a2 n2 c2) ⟨_, _, _, rfl⟩ ⟨_, _, _, rfl⟩ w)⟩
  have q2 := at_keep h2 (bel_alloc W (Go.Obj.cells #[.func (.yield l) #[] #[]] 85))
  have hW2 : Below W.heap.size W ((W.alloc (Go.Obj.cells #[.func (.yield l) #[] #[]] 85)).alloc (Go.Obj.cells #[.int .i64 np] 2)) := bel_trans (bel_alloc _ _) (bel_alloc _ _)
  replace h0 := at_keep h0 hW2
  replace h1 := at_keep h1 hW2
  replace h2 := at_keep h2 hW2
  replace h3 := at_keep h3 hW2
  replace h4 := at_keep h4 hW2
  gi_wp2
  refine ⟨trivial, ?_⟩
  refine (C.out _).mono ?_
  rintro e w' ⟨rfl, rfl⟩
  obtain ⟨W3, hW3⟩ : ∃ W3, W3 = ((W.alloc (Go.Obj.cells #[.func (.yield l) #[] #[]] 85)).alloc (Go.Obj.cells #[.int .i64 np] 2)).alloc (Go.Obj.cells #[.string name, .int .i64 link, .slice a1 np c1, .int .i64 res, .slice a2 n2 c2] 31) := ⟨_, rfl⟩
  have hz3 : W3.heap.size = W.heap.size + 3 := by rw [hW3]; simp
  have hB3 : Below W.heap.size W W3 := by rw [hW3]; exact bel_trans hW2 (bel_alloc _ _)
  have y0 : W3.heap[W.heap.size]? = some (Go.Obj.cells #[.func (.yield l) #[] #[]] 85 (0, 0)) := by
    rw [hW3, (MapKept.heap_alloc _ _).2 _ (by simp; omega), (MapKept.heap_alloc _ _).2 _ (by simp)]; exact (MapKept.heap_alloc W _).1
  have v0 : W3.heap[W.heap.size + 1]? = some (Go.Obj.cells #[.int .i64 np] 2 (0, 0)) := by
    rw [hW3, (MapKept.heap_alloc _ _).2 _ (by simp)]
    have := (MapKept.heap_alloc (W.alloc (Go.Obj.cells #[.func (.yield l) #[] #[]] 85)) (Go.Obj.cells #[.int .i64 np] 2)).1
    rwa [World.size_alloc] at this
  have f4 : At W3 (W.heap.size + 2) 4 (.slice a2 n2 c2) := by
    have := al_at ((W.alloc (Go.Obj.cells #[.func (.yield l) #[] #[]] 85)).alloc (Go.Obj.cells #[.int .i64 np] 2)) #[.string name, .int .i64 link, .slice a1 np c1, .int .i64 res, .slice a2 n2 c2] 31 (j := 4) (v := .slice a2 n2 c2) rfl
    rw [hW3]
    simpa using this
  simp only [World.size_alloc] at *
  rw [← hW3]
  clear hW3 q2 hW2 h0 h1 h2 h3 h4 C
  have hsW : ∀ k, S k → k < W.heap.size := fun k hk => by have := hSw k hk; have := hW.size; omega
  have KW3 : Kq S W W3 := Kq.below hB3 hsW
  have hY3 := hY.out.kq (K0.trans KW3) hS.out
  obtain ⟨S2, hS2⟩ : ∃ S2 : Nat → Prop, S2 = fun k => S k ∨ k = W.heap.size + 1 + 1 := ⟨_, rfl⟩
  have hs2 : ∀ k, S2 k → k < W3.heap.size := fun k hk => by
    rw [hS2] at hk
    rcases hk with hk | hk
    · have := hsW k hk; omega
    · omega
  have L0 : Kp (defL np Y.flatten = defL np Y.flatten) := ⟨rfl⟩
  gi_wp2
  refine wpIn_rangeL rfl (by decide) (gf := 40) (lb := #[.pointer (some ⟨W.heap.size + 1 + 1, 0, none⟩)]) rfl trivial (enters_of Try.func40 (by kernel_rfl) rfl)
    (instrs_seq Fence.wide (9 - 1) trivial rfl (by decide) S2 n0 (W.heap.size + 1 + 1) W3 (.slice a2 n2 c2) Y hY3 f4 (fun k hk => by rw [hS2]; exact .inl (hS.out k hk)) (by rw [hS2]; exact .inr rfl) hs2) (Below.refl _ _) hs2 (fun _ => rfl)
    (fun k X => J (cntD (Y.flatten.take k)) X ∧ X.heap[W.heap.size]? = some (Go.Obj.cells #[.func (.yield l) #[] #[]] 85 (0, 0)) ∧ X.heap[W.heap.size + 1]? = some (Go.Obj.cells #[.int .i64 (np + cntD (Y.flatten.take k) : Nat)] 2 (0, 0)) ∧ Kq S W X)
    (fun c k X => c = .ret ∧ ∃ m, m < (defL np Y.flatten).length ∧ Jx (m + 1) X) ?hI ?hIx ?h0
    (fun x a' X => ∃ B1 B2, W3.heap.size ≤ B1 ∧ W3.heap.size ≤ B2 ∧ X.heap[B1]? = some (Go.Obj.cells #[.int .i64 x.b, .int .i64 x.i] 41 (0, 0)) ∧ At X B2 1 (.int .i64 x.d.ty) ∧ ∃ u11 u12,
      a' = { tmps := #[.func (.yield l) #[] #[], .pointer (some ⟨Bf, 0, none⟩), .pointer (some ⟨W.heap.size, 0, none⟩), .pointer (some ⟨W.heap.size + 1, 0, none⟩), .pointer (some ⟨B1, 0, none⟩), .pointer (some ⟨B2, 0, none⟩), .pointer (some ⟨Bf, 2, none⟩), .slice a1 np c1, .int .i64 np,
        .agg #[.string name, .int .i64 link, .slice a1 np c1, .int .i64 res, .slice a2 n2 c2], .func (.func 40) #[] #[.pointer (some ⟨W.heap.size + 1 + 1, 0, none⟩)], u11, u12, undef, undef, undef, undef, undef, undef, undef, undef, undef, undef], defers := [] }) ?hAx ?assign ?body ?done ?stop
  case hI =>
    rintro k A C ⟨s1, s2, s3, s4⟩ hA hB
    exact ⟨hJ _ A C s1 (by omega) (hB.mono (by omega)), (hB.block _ (by omega)).trans s2, (hB.block _ (by omega)).trans s3, s4.trans (Kq.below hB (fun j hj => by have := hsW j hj; omega))⟩
  case hIx =>
    rintro c k A C ⟨s1, m, s2, s3⟩ hA hB
    exact ⟨s1, m, s2, hJx (m + 1) A C s3 (by omega) (hB.mono (by omega))⟩
  case h0 => exact ⟨hJ 0 W W3 hJ0 (Nat.le_refl _) hB3, y0, by simpa [cntD] using v0, KW3⟩
  case hAx =>
    rintro x a' u A C row ⟨B1, B2, b1, b2, p1, p2, p3⟩ hg hr
    refine ⟨B1, B2, b1, b2, (hg.block B1 (Array.getElem?_eq_some_iff.1 p1).1 (fun e => ?_)).trans p1, cell_kept p2 hg (fun r e => (hr r e).2), p3⟩
    obtain ⟨-, o, ho, hc⟩ := hr B1 e.symm
    rw [p1] at ho
    cases ho
    cases hc
  case assign =>
    intro lr k hk X K hi hX hK
    have sh := hY.out.sh (List.getElem_mem hk)
    clear hi
    generalize Y.flatten[k] = y at *
    obtain ⟨yb, yi, d, va, vb, vw⟩ := y
    obtain ⟨⟨p1, m1, g1, rfl⟩, ⟨p2, m2, g2, rfl⟩, ⟨p3, m3, g3, rfl⟩⟩ := sh
    simp only [itE, List.zip_toArray, List.zip_cons_cons, List.zip_nil_right, List.foldl_toArray', List.foldl_cons, List.foldl_nil, List.setIfInBounds_toArray, List.set_cons_succ, List.set_cons_zero, Array.zip, List.toList_toArray]
    gi_wp2
    refine hK _ _ (bel_trans (bel_alloc _ _) (bel_alloc _ _)) ⟨X.heap.size, X.heap.size + 1, hX, by omega, ?_, ?_, _, _, rfl⟩
    · rw [(MapKept.heap_alloc _ _).2 _ (by simp)]; exact (MapKept.heap_alloc X _).1
    · have := al_at (X.alloc (Go.Obj.cells #[.int .i64 yb, .int .i64 yi] 41)) #[.int .i64 d.op, .int .i64 d.ty, .int .i64 d.fl, .int .i64 d.pr, .int .i64 d.ca, .int .i64 d.sz, .slice p1 m1 g1, .slice p2 m2 g2, .slice p3 m3 g3] 39 (j := 1) (v := .int .i64 d.ty) rfl
      simpa using this
  case body =>
    rintro lr k hk a' X hX ⟨i1, i2, i3, i4⟩ ⟨B1, B2, b1, b2, p1, p2, u11, u12, rfl⟩
    have hcb : X.cell? ⟨W.heap.size, 0, none⟩ = some (.func (.yield l) #[] #[]) := by simp [World.cell?, i2]
    have hcv : X.cell? ⟨W.heap.size + 1, 0, none⟩ = some (.int .i64 (np + cntD (Y.flatten.take k) : Nat)) := by simp [World.cell?, i3]
    have hp0 : X.cell? ⟨B1, 0, none⟩ = some (.int .i64 Y.flatten[k].b) := by simp [World.cell?, p1]
    have hp1 : X.cell? ⟨B1, 1, none⟩ = some (.int .i64 Y.flatten[k].i) := by simp [World.cell?, p1]
    have hct := cnt_take Y.flatten k hk
    have hle := cnt_le Y.flatten k
    by_cases ht : Y.flatten[k].d.ty = 0
    · rw [ht] at p2
      rw [if_pos ht, Nat.add_zero] at hct
      replace hct := Kp.mk hct
      gi_wp2
      exact ⟨Kd.refl _ _ _, by rw [hct.out]; exact i1, i2, by rw [hct.out]; exact i3, i4⟩
    · obtain ⟨hq, hdf⟩ := defL_at np Y.flatten k hk ht
      have hR2 := hR.out _ hq X i1 (by omega)
      rw [hdf] at hR2
      rw [if_neg ht] at hct
      have hb0 : (Y.flatten[k].d.ty == 0) = false := beq_eq_false_iff_ne.2 ht
      replace hct := Kp.mk hct
      replace hq := Kp.mk hq
      clear hdf ht
      generalize Y.flatten[k] = y at *
      generalize cntD (Y.flatten.take k) = m at *
      obtain ⟨fn, tmps, assign, body, hy, hRR⟩ := yield_any rfl 6 hR2
      dsimp only [dfE] at hy
      have hzX : W.heap.size + 1 < X.heap.size := by omega
      gi_wp2
      refine RoundIn.mono (show RoundIn (Fence.wide.inRound lr) 6 _ _ _ _ _ _ _ _ from hRR) ?_
      rintro e X3 (⟨rfl, hJ3, hk3⟩ | ⟨rfl, hJx3, hk3⟩)
      · have j2 : X3.heap[W.heap.size]? = _ := (hk3.high W.heap.size (Nat.le_refl _) (by omega)).trans i2
        have j3 : X3.heap[W.heap.size + 1]? = _ := (hk3.high (W.heap.size + 1) (by omega) (by omega)).trans i3
        have hcv3 : X3.cell? ⟨W.heap.size + 1, 0, none⟩ = some (.int .i64 (np + m : Nat)) := by simp [World.cell?, j3]
        have hfv3 : X3.frozen? ⟨W.heap.size + 1, 0, none⟩ = false := by simp [World.frozen?, j3]
        gi_wp2
        refine ⟨?_, ?_, ?_, ?_, ?_⟩
        · have hm3 : Kd S2 W3.heap.size X X3 := hk3.mono (M := W3.heap.size) (by omega) (fun j hj => by
            rw [hS2] at hj
            rcases hj with hj | hj
            · exact .inl hj
            · exact .inr ⟨by omega, by omega⟩)
          have hne : ¬ S2 (W.heap.size + 1) := by
            intro hj
            rw [hS2] at hj
            rcases hj with hj | hj
            · have := hsW _ hj; omega
            · omega
          exact hm3.setCell (p := ⟨W.heap.size + 1, 0, none⟩) hne (show W.heap.size + 1 < W3.heap.size by omega) _
        · rw [hct.out]; exact hJ _ _ _ hJ3 (by have := hk3.size; omega) (bel_set (Below.refl _ _) (by omega) _)
        · exact (Below.heap_setCell _ _ _ _ (by simp)).trans j2
        · rw [hct.out, ← Nat.add_assoc]
          have := Boxed.set (.int .i64 ((np : Int) + m + 1)) (show Boxed X3 (W.heap.size + 1) _ _ from j3)
          simpa [Boxed] using this
        · exact i4.trans (hk3.kq.trans (Kq.below (bel_set (Below.refl W.heap.size _) (by omega) _) hsW))
      · gi_wp2
        refine ⟨?_, rfl, m, hq.out, hJx3⟩
        exact hk3.mono (M := W3.heap.size) (by omega) (fun j hj => by
            rw [hS2] at hj
            rcases hj with hj | hj
            · exact .inl hj
            · exact .inr ⟨by omega, by omega⟩)
  case done =>
    rintro D X hD ⟨i1, i2, i3, i4⟩ hK
    rw [List.take_length, ← defL_len np Y.flatten] at i1
    gi_wp2
    refine ⟨by simp, .inl ⟨_, _, rfl, run_takeDeferred hK, ?_⟩⟩
    refine ⟨_, results_none rfl _ _ _, ⟨_, rfl⟩, .inl ?_⟩
    exact hJ.putObj _ i1 (by omega) (by have := (Array.getElem?_eq_some_iff.1 hK).1; omega)
  case stop =>
    rintro D c k X hD hk ⟨rfl, m, hm, hx⟩ hK
    gi_wp2
    refine ⟨by simp, .inl ⟨_, _, rfl, run_takeDeferred hK, ?_⟩⟩
    refine ⟨_, results_none rfl _ _ _, ⟨_, rfl⟩, .inr ⟨m, hm, ?_⟩⟩
    exact hJx.putObj _ hx (by omega) (by have := (Array.getElem?_eq_some_iff.1 hK).1; omega)
end Go.Proofs.Ytmliokdeinlcgaa
