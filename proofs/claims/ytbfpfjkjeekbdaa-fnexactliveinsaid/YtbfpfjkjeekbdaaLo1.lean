/- The least on the way up, which is cut short: the program's answer. -/
import Derived.Test.YtbfpfjkjeekbdaaHr1
import Derived.Test.YtbfpfjkjeekbdaaDm1
import Derived.Test.YtbfpfjkjeekbdaaGs1
import Derived.RangeFuncBox
import Derived.Lib.MinMax
namespace Go.Proofs.Ytbfpfjkjeekbdaa
open Go.ChangeShapes Go.WideShapes Go.ChangeAt Go.RowKit
attribute [local go_sem] Oper.semAt_some
set_option linter.unusedVariables false
set_option linter.unusedSimpArgs false
theorem wpListIn_append_run2 {F : Fence} {n : Nat} {P : Program} (w : World) {ops : Array Oper} {rest : List Oper} {o : Oper} {a : Act} {Q : Exit → Act → World → Prop} (hg : o.guard = none) (s x : Operand) (t : TypeId)
    (hop : o.op = Op.call { callee := Callee.builtin Builtin.append, args := #[s, x], argTypes := #[t, t] }) {v : Value} {w' : World} (hr : (Builtin.append_ #[t, t] o.type #[a.eval s, a.eval x]).run P w = .ok v w')
    (h : wpListIn F n P ops Q rest (a.put o.dst v) w') : wpListIn F n P ops Q (o :: rest) a w := by
  refine wpListIn_plain hg fun K hK => ?_
  unfold Oper.wpIn
  refine ⟨?_, ?_⟩
  · simp [Oper.about, hop, resolve, Target.leads, Sem.run_pure]
  · rw [Oper.semAt_plain F _ _ (by rw [hop]; intro c hc; cases hc)]
    simp [execOp, hop, resolve, invoke, builtin, hr, Result.andThen]
    exact hK _ _ h
/-- The way up. -/
def itr (up : Nat → Nat) (a : Nat) : Nat → Nat
  | 0 => a
  | i + 1 => up (itr up a i)
abbrev wsL (up : Nat → Nat) (a N : Nat) : List Int := (List.range N).map (fun i => (itr up a i : Int))
theorem wsL_snoc (up : Nat → Nat) (a N : Nat) : wsL up a (N + 1) = wsL up a N ++ [(itr up a N : Int)] := by simp [wsL, List.range_succ]
theorem wsL_len (up : Nat → Nat) (a N : Nat) : (wsL up a N).length = N := by simp
theorem setN_row (z : Nat → Nat) (j y : Nat) : (fun i => (setN z j y i : Int)) = upd (fun i => (z i : Int)) j (y : Int) := by
  funext i
  unfold setN upd
  split <;> rfl
/-- What holds where k of the way's N numbers have been taken, from the last on. -/
structure LoK (M : Nat) (fr ls up : Nat → Nat) (first a N bu bl : Nat) (Bo : Obj) (w : World) (k : Nat) (W : World) (up' low' : Nat → Nat) : Prop where
  U : RowI W bu M (fun i => (up' i : Int))
  L : RowI W bl M (fun i => (low' i : Int))
  A : Asc M fr ls up' low' first
  old : ∀ i, i < N - k → up' (itr up a i) = itr up a (i + 1)
  cut : up' (itr up a (N - k)) < first
  box : W.heap[w.heap.size]? = some Bo
  frm : Fr w W bu (some bl)
theorem LoK.same {M : Nat} {fr ls up up' low' : Nat → Nat} {first a N bu bl k : Nat} {Bo : Obj} {w W W' : World} (h : LoK M fr ls up first a N bu bl Bo w k W up' low') (hb : Below W.heap.size W W') : LoK M fr ls up first a N bu bl Bo w k W' up' low' :=
  ⟨h.U.keep hb, h.L.keep hb, h.A, h.old, h.cut, keep_cells h.box hb, h.frm.below_then hb⟩
set_option maxRecDepth 100000 in
set_option maxHeartbeats 8000000 in
theorem lowestI (M : Nat) (fr ls up low : Nat → Nat) (n a : Nat) (bu bl cu cl : Nat) (w : World) (hU : RowI w bu M (fun i => (up i : Int))) (hL : RowI w bl M (fun i => (low i : Int))) (hne : bu ≠ bl)
    (A : Asc M fr ls up low (n + 1)) (hfr : ∀ b, 0 < b → b < M → fr b < b) (hf0 : fr 0 = 0) (hM : M ≤ 1048576) (ha : a < M) (hnM : n < M) :
    Calls Try.prog 73 #[.agg #[.slice (some ⟨bu, 0, none⟩) M cu, .slice (some ⟨bl, 0, none⟩) M cl], .int .i64 a, .int .i64 ((n : Int) + 1)] w fun e w' => ∃ (m : Nat) (up' low' : Nat → Nat), e = .returned (.int .i64 m) ∧ RowI w' bu M (fun i => (up' i : Int)) ∧ RowI w' bl M (fun i => (low' i : Int)) ∧ Asc M fr ls up' low' (n + 1) ∧ Told M fr ls n a m ∧ Fr w w' bu (some bl) := by
  have hbu := hU.lt
  have hbl := hL.lt
  obtain ⟨i0, hi0, hz0, hz1, hz2⟩ := info_parts info64
  -- what lies up from a
  have hup : ∀ v, v < M → n + 1 ≤ up v → n + 1 ≤ v ∧ up v < v := fun v hv h => by
    by_cases q : n + 1 ≤ v
    · exact ⟨q, (A.over v q hv).2⟩
    · exfalso
      have := (A.anew v (by omega) hv).2
      by_cases e : v = 0
      · subst e; omega
      · have := hfr v (by omega) hv; omega
  obtain ⟨Bo, hBo⟩ : ∃ Bo, Kp (Bo = Go.Obj.cells #[.slice (some ⟨bu, 0, none⟩) M cu, .slice (some ⟨bl, 0, none⟩) M cl] 129 (0, 0)) := ⟨_, ⟨rfl⟩⟩
  obtain ⟨W0, hW0⟩ : ∃ W0, Kp (W0 = w.alloc (Go.Obj.cells #[.slice (some ⟨bu, 0, none⟩) M cu, .slice (some ⟨bl, 0, none⟩) M cl] 129)) := ⟨_, ⟨rfl⟩⟩
  have hB0 : Below w.heap.size w W0 := by rw [hW0.out]; exact bel_alloc _ _
  have hbx : W0.heap[w.heap.size]? = some Bo := by rw [hW0.out, hBo.out]; exact new_cells w _
  have hz0' : W0.heap.size = w.heap.size + 1 := by rw [hW0.out]; simp
  have XC : Kp (∀ W : World, W.heap[w.heap.size]? = some Bo → W.cell? ⟨w.heap.size, 0, none⟩ = some (.slice (some ⟨bu, 0, none⟩) M cu) ∧ W.cell? ⟨w.heap.size, 1, none⟩ = some (.slice (some ⟨bl, 0, none⟩) M cl)) := ⟨fun W h => by
    rw [hBo.out] at h
    exact ⟨at_cells h rfl, at_cells h rfl⟩⟩
  have CB : Kp (∀ (v : Value) (W : World), (∃ a n c, v = .slice a n c) → CallsIn Fence.wide 11 Try.prog 89 #[v] W _) := ⟨fun v W hv => callsIn_wide.2 (backC v hv W)⟩
  have hU0 := hU.keep hB0
  have hL0 := hL.keep hB0
  refine (callsIn_wide (n := 12)).1 ?_
  refine callsIn_of_wp_marks Try.func73 rfl trivial ?_ rfl
  simp only [Try.ntmps73, List.size_toArray, List.length_cons, List.length_nil, Nat.reduceAdd, Nat.reduceSub, Array.replicate_succ, Array.replicate_zero, List.push_toArray, List.append_toArray, List.nil_append, List.cons_append]
  replace hup := Kp.mk hup
  replace hfr := Kp.mk hfr
  have hnI : (n : Int) + 1 ≤ 1048577 := by omega
  rw [hW0.out] at hU0 hL0 hbx hB0 hz0'
  gi_wp2
  gi_loopw [7, 8] (fun v r wr => ∃ N : Nat, r = .int .i64 (itr up a N) ∧ itr up a N < M ∧ (∀ i, i < N → n + 1 ≤ itr up a (i + 1)) ∧ N + itr up a N ≤ a ∧ OwnI wr (w.heap.size + 1) v (wsL up a N) ∧ RowI wr bu M (fun i => (up i : Int)) ∧ RowI wr bl M (fun i => (low i : Int)) ∧ wr.heap[w.heap.size]? = some Bo ∧ Below w.heap.size w wr ∧ w.heap.size + 1 ≤ wr.heap.size) (fun _ r _ => (intOf r).toNat)
  case atStart => exact ⟨0, rfl, ha, fun i hi => absurd hi (by omega), by simp [itr], ⟨World.ownsRow_nil _ _ _ _⟩, hU0, hL0, hbx, hB0, by omega⟩
  case round =>
    clear hU0 hL0 hbx hB0
    obtain ⟨N, rfl, hlt, hge, hNa, hO, hU, hL, hbx, hB, hsz⟩ := hrel
    obtain ⟨x0, x1⟩ := XC.out wr hbx
    have c0 := hU.at hlt
    have hnx := hup.out _ hlt
    have hsn := wsL_snoc up a N
    have hit : itr up a (N + 1) = up (itr up a N) := rfl
    generalize hq : itr up a N = q at *
    obtain ⟨av, cv, rfl⟩ := hO.shape
    rw [wsL_len] at *
    have q0 : (0 : Int) ≤ (q : Int) := by omega
    have q1 : (q : Int) < (M : Int) := by omega
    have hNm : N ≤ 1048576 := by omega
    generalize hp : up q = p at *
    by_cases hpn : n + 1 ≤ p
    · obtain ⟨hq1, hq2⟩ := hnx hpn
      have hpi : (n : Int) + 1 ≤ (p : Int) := by omega
      have hOa := hO.keep (bel_alloc wr (Go.Obj.cells #[.int .i64 (q : Int)] 2))
      have hsa : w.heap.size + 1 ≤ (wr.alloc (Go.Obj.cells #[.int .i64 (q : Int)] 2)).heap.size := by simp; omega
      have hr := hOa.r
      rw [wsL_len] at hr
      obtain ⟨gg, cap, w2, hrun, hown, hgrow, hat, hltg⟩ := run_append_lies (P := Try.prog) (wr.alloc (Go.Obj.cells #[.int .i64 (q : Int)] 2)) 22 22 (w.heap.size + 1) 2 i0 _ 1 8 Try.underlying22 hi0 hz0 hz1 hz2 rfl (by omega) _ _ _ hr ⟨wr.heap.size, 0, none⟩ 1 1 [.int .i64 (q : Int)] rfl (World.news_of_block (cs := #[.int .i64 (q : Int)]) (t := 2) (fr := (0, 0)) (new_cells _ _)) (by simp [Value.oneCell']) (by omega) (by unfold maxLen; omega) (by omega) hsa (wr.heap.size + 1) (by simp)
      have hrw : ∀ k, (Value.slice av N cv).ownBlock = some k → w.heap.size + 1 ≤ k := fun k hk => (hr.lt k hk).1
      have hU2 := (hU.keep (bel_alloc wr (Go.Obj.cells #[.int .i64 (q : Int)] 2))).kept hgrow (fun e => by have := hrw _ e.symm; omega)
      have hL2 := (hL.keep (bel_alloc wr (Go.Obj.cells #[.int .i64 (q : Int)] 2))).kept hgrow (fun e => by have := hrw _ e.symm; omega)
      have hbx2 : w2.heap[w.heap.size]? = some Bo := (hgrow.block _ (by simp; omega) (fun e => by have := hrw _ e.symm; omega)).trans (keep_cells hbx (bel_alloc wr _))
      have hB2 := (bel_trans hB (bel_alloc wr (Go.Obj.cells #[.int .i64 (q : Int)] 2))).grown hgrow (by simp; omega) (fun k hk => by have := hrw k hk; omega)
      have hs2 : w.heap.size + 1 ≤ w2.heap.size := by have := hgrow.size; omega
      have hO2 : OwnI w2 (w.heap.size + 1) (.slice (some ⟨gg, 0, none⟩) (N + 1) cap) (wsL up a (N + 1)) := ⟨by rw [wsL_len, hsn, List.map_append]; exact hown⟩
      obtain ⟨z0, z1⟩ := XC.out w2 hbx2
      have d0 := hU2.at (i := q) (by omega)
      rw [hp] at d0
      replace hU := Kp.mk hU
      replace hL := Kp.mk hL
      replace hO := Kp.mk hO
      replace hrun := Kp.mk hrun
      replace hp := Kp.mk hp
      replace hq := Kp.mk hq
      replace hit := Kp.mk hit
      replace hsn := Kp.mk hsn
      replace hO2 := Kp.mk hO2
      clear hown hgrow hat hOa hr
      gi_wp2_with (gi_at_builtin; refine wpListIn_append_run2 _ rfl (.tmp 25) (.tmp 27) 22 rfl hrun.out ?_)
      refine ⟨⟨N + 1, by rw [hit.out], by rw [hit.out]; omega, fun i hi => ?_, by rw [hit.out]; omega, hO2.out, hU2, hL2, hbx2, hB2, hs2⟩, by simp [intOf]; omega⟩
      by_cases e : i = N
      · subst e; rw [hit.out]; exact hpn
      · exact hge i (by omega)
    · --RANGE
      have hpi : ¬ (n : Int) + 1 ≤ (p : Int) := by omega
      have hr := hO.r
      rw [wsL_len] at hr
      obtain ⟨W3, hW3⟩ : ∃ W3, Kp (W3 = wr.alloc (Go.Obj.cells #[.slice av N cv] 22)) := ⟨_, ⟨rfl⟩⟩
      have hB3 : Below wr.heap.size wr W3 := by rw [hW3.out]; exact bel_alloc _ _
      have hs3 : W3.heap.size = wr.heap.size + 1 := by rw [hW3.out]; simp
      have hbc : W3.heap[wr.heap.size]? = some (Go.Obj.cells #[.slice av N cv] 22 (0, 0)) := by rw [hW3.out]; exact new_cells _ _
      obtain ⟨S, hSd⟩ : ∃ S : Nat → Prop, S = fun k => w.heap.size + 1 ≤ k ∧ k < W3.heap.size := ⟨_, rfl⟩
      have hSi : ∀ k, S k ↔ w.heap.size + 1 ≤ k ∧ k < W3.heap.size := fun k => by rw [hSd]
      clear hSd
      have hrest : RestOk S W3 (.slice av N cv) (wsL up a N) := by
        obtain ⟨b, o, ⟨⟨_, _, e, s1, s2⟩, s3⟩, -, hc⟩ := (hO.ints (by rw [wsL_len]; exact hNm)).ex
        rw [wsL_len] at *
        cases e
        by_cases h0 : 0 < N
        · obtain rfl := s2 h0
          refine ⟨b, o, by rw [wsL_len]; exact ⟨⟨_, _, rfl, s1, fun _ => rfl⟩, s3⟩, (hSi b).2 ⟨?_, ?_⟩, fun i hi => at_keep (hc i hi) hB3⟩
          · exact (hr.lt b rfl).1
          · have := (hr.lt b rfl).2; omega
        · exact ⟨wr.heap.size, 0, by rw [wsL_len]; exact ⟨⟨_, _, rfl, s1, fun h => absurd h h0⟩, s3⟩, (hSi _).2 ⟨by omega, by omega⟩, fun i hi => by rw [wsL_len] at hi; omega⟩
      have hseq : SeqF Fence.wide (12 - 1) Try.prog 108 #[.pointer (some ⟨wr.heap.size, 0, none⟩)] (bkE (wsL up a N)) S (bkL N) W3 := by
        have := back_seq (12 - 1) S W3 wr.heap.size _ _ hrest (by rw [wsL_len]; exact hNm) (at_cells hbc rfl) ((hSi _).2 ⟨by omega, by omega⟩) (fun k hk => ((hSi k).1 hk).2)
        rwa [wsL_len] at this
      have hI0 : LoK M fr ls up (n + 1) a N bu bl Bo w 0 W3 up low := ⟨hU.keep hB3, hL.keep hB3, A, fun i hi => rfl, by rw [Nat.sub_zero, hq, hp]; omega, keep_cells hbx hB3, Fr.of_below (bel_trans hB hB3)⟩
      have hw3 : w.heap.size + 1 < W3.heap.size := by omega
      have hab : AbF W3.heap.size (fun k (T : Nat → Prop) X => (∀ b, ¬ T b) ∧ ∃ up' low', LoK M fr ls up (n + 1) a N bu bl Bo w k X up' low') := by
        constructor
        · rintro k T X C ⟨h1, up', low', h2⟩ hX hK
          refine ⟨h1, up', low', h2.U.same (hK.low _ (by omega)), h2.L.same (hK.low _ (by omega)), h2.A, h2.old, h2.cut, (hK.low _ (by omega)).trans h2.box, ⟨hK.os.trans h2.frm.os, hK.tape.trans h2.frm.tape, hK.output.trans h2.frm.output, Nat.le_trans h2.frm.size hK.size, fun j hj q1 q2 => (hK.low j (by omega)).trans (h2.frm.block j hj q1 q2)⟩⟩
        · rintro k T X ⟨h1, -⟩ b hb
          exact absurd hb (h1 b)
      have hage : ∀ i, i ≤ N → n + 1 ≤ a ∨ i = 0 := fun i hi => by
        by_cases e : i = 0
        · exact .inr e
        · have := hge 0 (by omega)
          exact .inl (hup.out a ha this).1
      have hdec : ∀ i, i < N → itr up a (i + 1) < itr up a i ∧ itr up a i < M ∧ n + 1 ≤ itr up a i := by
        have hM' : ∀ i, i ≤ N → itr up a i < M := by
          intro i
          induction i with
          | zero => exact fun _ => ha
          | succ i ih =>
            intro hi
            have h1 := ih (by omega)
            have := hup.out _ h1 (hge i (by omega))
            show up (itr up a i) < M
            omega
        intro i hi
        have h1 := hM' i (by omega)
        have := hup.out _ h1 (hge i hi)
        exact ⟨this.2, h1, this.1⟩
      have hdec2 : ∀ i j, i < j → j ≤ N → itr up a j < itr up a i := by
        intro i j hij
        induction j with
        | zero => omega
        | succ j ih =>
          intro hj
          have h1 := (hdec j (by omega)).1
          by_cases e : i = j
          · subst e; exact h1
          · have := ih (by omega) (by omega); omega
      replace hI0 := Kp.mk hI0
      replace hseq := Kp.mk hseq
      replace hdec := Kp.mk hdec
      replace hdec2 := Kp.mk hdec2
      replace hU := Kp.mk hU
      replace hL := Kp.mk hL
      replace hO := Kp.mk hO
      replace hp := Kp.mk hp
      replace hq := Kp.mk hq
      replace hit := Kp.mk hit
      replace hsn := Kp.mk hsn
      replace hr := Kp.mk hr
      replace hbc := Kp.mk hbc
      replace hB3 := Kp.mk hB3
      replace hs3 := Kp.mk hs3
      obtain ⟨c0q, hc0q⟩ : ∃ c, Kp (c = Value.agg #[.slice (some ⟨bu, 0, none⟩) M cu, .slice (some ⟨bl, 0, none⟩) M cl]) := ⟨_, ⟨rfl⟩⟩
      gi_wp2
      refine ⟨trivial, ?_⟩
      refine (CB.out _ _ ⟨_, _, _, rfl⟩).mono ?_
      rintro e W3' ⟨rfl, rfl⟩
      rw [← hc0q.out]
      gi_wp2
      rw [← hW3.out]
      refine wpIn_rangeF rfl (by decide) (gf := 108) (lb := #[.pointer (some ⟨wr.heap.size, 0, none⟩)]) rfl trivial (enters_of Try.func108 (by kernel_rfl) rfl)
        hseq.out (Below.refl _ _) (fun k hk => ((hSi k).1 hk).2) (fun _ => rfl)
        (fun k T X => (∀ b, ¬ T b) ∧ ∃ up' low', LoK M fr ls up (n + 1) a N bu bl Bo w k X up' low') (fun _ _ _ _ => False) hab (fun c => ⟨fun _ _ _ _ h _ _ => h.elim, fun _ _ _ h => h.elim⟩) (fun _ => False) ⟨fun _ h => h, _, _, hI0.out⟩
        (fun i a' X => ∃ x, x = (wsL up a N).getD i 0 ∧ ∃ u4 u5 u6 u7 u8 u9 u11 u12 u13 u14 u15 u16 u17 u18 u19 u20 u21 u22 u23 u24 u25 u26 u27 u28 u29 u30 u31 u32 u33 u34 u35 u36 u37 u38 u39 u40 u41 u42 u43 u44 u45 u46 u47 u48 u49 u50 u51 u52 u53 u54 u55 u56 u57 u58 u59 u60 u61 u62 u63 u64 u65 u66, a' = { tmps := #[c0q, .int .i64 (a : Int), .int .i64 ((n : Int) + 1), .pointer (some ⟨w.heap.size, 0, none⟩), u4, u5, u6, u7, u8, u9, .int .i64 x, u11, u12, u13, u14, u15, u16, u17, u18, u19, u20, u21, u22, u23, u24, u25, u26, u27, u28, u29, u30, u31, u32, u33, u34, u35, u36, u37, u38, u39, u40, u41, u42, u43, u44, u45, u46, u47, u48, u49, u50, u51, u52, u53, u54, u55, u56, u57, u58, u59, u60, u61, u62, u63, u64, u65, u66], defers := [] }) ?hAx ?assign ?body ?done ?stop
      case hAx => exact fun x a' u A E row h _ _ => h
      case assign =>
        intro lr k hk X K hX hK
        dsimp only [bkE] at hK ⊢
        generalize (bkL N)[k] = idx at *
        generalize (wsL up a N).getD idx 0 = y at *
        simp only [List.zip_toArray, List.zip_cons_cons, List.zip_nil_right, List.foldl_toArray', List.foldl_cons, List.foldl_nil, List.setIfInBounds_toArray, List.set_cons_succ, List.set_cons_zero, Array.zip, List.toList_toArray]
        gi_wp2
        refine hK _ _ (Below.refl _ _) ⟨_, rfl, ?_⟩
        exact ⟨_, _, _, _, _, _, _, _, _, _, _, _, _, _, _, _, _, _, _, _, _, _, _, _, _, _, _, _, _, _, _, _, _, _, _, _, _, _, _, _, _, _, _, _, _, _, _, _, _, _, _, _, _, _, _, _, _, _, _, _, _, _, rfl⟩
      case body =>
        rintro lr k hk a' T X hX ⟨hT, up', low', h⟩ ⟨x, hx, u4, u5, u6, u7, u8, u9, u11, u12, u13, u14, u15, u16, u17, u18, u19, u20, u21, u22, u23, u24, u25, u26, u27, u28, u29, u30, u31, u32, u33, u34, u35, u36, u37, u38, u39, u40, u41, u42, u43, u44, u45, u46, u47, u48, u49, u50, u51, u52, u53, u54, u55, u56, u57, u58, u59, u60, u61, u62, u63, u64, u65, u66, rfl⟩
        rw [bkL_len] at hk
        rw [bkL_at] at hx
        obtain ⟨i, hi⟩ : ∃ i, N - 1 - k = i := ⟨_, rfl⟩
        rw [hi] at hx
        have hil : i < N := by omega
        have hNk : N - k = i + 1 := by omega
        have hxi : x = (itr up a i : Int) := by rw [hx]; simp [hil]
        obtain ⟨e1, e2, e3⟩ := hdec.out i hil
        have hge' := hge i hil
        have ho := h.old i (by omega)
        have hcut := h.cut
        rw [hNk] at hcut
        obtain ⟨P, hP⟩ : ∃ P, itr up a i = P := ⟨_, rfl⟩
        obtain ⟨Q, hQ⟩ : ∃ Q, itr up a (i + 1) = Q := ⟨_, rfl⟩
        rw [hP] at hxi e1 e2 e3 ho
        rw [hQ] at e1 hge' ho hcut
        subst hxi
        clear hx
        have hA2 := h.A.cut hfr.out e3 e2 (by rw [ho]; exact hge')
        rw [ho] at hA2
        have hU1 := h.U.at e2
        have hU2 := h.U.at (i := Q) (by omega)
        have hL1 := h.L.at e2
        have hL2 := h.L.at (i := Q) (by omega)
        have fU := h.U.rw P
        have fL := h.L.rw P
        rw [ho] at hU1
        obtain ⟨x0, x1⟩ := XC.out X h.box
        have hnew : LoK M fr ls up (n + 1) a N bu bl Bo w (k + 1) ((X.drew.setCell ⟨bl, P, none⟩ (.int .i64 ((min (low' P) (low' Q) : Nat) : Int))).drew.setCell ⟨bu, P, none⟩ (.int .i64 (up' Q : Int))) (fun v => if v = P then up' Q else up' v) (fun v => if v = P then min (low' P) (low' Q) else low' v) := by
          have hLs := (h.L.keep (bel_drew X)).set e2 ((min (low' P) (low' Q) : Nat) : Int)
          have hUs := ((h.U.keep (bel_drew X)).setOther (.int .i64 ((min (low' P) (low' Q) : Nat) : Int)) (j := P) hne)
          have hUs2 := (hUs.keep (bel_drew _)).set e2 (up' Q : Int)
          have hLs2 := (hLs.keep (bel_drew _)).setOther (.int .i64 (up' Q : Int)) (j := P) (Ne.symm hne)
          refine ⟨hUs2.congr (fun v hv => ?_), hLs2.congr (fun v hv => ?_), hA2, fun j hj => ?_, ?_, ?_, ?_⟩
          · unfold upd; split <;> rfl
          · unfold upd; split <;> rfl
          · have hj2 : j < i := by omega
            have hjn : itr up a j ≠ P := by have := hdec2.out j i hj2 (by omega); rw [hP] at this; omega
            rw [if_neg hjn]
            exact h.old j (by omega)
          · rw [show N - (k + 1) = i by omega, hP, if_pos rfl]
            exact hcut
          · have e : ∀ (Y : World) (b' j : Nat) (u : Value), b' < w.heap.size → Y.heap[w.heap.size]? = some Bo → (Y.drew.setCell ⟨b', j, none⟩ u).heap[w.heap.size]? = some Bo := fun Y b' j u hb hY => (heap_set Y.drew b' j _ u (by omega)).trans hY
            exact e _ _ _ _ hbu (e _ _ _ _ hbl h.box)
          · refine ⟨h.frm.os, h.frm.tape, h.frm.output, by have := h.frm.size; simp [World.setCell]; omega, fun j hj q1 q2 => ?_⟩
            exact (heap_set _ _ _ _ _ q1).trans ((heap_set X.drew bl P j _ (fun e => q2 (by rw [e]))).trans (h.frm.block j hj q1 q2))
        have p0 : (0 : Int) ≤ (P : Int) := by omega
        have p1 : (P : Int) < (M : Int) := by omega
        have p2 : (0 : Int) ≤ (Q : Int) := by omega
        have p3 : (Q : Int) < (M : Int) := by omega
        have hnb : bl ≠ bu := Ne.symm hne
        obtain ⟨vp, hvp⟩ : ∃ v, low' P = v := ⟨_, rfl⟩
        obtain ⟨vq, hvq⟩ : ∃ v, low' Q = v := ⟨_, rfl⟩
        obtain ⟨vu, hvu⟩ : ∃ v, up' Q = v := ⟨_, rfl⟩
        rw [hvp] at hL1 hnew
        rw [hvq] at hL2 hnew
        rw [hvu] at hU2 hnew
        obtain ⟨vm, hvm⟩ : ∃ v : Int, ((min vp vq : Nat) : Int) = v := ⟨_, rfl⟩
        rw [hvm] at hnew
        have hmin : min (vp : Int) (vq : Int) = vm := by rw [← hvm]; omega
        replace h := Kp.mk h
        replace hnew := Kp.mk hnew
        replace hA2 := Kp.mk hA2
        replace hvp := Kp.mk hvp
        replace hvq := Kp.mk hvq
        replace hvu := Kp.mk hvu
        replace hvm := Kp.mk hvm
        replace hP := Kp.mk hP
        replace hQ := Kp.mk hQ
        replace hi := Kp.mk hi
        replace ho := Kp.mk ho
        replace hNk := Kp.mk hNk
        have hkd : ∀ Y : World, Y = ((X.drew.setCell ⟨bl, P, none⟩ (.int .i64 vm)).drew.setCell ⟨bu, P, none⟩ (.int .i64 vu)) → KdT S T W3.heap.size X Y := fun Y hY => by
          have e : ∀ k, k ≠ bl → k ≠ bu → Y.heap[k]? = X.heap[k]? := fun k q1 q2 => by rw [hY]; exact (heap_set _ bu P k _ q2).trans (heap_set X.drew bl P k _ q1)
          refine ⟨by rw [hY]; rfl, by rw [hY]; rfl, by rw [hY]; rfl, by rw [hY]; simp [World.setCell], fun k hk => e k (by have := ((hSi k).1 hk).1; omega) (by have := ((hSi k).1 hk).1; omega), fun k hk _ _ => e k (by omega) (by omega)⟩
        replace hkd := Kp.mk hkd
        have nQP : Q ≠ P := by omega
        have s1 : (X.drew.setCell ⟨bl, P, none⟩ (.int .i64 vm)).cell? ⟨w.heap.size, 1, none⟩ = some (.slice (some ⟨bl, 0, none⟩) M cl) := (World.cell?_setCell_other _ _ _ _ (by intro e; injection e; omega)).trans x1
        have s2 : (X.drew.setCell ⟨bl, P, none⟩ (.int .i64 vm)).cell? ⟨bl, Q, none⟩ = some (.int .i64 (vq : Int)) := (World.cell?_setCell_other _ _ _ _ (by intro e; injection e; omega)).trans hL2
        have s3 : (X.drew.setCell ⟨bl, P, none⟩ (.int .i64 vm)).drew.cell? ⟨w.heap.size, 0, none⟩ = some (.slice (some ⟨bu, 0, none⟩) M cu) := (World.cell?_setCell_other X.drew _ _ _ (by intro e; injection e; omega)).trans x0
        have s4 : (X.drew.setCell ⟨bl, P, none⟩ (.int .i64 vm)).drew.cell? ⟨bu, Q, none⟩ = some (.int .i64 (vu : Int)) := (World.cell?_setCell_other X.drew _ _ _ (by intro e; injection e; omega)).trans hU2
        have s5 : ((X.drew.setCell ⟨bl, P, none⟩ (.int .i64 vm)).drew.setCell ⟨bu, P, none⟩ (.int .i64 (vu : Int))).cell? ⟨w.heap.size, 0, none⟩ = some (.slice (some ⟨bu, 0, none⟩) M cu) := (World.cell?_setCell_other _ _ _ _ (by intro e; injection e; omega)).trans s3
        have s6 : ((X.drew.setCell ⟨bl, P, none⟩ (.int .i64 vm)).drew.setCell ⟨bu, P, none⟩ (.int .i64 (vu : Int))).cell? ⟨bu, Q, none⟩ = some (.int .i64 (vu : Int)) := (World.cell?_setCell_other _ _ _ _ (by intro e; injection e; omega)).trans s4
        have hUo : At X bu Q (.int .i64 (vu : Int)) := hU2
        have fU2 : (X.drew.setCell ⟨bl, P, none⟩ (.int .i64 vm)).drew.frozen? ⟨bu, P, none⟩ = false := (((h.out.U.keep (bel_drew X)).setOther (.int .i64 vm) (j := P) hne).keep (bel_drew _)).rw P
        have fL2 : X.drew.frozen? ⟨bl, P, none⟩ = false := (h.out.L.keep (bel_drew X)).rw P
        have oU : ∃ v, (X.drew.setCell ⟨bl, P, none⟩ (.int .i64 vm)).drew.cell? ⟨bu, P, none⟩ = some v := ⟨_, (((h.out.U.keep (bel_drew X)).setOther (.int .i64 vm) (j := P) hne).keep (bel_drew _)).at e2⟩
        obtain ⟨vo, oU⟩ := oU
        have oL : X.drew.cell? ⟨bl, P, none⟩ = some (.int .i64 (vp : Int)) := hL1
        gi_wp2
        refine wpIn_region_held (S := fun W' => W'.cell? ⟨w.heap.size, 1, none⟩ = some (.slice (some ⟨bl, 0, none⟩) M cl) ∧ W'.cell? ⟨bl, Q, none⟩ = some (.int .i64 (vq : Int))) (by kernel_rfl) (by kernel_rfl) (by rintro ⟨_, _, h⟩; exact h) ⟨x1, hL2⟩ (fun hHeld => ?_)
        refine wpAnyH_take (i := 0) (v := .pointer (some ⟨w.heap.size, 1, none⟩)) rfl (by kernel_rfl) (by kernel_rfl) (by kernel_rfl) (fun _ _ _ h => h) (Or.inl ⟨by rfl, fun wq hSw => by (try dsimp only at hSw); go_simp⟩) hHeld ?_
        try simp only [Act.put, List.getElem_toArray, List.getElem_cons_succ, List.getElem_cons_zero, List.setIfInBounds_toArray, List.set_cons_zero, List.set_cons_succ]
        refine wpAnyH_take (i := 1) (v := .slice (some ⟨bl, 0, none⟩) M cl) rfl (by kernel_rfl) (by kernel_rfl) (by kernel_rfl) (fun _ _ _ h => h) (Or.inl ⟨by rfl, fun wq hSw => by (try dsimp only at hSw); go_simp⟩) hHeld ?_
        try simp only [Act.put, List.getElem_toArray, List.getElem_cons_succ, List.getElem_cons_zero, List.setIfInBounds_toArray, List.set_cons_zero, List.set_cons_succ]
        refine wpAnyH_take (i := 2) (v := .int .i64 (P : Int)) rfl (by kernel_rfl) (by kernel_rfl) (by kernel_rfl) (fun _ _ _ h => h) (Or.inl ⟨by rfl, fun wq hSw => by (try dsimp only at hSw); go_simp⟩) hHeld ?_
        try simp only [Act.put, List.getElem_toArray, List.getElem_cons_succ, List.getElem_cons_zero, List.setIfInBounds_toArray, List.set_cons_zero, List.set_cons_succ]
        refine wpAnyH_take (i := 3) (v := .pointer (some ⟨w.heap.size, 1, none⟩)) rfl (by kernel_rfl) (by kernel_rfl) (by kernel_rfl) (fun _ _ _ h => h) (Or.inl ⟨by rfl, fun wq hSw => by (try dsimp only at hSw); go_simp⟩) hHeld ?_
        try simp only [Act.put, List.getElem_toArray, List.getElem_cons_succ, List.getElem_cons_zero, List.setIfInBounds_toArray, List.set_cons_zero, List.set_cons_succ]
        refine wpAnyH_take (i := 4) (v := .slice (some ⟨bl, 0, none⟩) M cl) rfl (by kernel_rfl) (by kernel_rfl) (by kernel_rfl) (fun _ _ _ h => h) (Or.inl ⟨by rfl, fun wq hSw => by (try dsimp only at hSw); go_simp⟩) hHeld ?_
        try simp only [Act.put, List.getElem_toArray, List.getElem_cons_succ, List.getElem_cons_zero, List.setIfInBounds_toArray, List.set_cons_zero, List.set_cons_succ]
        refine wpAnyH_take (i := 5) (v := .int .i64 (P : Int)) rfl (by kernel_rfl) (by kernel_rfl) (by kernel_rfl) (fun _ _ _ h => h) (Or.inl ⟨by rfl, fun wq hSw => by (try dsimp only at hSw); go_simp⟩) hHeld ?_
        try simp only [Act.put, List.getElem_toArray, List.getElem_cons_succ, List.getElem_cons_zero, List.setIfInBounds_toArray, List.set_cons_zero, List.set_cons_succ]
        refine wpAnyH_take (i := 6) (v := .pointer (some ⟨bl, P, none⟩)) rfl (by kernel_rfl) (by kernel_rfl) (by kernel_rfl) (fun _ _ _ h => h) (Or.inl ⟨by rfl, fun wq hSw => by (try dsimp only at hSw); go_simp⟩) hHeld ?_
        try simp only [Act.put, List.getElem_toArray, List.getElem_cons_succ, List.getElem_cons_zero, List.setIfInBounds_toArray, List.set_cons_zero, List.set_cons_succ]
        refine wpAnyH_take (i := 8) (v := .pointer (some ⟨w.heap.size, 1, none⟩)) rfl (by kernel_rfl) (by kernel_rfl) (by kernel_rfl) (fun _ _ _ h => h) (Or.inl ⟨by rfl, fun wq hSw => by (try dsimp only at hSw); go_simp⟩) hHeld ?_
        try simp only [Act.put, List.getElem_toArray, List.getElem_cons_succ, List.getElem_cons_zero, List.setIfInBounds_toArray, List.set_cons_zero, List.set_cons_succ]
        refine wpAnyH_take (i := 9) (v := .slice (some ⟨bl, 0, none⟩) M cl) rfl (by kernel_rfl) (by kernel_rfl) (by kernel_rfl) (fun _ _ _ h => h) (Or.inl ⟨by rfl, fun wq hSw => by (try dsimp only at hSw); go_simp⟩) hHeld ?_
        try simp only [Act.put, List.getElem_toArray, List.getElem_cons_succ, List.getElem_cons_zero, List.setIfInBounds_toArray, List.set_cons_zero, List.set_cons_succ]
        refine wpAnyH_take (i := 10) (v := .int .i64 (Q : Int)) rfl (by kernel_rfl) (by kernel_rfl) (by kernel_rfl) (fun _ _ _ h => h) (Or.inl ⟨by rfl, fun wq hSw => by (try dsimp only at hSw); go_simp⟩) hHeld ?_
        try simp only [Act.put, List.getElem_toArray, List.getElem_cons_succ, List.getElem_cons_zero, List.setIfInBounds_toArray, List.set_cons_zero, List.set_cons_succ]
        refine wpAnyH_take (i := 11) (v := .pointer (some ⟨bl, Q, none⟩)) rfl (by kernel_rfl) (by kernel_rfl) (by kernel_rfl) (fun _ _ _ h => h) (Or.inl ⟨by rfl, fun wq hSw => by (try dsimp only at hSw); go_simp⟩) hHeld ?_
        try simp only [Act.put, List.getElem_toArray, List.getElem_cons_succ, List.getElem_cons_zero, List.setIfInBounds_toArray, List.set_cons_zero, List.set_cons_succ]
        refine wpAnyH_take (i := 12) (v := .int .i64 (vq : Int)) rfl (by kernel_rfl) (by kernel_rfl) (by kernel_rfl) (fun _ _ _ h => h) (Or.inl ⟨by rfl, fun wq hSw => by (try dsimp only at hSw); go_simp⟩) hHeld ?_
        try simp only [Act.put, List.getElem_toArray, List.getElem_cons_succ, List.getElem_cons_zero, List.setIfInBounds_toArray, List.set_cons_zero, List.set_cons_succ]
        refine wpAnyH_ready (rs := [7]) (by kernel_rfl) (by simp) ?_
        refine AllReadyH.cons rfl (fun K hK => ?_) AllReadyH.nil
        go_simp
        refine hK.out _ _ ⟨x1, hL2⟩ (fun hHeld => ?_)
        clear hK K
        try simp only [Act.put, List.getElem_toArray, List.getElem_cons_succ, List.getElem_cons_zero, List.setIfInBounds_toArray, List.set_cons_zero, List.set_cons_succ]
        refine wpAnyH_take (i := 13) (v := .int .i64 vm) rfl (by kernel_rfl) (by kernel_rfl) (by kernel_rfl) (fun _ _ _ h => h) (Or.inl ⟨by rfl, fun wq hSw => by (try dsimp only at hSw); go_simp⟩) hHeld ?_
        try simp only [Act.put, List.getElem_toArray, List.getElem_cons_succ, List.getElem_cons_zero, List.setIfInBounds_toArray, List.set_cons_zero, List.set_cons_succ]
        refine wpAnyH_take (i := 14) (v := .pointer (some ⟨bl, P, none⟩)) rfl (by kernel_rfl) (by kernel_rfl) (by kernel_rfl) (fun _ _ _ h => h) (Or.inl ⟨by rfl, fun wq hSw => by (try dsimp only at hSw); go_simp⟩) hHeld ?_
        try simp only [Act.put, List.getElem_toArray, List.getElem_cons_succ, List.getElem_cons_zero, List.setIfInBounds_toArray, List.set_cons_zero, List.set_cons_succ]
        refine wpAnyH_ready (rs := [15]) (by kernel_rfl) (by simp) ?_
        refine AllReadyH.cons rfl (fun K hK => ?_) AllReadyH.nil
        go_simp
        refine hK.out _ _ ⟨s1, s2⟩ (fun hHeld => ?_)
        clear hK K
        try simp only [Act.put, List.getElem_toArray, List.getElem_cons_succ, List.getElem_cons_zero, List.setIfInBounds_toArray, List.set_cons_zero, List.set_cons_succ]
        refine wpAnyH_done (by kernel_rfl) ?_ _
        gi_wp2
        refine wpIn_region_held (S := fun W' => W'.cell? ⟨w.heap.size, 0, none⟩ = some (.slice (some ⟨bu, 0, none⟩) M cu) ∧ W'.cell? ⟨bu, Q, none⟩ = some (.int .i64 (vu : Int))) (by kernel_rfl) (by kernel_rfl) (by rintro ⟨_, _, h⟩; exact h) ⟨s3, s4⟩ (fun hHeld => ?_)
        refine wpAnyH_take (i := 0) (v := .pointer (some ⟨w.heap.size, 0, none⟩)) rfl (by kernel_rfl) (by kernel_rfl) (by kernel_rfl) (fun _ _ _ h => h) (Or.inl ⟨by rfl, fun wq hSw => by (try dsimp only at hSw); go_simp⟩) hHeld ?_
        try simp only [Act.put, List.getElem_toArray, List.getElem_cons_succ, List.getElem_cons_zero, List.setIfInBounds_toArray, List.set_cons_zero, List.set_cons_succ]
        refine wpAnyH_take (i := 1) (v := .slice (some ⟨bu, 0, none⟩) M cu) rfl (by kernel_rfl) (by kernel_rfl) (by kernel_rfl) (fun _ _ _ h => h) (Or.inl ⟨by rfl, fun wq hSw => by (try dsimp only at hSw); go_simp⟩) hHeld ?_
        try simp only [Act.put, List.getElem_toArray, List.getElem_cons_succ, List.getElem_cons_zero, List.setIfInBounds_toArray, List.set_cons_zero, List.set_cons_succ]
        refine wpAnyH_take (i := 2) (v := .int .i64 (P : Int)) rfl (by kernel_rfl) (by kernel_rfl) (by kernel_rfl) (fun _ _ _ h => h) (Or.inl ⟨by rfl, fun wq hSw => by (try dsimp only at hSw); go_simp⟩) hHeld ?_
        try simp only [Act.put, List.getElem_toArray, List.getElem_cons_succ, List.getElem_cons_zero, List.setIfInBounds_toArray, List.set_cons_zero, List.set_cons_succ]
        refine wpAnyH_take (i := 3) (v := .pointer (some ⟨w.heap.size, 0, none⟩)) rfl (by kernel_rfl) (by kernel_rfl) (by kernel_rfl) (fun _ _ _ h => h) (Or.inl ⟨by rfl, fun wq hSw => by (try dsimp only at hSw); go_simp⟩) hHeld ?_
        try simp only [Act.put, List.getElem_toArray, List.getElem_cons_succ, List.getElem_cons_zero, List.setIfInBounds_toArray, List.set_cons_zero, List.set_cons_succ]
        refine wpAnyH_take (i := 4) (v := .slice (some ⟨bu, 0, none⟩) M cu) rfl (by kernel_rfl) (by kernel_rfl) (by kernel_rfl) (fun _ _ _ h => h) (Or.inl ⟨by rfl, fun wq hSw => by (try dsimp only at hSw); go_simp⟩) hHeld ?_
        try simp only [Act.put, List.getElem_toArray, List.getElem_cons_succ, List.getElem_cons_zero, List.setIfInBounds_toArray, List.set_cons_zero, List.set_cons_succ]
        refine wpAnyH_take (i := 5) (v := .int .i64 (Q : Int)) rfl (by kernel_rfl) (by kernel_rfl) (by kernel_rfl) (fun _ _ _ h => h) (Or.inl ⟨by rfl, fun wq hSw => by (try dsimp only at hSw); go_simp⟩) hHeld ?_
        try simp only [Act.put, List.getElem_toArray, List.getElem_cons_succ, List.getElem_cons_zero, List.setIfInBounds_toArray, List.set_cons_zero, List.set_cons_succ]
        refine wpAnyH_take (i := 6) (v := .pointer (some ⟨bu, Q, none⟩)) rfl (by kernel_rfl) (by kernel_rfl) (by kernel_rfl) (fun _ _ _ h => h) (Or.inl ⟨by rfl, fun wq hSw => by (try dsimp only at hSw); go_simp⟩) hHeld ?_
        try simp only [Act.put, List.getElem_toArray, List.getElem_cons_succ, List.getElem_cons_zero, List.setIfInBounds_toArray, List.set_cons_zero, List.set_cons_succ]
        refine wpAnyH_take (i := 7) (v := .int .i64 (vu : Int)) rfl (by kernel_rfl) (by kernel_rfl) (by kernel_rfl) (fun _ _ _ h => h) (Or.inl ⟨by rfl, fun wq hSw => by (try dsimp only at hSw); go_simp⟩) hHeld ?_
        try simp only [Act.put, List.getElem_toArray, List.getElem_cons_succ, List.getElem_cons_zero, List.setIfInBounds_toArray, List.set_cons_zero, List.set_cons_succ]
        refine wpAnyH_take (i := 8) (v := .pointer (some ⟨bu, P, none⟩)) rfl (by kernel_rfl) (by kernel_rfl) (by kernel_rfl) (fun _ _ _ h => h) (Or.inl ⟨by rfl, fun wq hSw => by (try dsimp only at hSw); go_simp⟩) hHeld ?_
        try simp only [Act.put, List.getElem_toArray, List.getElem_cons_succ, List.getElem_cons_zero, List.setIfInBounds_toArray, List.set_cons_zero, List.set_cons_succ]
        refine wpAnyH_ready (rs := [9]) (by kernel_rfl) (by simp) ?_
        refine AllReadyH.cons rfl (fun K hK => ?_) AllReadyH.nil
        go_simp
        refine hK.out _ _ ⟨s5, s6⟩ (fun hHeld => ?_)
        clear hK K
        try simp only [Act.put, List.getElem_toArray, List.getElem_cons_succ, List.getElem_cons_zero, List.setIfInBounds_toArray, List.set_cons_zero, List.set_cons_succ]
        refine wpAnyH_done (by kernel_rfl) ?_ _
        gi_wp2
        exact ⟨T, fun b hb => .inl hb, hkd.out _ rfl, hT, _, _, hnew.out⟩
      case done =>
        rintro D T X hD ⟨hT, up', low', h⟩ hK hTD
        rw [bkL_len] at h
        have hcut := h.cut
        rw [Nat.sub_self] at hcut
        have hcut' : up' a < n + 1 := hcut
        obtain ⟨x0, x1⟩ := XC.out X h.box
        have hl := h.L.at ha
        have hTl : Told M fr ls n a (low' a) := by
          by_cases q : n + 1 ≤ a
          · exact .inr ⟨by omega, h.A.lowOf q ha hcut'⟩
          · exact .inl ⟨by omega, (h.A.anew a (by omega) ha).1⟩
        have hg := grownBy_putObj' X D (.deferred none)
        have hDz : w.heap.size < D := by omega
        have hsD : ∀ k, k < w.heap.size + 1 → ∀ o, (X.putObj D o).heap[k]? = X.heap[k]? := fun k hk o => World.putObj_heap_other (by omega)
        have hU9 := Kp.mk (fun o => h.U.same (hsD bu (by omega) o))
        have hL9 := Kp.mk (fun o => h.L.same (hsD bl (by omega) o))
        have hF9 : Kp (∀ o, Fr w (X.putObj D o) bu (some bl)) := ⟨fun o => ⟨h.frm.os, h.frm.tape, h.frm.output, by simpa using h.frm.size, fun k hk q1 q2 => (hsD k (by omega) o).trans (h.frm.block k hk q1 q2)⟩⟩
        have ha0 : (0 : Int) ≤ (a : Int) := by omega
        have ha1 : (a : Int) < (M : Int) := by omega
        obtain ⟨vm, hvm⟩ : ∃ v, low' a = v := ⟨_, rfl⟩
        rw [hvm] at hl hTl
        replace h := Kp.mk h
        replace hvm := Kp.mk hvm
        replace hTl := Kp.mk hTl
        clear hcut hcut' hg hsD
        gi_wp2
        refine ⟨by simp, .inl ⟨_, _, rfl, run_takeDeferred hK, ?_⟩⟩
        refine ⟨_, results_tmp rfl _ _ _, vm, up', low', rfl, hU9.out _, hL9.out _, h.out.A, hTl.out, hF9.out _⟩
      case stop =>
        rintro D c k T X _ _ h _ _
        exact h.elim
end Go.Proofs.Ytbfpfjkjeekbdaa
