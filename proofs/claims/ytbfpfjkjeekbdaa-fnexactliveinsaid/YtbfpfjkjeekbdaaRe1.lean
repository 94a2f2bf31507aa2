/- Which blocks can be come to without another one: the specification's answer. -/
import Derived.Test.YtbfpfjkjeekbdaaGs1
import Derived.Test.YtbfpfjkjeekbdaaDm1
import Derived.Test.YtbfpfjkjeekbdaaRn1
import Derived.Deep.LoopGhost
namespace Go.Proofs.Ytbfpfjkjeekbdaa
open Go.ChangeShapes Go.WideShapes Go.ChangeAt Go.RowKit
set_option linter.unusedVariables false
set_option linter.unusedSimpArgs false
/-- What holds of the blocks seen, s, and of those to be looked at, st; of b the next ones on l are not looked at. -/
structure RcQ (nx : Int → List Int) (n : Nat) (root wo : Int) (s st : List Int) (b : Int) (l : List Int) : Prop where
  way : ∀ y ∈ s, Way (EB nx) (fun z => z ≠ wo) root y ∧ 0 ≤ y ∧ y < n
  sub : ∀ y ∈ st, y ∈ s
  root : root ∈ s
  off : ∀ y ∈ s, y ∈ st ∨ ∀ c ∈ nx y, c ≠ wo → c ∈ s ∨ (y = b ∧ c ∈ l)
  cnt : st.length + unS n s ≤ n
theorem RcQ.start {nx : Int → List Int} {n : Nat} {wo : Int} {t : Nat} (ht : t < n) (hw : (t : Int) ≠ wo) : RcQ nx n t wo [(t : Int)] [(t : Int)] 0 [] :=
  ⟨fun y hy => by obtain rfl := List.mem_singleton.1 hy; exact ⟨.nil _ hw, by omega, by omega⟩, fun y hy => hy, by simp, fun y hy => .inl hy, by
    have h1 := unS_add n (s := []) ht rfl
    have h2 := unS_nil n []
    rw [List.nil_append] at h1
    simp; omega⟩
theorem RcQ.pop {nx : Int → List Int} {n : Nat} {root wo : Int} {s us : List Int} {b b0 : Int} (h : RcQ nx n root wo s (us ++ [b]) b0 []) : RcQ nx n root wo s us b (nx b) ∧ b ∈ s := by
  have hb := h.sub b (by simp)
  refine ⟨⟨h.way, fun y hy => h.sub y (by simp [hy]), h.root, fun y hy => ?_, by have := h.cnt; simp at this; omega⟩, hb⟩
  rcases h.off y hy with q | q
  · rcases List.mem_append.1 q with q | q
    · exact .inl q
    · obtain rfl := List.mem_singleton.1 q
      exact .inr fun c hc _ => .inr ⟨rfl, hc⟩
  · refine .inr fun c hc hw => ?_
    rcases q c hc hw with q | ⟨_, q⟩
    · exact .inl q
    · cases q
theorem RcQ.skip {nx : Int → List Int} {n : Nat} {root wo : Int} {s st : List Int} {b c : Int} {l : List Int} (h : RcQ nx n root wo s st b (c :: l)) (hc : c = wo ∨ c ∈ s) : RcQ nx n root wo s st b l := by
  refine ⟨h.way, h.sub, h.root, fun y hy => ?_, h.cnt⟩
  rcases h.off y hy with q | q
  · exact .inl q
  · refine .inr fun d hd hw => ?_
    rcases q d hd hw with q | ⟨e, q⟩
    · exact .inl q
    · rcases List.mem_cons.1 q with rfl | q
      · rcases hc with rfl | hc
        · exact absurd rfl hw
        · exact .inl hc
      · exact .inr ⟨e, q⟩
theorem RcQ.come {nx : Int → List Int} {n : Nat} {root wo : Int} {s st : List Int} {b : Int} {t : Nat} {l : List Int} (h : RcQ nx n root wo s st b ((t : Int) :: l)) (hb : b ∈ s) (he : (t : Int) ∈ nx b) (ht : t < n) (hw : (t : Int) ≠ wo) (hc : s.contains (t : Int) = false) :
    RcQ nx n root wo (s ++ [(t : Int)]) (st ++ [(t : Int)]) b l ∧ (st ++ [(t : Int)]).length + 2 * unS n (s ++ [(t : Int)]) < st.length + 2 * unS n s := by
  have hu := unS_add n ht hc
  refine ⟨⟨fun y hy => ?_, fun y hy => ?_, by simp [h.root], fun y hy => ?_, by have := h.cnt; simp; omega⟩, by simp; omega⟩
  · rcases List.mem_append.1 hy with hy | hy
    · exact h.way y hy
    · obtain rfl := List.mem_singleton.1 hy
      exact ⟨(h.way b hb).1.snoc he hw, by omega, by omega⟩
  · rcases List.mem_append.1 hy with hy | hy
    · simp [h.sub y hy]
    · simp [List.mem_singleton.1 hy]
  · rcases List.mem_append.1 hy with hy | hy
    · rcases h.off y hy with q | q
      · exact .inl (by simp [q])
      · refine .inr fun d hd hw => ?_
        rcases q d hd hw with q | ⟨e, q⟩
        · exact .inl (by simp [q])
        · rcases List.mem_cons.1 q with rfl | q
          · exact .inl (by simp)
          · exact .inr ⟨e, q⟩
    · exact .inl (by simp [List.mem_singleton.1 hy])
theorem RcQ.done {nx : Int → List Int} {n : Nat} {root wo : Int} {s : List Int} {b : Int} (h : RcQ nx n root wo s [] b []) (y : Int) : y ∈ s ↔ Way (EB nx) (fun z => z ≠ wo) root y := by
  constructor
  · exact fun hy => (h.way y hy).1
  · intro hw
    have main : ∀ {a c : Int}, Way (EB nx) (fun z => z ≠ wo) a c → a ∈ s → c ∈ s := by
      intro a c hw
      induction hw with
      | nil a _ => exact fun q => q
      | cons a d c ha he hw ih =>
        intro q
        refine ih ?_
        rcases h.off a q with q | q
        · cases q
        · rcases q d he (Way.first (S := fun z => z ≠ wo) hw) with q | ⟨_, q⟩
          · exact q
          · cases q
    exact main hw h.root
structure RcI (n : Nat) (Go' : Obj) (w wr : World) (v : Value) (s st : List Int) : Prop where
  st : OwnI wr (w.heap.size + 2) v st
  seen : SeenAt wr (w.heap.size + 1) n s
  box : wr.heap[w.heap.size]? = some Go'
  bel : Below w.heap.size w wr
  sz : w.heap.size + 2 ≤ wr.heap.size
section
variable {n : Nat} {Go' : Obj} {w wr w' : World} {v : Value} {s st us : List Int}
theorem RcI.keep (h : RcI n Go' w wr v s st) (hb : Below wr.heap.size wr w') : RcI n Go' w w' v s st :=
  ⟨h.st.keep hb, h.seen.keep hb, keep_cells h.box hb, bel_trans h.bel hb, by have := hb.size; have := h.sz; omega⟩
theorem RcI.mark (h : RcI n Go' w wr v s st) {t : Nat} (ht : t < n) : RcI n Go' w (wr.setCell ⟨w.heap.size + 1, t, none⟩ (.bool true)) v (s ++ [(t : Int)]) st := by
  have hg := Fam.setHd.gset wr (w.heap.size + 1) t (.bool true)
  exact ⟨h.st.kept hg (.inr fun e => by have := (h.st.r.lt _ e).1; omega), h.seen.add ht, (heap_set _ _ _ _ _ (by omega)).trans h.box, h.bel.setCell (by show w.heap.size ≤ w.heap.size + 1; omega) _, Nat.le_trans h.sz hg.size⟩
theorem RcI.push (h : RcI n Go' w wr v s st) {y : Int} {g cap : Nat} (hg : wr.grownBy w' v.ownBlock) (ho : w'.ownsRow (w.heap.size + 2) 2 1 (.slice (some ⟨g, 0, none⟩) (st.length + 1) cap) (st.length + 1) (st.map (Value.int .i64) ++ [.int .i64 y])) :
    RcI n Go' w w' (.slice (some ⟨g, 0, none⟩) (st.length + 1) cap) s (st ++ [y]) := by
  have hr : ∀ k, v.ownBlock = some k → w.heap.size + 2 ≤ k := fun k hk => (h.st.r.lt k hk).1
  refine ⟨⟨?_⟩, h.seen.kept hg (fun e => by have := hr _ e.symm; omega), (hg.block _ (Array.getElem?_eq_some_iff.1 h.box).1 (fun e => by have := hr _ e.symm; omega)).trans h.box, h.bel.grown hg h.bel.size (fun k hk => by have := hr k hk; omega), Nat.le_trans h.sz hg.size⟩
  have e : (st ++ [y]).length = st.length + 1 := by simp
  rw [e, List.map_append]; exact ho
theorem RcI.pop {g cap : Nat} {b : Int} (h : RcI n Go' w wr (.slice (some ⟨g, 0, none⟩) (us.length + 1) cap) s (us ++ [b])) : RcI n Go' w wr (.slice (some ⟨g, 0, none⟩) us.length cap) s us := by
  refine ⟨⟨?_⟩, h.seen, h.box, h.bel, h.sz⟩
  have := h.st.r
  rw [show (us ++ [b]).length = us.length + 1 by simp, List.map_append] at this
  obtain ⟨-, ⟨e, q⟩ | ⟨g', cap', cur, e, h1, h2, h3, h4, h5, h6⟩⟩ := this
  · cases e
  · injection e with e1 e2 e3
    cases e1
    subst e3
    refine ⟨by simp, .inr ⟨g, cap, cur, rfl, h1, h2, by omega, h4, h5, ?_⟩⟩
    have e1 : cur.toList.take (us.length * 1) = (cur.toList.take ((us.length + 1) * 1)).take (us.length * 1) := by rw [List.take_take, Nat.min_eq_left (by omega)]
    rw [e1, h6, List.take_append_of_le_length (by simp), List.take_of_length_le (by simp)]
end
set_option maxRecDepth 100000 in
set_option maxHeartbeats 8000000 in
theorem reachS (nx : Int → List Int) (n lo : Nat) (w : World) (vN vP : Value) (G : Rws lo w vN n (fun i => nx i)) (hP : ∃ a m c, vP = .slice a m c) (hn : n ≤ 1048576) (hnx : ∀ i : Nat, i < n → (nx i).length ≤ 1048576 ∧ ∀ y ∈ nx i, 0 ≤ y ∧ y < n) (root wo : Int) :
    Calls Try.prog 50 #[.agg #[vN, vP], .int .i64 root, .int .i64 wo] w fun e w' => ∃ s, e = .returned (.slice (some ⟨w.heap.size + 1, 0, none⟩) n n) ∧ SeenAt w' (w.heap.size + 1) n s ∧ Below w.heap.size w w' ∧ ∀ y, y ∈ s ↔ 0 ≤ root ∧ root < n ∧ Way (EB nx) (fun z => z ≠ wo) root y := by
  obtain ⟨ap, mp, cp, rfl⟩ := hP
  obtain ⟨hb, ho, ⟨⟨an, cn, rfl, g1, g2⟩, g3⟩, -, gc⟩ := G.ex
  obtain ⟨O, hmk, hSO⟩ := mkSeen n hn
  obtain ⟨i0, hi0, hz0, hz1, hz2⟩ := info_parts info64
  obtain ⟨Bo, hBo⟩ : ∃ Bo, Kp (Bo = Go.Obj.cells #[.slice an n cn, .slice ap mp cp] 45 (0, 0)) := ⟨_, ⟨rfl⟩⟩
  obtain ⟨W0, hW0⟩ : ∃ W0, Kp (W0 = (w.alloc (Go.Obj.cells #[.slice an n cn, .slice ap mp cp] 45)).alloc O) := ⟨_, ⟨rfl⟩⟩
  have hbx : W0.heap[w.heap.size]? = some Bo := by rw [hW0.out, hBo.out]; exact keep_cells (new_cells w _) (bel_alloc _ _)
  have hB0 : Below w.heap.size w W0 := by rw [hW0.out]; exact bel_trans (bel_alloc _ _) (bel_alloc _ _)
  have hz0' : W0.heap.size = w.heap.size + 2 := by rw [hW0.out]; simp
  have hS0 : SeenAt W0 (w.heap.size + 1) n [] := by
    have := hSO (w.alloc (Go.Obj.cells #[.slice an n cn, .slice ap mp cp] 45))
    rw [World.size_alloc] at this
    rw [hW0.out]; exact this
  have SK : Kp (∀ W' : World, W'.heap[w.heap.size]? = some Bo → (W'.cell? ⟨w.heap.size, 0, none⟩ = some (.slice an n cn))) := ⟨fun W' h1 => by
    rw [hBo.out] at h1
    exact at_cells h1 rfl⟩
  have y0 := SK.out W0 hbx
  have hmk0 := hmk (w.alloc (Go.Obj.cells #[.slice an n cn, .slice ap mp cp] 45))
  by_cases hbad : root = wo ∨ root < 0 ∨ (n : Int) ≤ root
  · have hout : ∀ y, y ∈ ([] : List Int) ↔ 0 ≤ root ∧ root < n ∧ Way (EB nx) (fun z => z ≠ wo) root y := fun y => ⟨fun h => (by cases h), fun ⟨h1, h2, h3⟩ => by
      rcases hbad with rfl | q | q
      · exact absurd rfl h3.first
      · omega
      · omega⟩
    by_cases e1 : root = wo
    · have b1 : (root == wo) = true := by simp [e1]
      go_enter Try.func50, Try.ntmps50
      go_upto_region 2 with fail
      rw [← hW0.out]
      go_wp2_with fail
      go_ret
      first | exact ⟨[], rfl, hS0, hB0, hout⟩ | exact ⟨rfl, [], hS0, hB0, hout⟩
    · have b1 : (root == wo) = false := by simp [e1]
      by_cases e2 : root < 0
      · have b2 : decide (root < 0) = true := by simp [e2]
        go_enter Try.func50, Try.ntmps50
        go_upto_region 2 with fail
        rw [← hW0.out]
        go_wp2_with fail
        go_ret
        first | exact ⟨[], rfl, hS0, hB0, hout⟩ | exact ⟨rfl, [], hS0, hB0, hout⟩
      · have b2 : decide (root < 0) = false := by simpa using e2
        have hbr : Kp ((n : Int) ≤ root) := ⟨by omega⟩
        have b3 : decide ((n : Int) ≤ root) = true := by simp; omega
        go_enter Try.func50, Try.ntmps50
        go_upto_region 2 with fail
        rw [← hW0.out]
        go_wp2_with fail
        go_ret
        exact ⟨rfl, [], hS0, hB0, fun y => ⟨fun h => (by cases h), fun h => by have := h.1; have := hbr.out; omega⟩⟩
  · obtain ⟨t, rfl⟩ : ∃ t : Nat, root = t := ⟨root.toNat, by omega⟩
    have ht : t < n := by omega
    have hw : (t : Int) ≠ wo := fun e => hbad (.inl e)
    obtain rfl := g2 (by omega)
    have b1 : ((t : Int) == wo) = false := by simp [hw]
    have b2 : decide ((t : Int) < 0) = false := by simp
    have b3 : decide ((n : Int) ≤ (t : Int)) = false := by simp; omega
    have b3' : decide (n ≤ t) = false := by simp; omega
    have t0 : (0 : Int) ≤ (t : Int) := by omega
    have t1 : (t : Int) < (n : Int) := by omega
    have GC : Kp (∀ (W : World) (i : Nat), Below w.heap.size w W → i < n → ∃ a c b o, At W hb (ho + i) (.slice a (nx i).length c) ∧ (0 < (nx i).length → a = some ⟨b, o, none⟩) ∧ ∀ q (h : q < (nx i).length), At W b (o + q) (.int .i64 (nx i)[q])) := ⟨fun W i hW hi => by
      obtain ⟨u, h1, h2⟩ := gc i hi
      obtain ⟨b, o, ⟨⟨a, c, rfl, s1, s2⟩, s3⟩, hl, hc⟩ := h2.ex
      exact ⟨a, c, b, o, at_keep h1 hW, s2, fun q hq => at_keep (hc q hq) hW⟩⟩
    have s0 := hS0.at ht
    have f0 := hS0.rw t
    have hQ0 := RcQ.start (nx := nx) (n := n) ht hw
    have hI0 : RcI n Bo w ((W0.setCell ⟨w.heap.size + 1, t, none⟩ (.bool true)).alloc (Go.Obj.cells #[.int .i64 t] 2)) (.slice (some ⟨w.heap.size + 2, 0, none⟩) 1 1) [(t : Int)] [(t : Int)] := by
      have hg := Fam.setHd.gset W0 (w.heap.size + 1) t (.bool true)
      have hs : (W0.setCell ⟨w.heap.size + 1, t, none⟩ (.bool true)).heap.size = w.heap.size + 2 := by simp [World.setCell, hz0']
      have h1 : Below w.heap.size w (W0.setCell ⟨w.heap.size + 1, t, none⟩ (.bool true)) := hB0.setCell (by show w.heap.size ≤ w.heap.size + 1; omega) _
      exact ⟨⟨rfl, .inr ⟨w.heap.size + 2, 1, #[.int .i64 t], rfl, Nat.le_refl _, new_at hs, Nat.le_refl _, by decide, rfl, rfl⟩⟩, (hS0.add ht).keep (bel_alloc _ _), keep_cells ((heap_set _ _ _ _ _ (by omega)).trans hbx) (bel_alloc _ _), bel_trans h1 (bel_alloc _ _), by simp [hs]⟩
    clear gc g2 hbad
    replace hnx := Kp.mk hnx
    replace hQ0 := Kp.mk hQ0
    replace hI0 := Kp.mk hI0
    replace hSO := Kp.mk hSO
    replace hS0 := Kp.mk hS0
    have hsz5 : (W0.setCell ⟨w.heap.size + 1, t, none⟩ (.bool true)).heap.size = w.heap.size + 2 := by simp [World.setCell, hz0']
    obtain ⟨W6, hW6⟩ : ∃ W6, Kp (W6 = W0.setCell ⟨w.heap.size + 1, t, none⟩ (.bool true)) := ⟨_, ⟨rfl⟩⟩
    rw [← hW6.out] at hI0 hsz5
    go_enter Try.func50, Try.ntmps50
    go_upto_region 2 with fail
    rw [← hW0.out]
    go_upto_region 5 with fail
    rw [← hW6.out]
    clear hmk hmk0 s0 f0 hW0 y0
    go_wp2_with fail
    go_loopg [8] (1 + 2 * unS n [(t : Int)]) (fun k v wr => ∃ s st, RcQ nx n t wo s st 0 [] ∧ RcI n Bo w wr v s st ∧ k = st.length + 2 * unS n s)
    case atStart => exact ⟨_, _, hQ0.out, hI0.out, rfl⟩
    case round =>
      clear hI0 hQ0
      obtain ⟨s, st, hQ, hI, hk⟩ := hrel
      rcases List.eq_nil_or_concat st with rfl | ⟨us, b, est⟩
      · have hd := hQ.done
        obtain ⟨a8, c8, rfl⟩ := hI.st.shape
        replace hI := Kp.mk hI
        replace hQ := Kp.mk hQ
        go_wp2_with fail
        go_ret
        exact ⟨s, rfl, hI.out.seen, hI.out.bel, fun y => by rw [hd y]; exact ⟨fun h => ⟨by omega, by omega, h⟩, fun h => h.2.2⟩⟩
      · rw [List.concat_eq_append] at est
        subst est
        obtain ⟨hQ1, hbs⟩ := hQ.pop
        obtain ⟨-, b0, b1'⟩ := hQ.way b hbs
        obtain ⟨tb, rfl⟩ : ∃ tb : Nat, b = tb := ⟨b.toNat, by omega⟩
        have htb : tb < n := by omega
        have hst := hI.st
        have hlen : (us ++ [(tb : Int)]).length = us.length + 1 := by simp
        obtain ⟨g8, c8, e8, hc8, -, hrow8⟩ := hst.row (by simp)
        rw [hlen] at e8 hc8 hrow8
        subst e8
        have d8 := hrow8.at (i := us.length) (by omega)
        rw [show (us ++ [(tb : Int)]).getD us.length 0 = (tb : Int) by simp] at d8
        have hI1 := hI.pop
        have hun : us.length ≤ 1048576 := by have := hQ1.cnt; omega
        have hc8' : us.length ≤ c8 := by omega
        have hc8b : us.length + 1 ≤ c8 := by omega
        have ub0 : (0 : Int) ≤ (us.length : Int) := by omega
        have ub1 : (us.length : Int) < (us.length : Int) + 1 := by omega
        have tb0 : (0 : Int) ≤ (tb : Int) := by omega
        have tb1 : (tb : Int) < (n : Int) := by omega
        obtain ⟨K, hK⟩ : ∃ K, K = us.length + 1 + 2 * unS n s := ⟨_, rfl⟩
        have hk1 : us.length + 2 * unS n s < K := by omega
        rw [hlen, ← hK] at hk
        replace hK := Kp.mk hK
        obtain ⟨hnl, hny⟩ := hnx.out tb htb
        replace hst := Kp.mk hst
        replace hI := Kp.mk hI
        replace hQ := Kp.mk hQ
        replace hrow8 := Kp.mk hrow8
        replace hk := Kp.mk hk
        go_wp2_with fail
        go_loopw [8, 10] (fun v r wz => ∃ j : Nat, j ≤ (nx tb).length ∧ r = .int .i64 j ∧ ∃ (s' st' : List Int), RcQ nx n t wo s' st' tb ((nx tb).drop j) ∧ (tb : Int) ∈ s' ∧ RcI n Bo w wz v s' st' ∧ st'.length + 2 * unS n s' < K) (fun _ r _ => (nx tb).length - (intOf r).toNat)
        case atStart => exact ⟨0, Nat.zero_le _, rfl, s, us, by rw [List.drop_zero]; exact hQ1, hbs, hI1, hk1⟩
        case round =>
          clear hQ1 hbs hI1 hk1 d8 hrow8
          obtain ⟨j, hj, rfl, s', st', hQ, hbs, hI, hk'⟩ := hrel
          have y0 := SK.out _ hI.box
          obtain ⟨ra, rc, rb, ro, hrow, hra, hrcs⟩ := GC.out wr tb hI.bel htb
          obtain ⟨a8, c9, e8⟩ := hI.st.shape
          subst e8
          have hst8 : st'.length ≤ 1048576 := by have := hQ.cnt; omega
          by_cases hlt : j < (nx tb).length
          · have c0 := hrcs j hlt
            obtain rfl := hra (by omega)
            clear hrcs hra
            have hyb := hny _ (List.getElem_mem hlt)
            have hmem := List.getElem_mem hlt
            rw [List.drop_eq_getElem_cons hlt] at hQ
            generalize (nx tb)[j] = c at *
            obtain ⟨tc, rfl⟩ : ∃ tc : Nat, c = tc := ⟨c.toNat, by omega⟩
            have htc : tc < n := by omega
            have tc0 : (0 : Int) ≤ (tc : Int) := by omega
            have tc1 : (tc : Int) < (n : Int) := by omega
            have j0 : (0 : Int) ≤ (j : Int) := by omega
            have j1 : (j : Int) < ((nx tb).length : Int) := by omega
            by_cases ew : (tc : Int) = wo
            · have bw : ((tc : Int) != wo) = false := by simp [ew]
              have hQ2 := hQ.skip (.inl ew)
              replace hQ := Kp.mk hQ
              replace hI := Kp.mk hI
              replace ew := Kp.mk ew
              go_wp2_with fail
              exact ⟨⟨j + 1, by omega, by go_num, s', st', hQ2, hbs, hI.out, hk'⟩, by simp [intOf]; omega⟩
            · have bw : ((tc : Int) != wo) = true := by simp [ew]
              have sa := hI.seen.at htc
              have sf := hI.seen.rw tc
              cases hcs : s'.contains (tc : Int) with
              | true =>
                rw [hcs] at sa
                have hQ2 := hQ.skip (.inr (List.contains_iff_mem.1 hcs))
                replace hQ := Kp.mk hQ
                replace hI := Kp.mk hI
                replace hcs := Kp.mk hcs
                go_wp2_with fail
                exact ⟨⟨j + 1, by omega, by go_num, s', st', hQ2, hbs, hI.out, hk'⟩, by simp [intOf]; omega⟩
              | false =>
                rw [hcs] at sa
                obtain ⟨hQ2, hlt2⟩ := hQ.come hbs hmem htc ew hcs
                have hIm := hI.mark htc
                obtain ⟨wm, hwm⟩ : ∃ wm, Kp (wm = wr.setCell ⟨w.heap.size + 1, tc, none⟩ (.bool true)) := ⟨_, ⟨rfl⟩⟩
                rw [← hwm.out] at hIm
                have hIa := hIm.keep (bel_alloc wm (Go.Obj.cells #[.int .i64 tc] 2))
                have hsa : w.heap.size + 2 ≤ (wm.alloc (Go.Obj.cells #[.int .i64 tc] 2)).heap.size := hIa.sz
                replace hQ := Kp.mk hQ
                replace hI := Kp.mk hI
                replace hcs := Kp.mk hcs
                replace hQ2 := Kp.mk hQ2
                replace hlt2 := Kp.mk hlt2
                replace hIm := Kp.mk hIm
                go_upto_region 15 with fail
                rw [← hwm.out]
                go_wp2_with (at_builtin; refine wpList_append_lies _ rfl _ _ 22 rfl (w.heap.size + 2) 2 i0 _ 1 8 Try.underlying22 hi0 hz0 hz1 hz2 rfl (by omega) (.slice a8 st'.length c9) st'.length (st'.map (Value.int .i64)) rfl hIa.st.r ⟨wm.heap.size, 0, none⟩ 1 1 [.int .i64 tc] rfl rfl (World.news_of_block (cs := #[.int .i64 tc]) (t := 2) (fr := (0, 0)) (heap_alloc_new wm _)) (by simp [Value.oneCell']) (by omega) (by unfold maxLen; omega) (by omega) hsa (wm.heap.size + 1) (by simp) ?_; intro gg cap w6 hown6 hgrow6 hat6 hlt6)
                have hI6 := hIa.push hgrow6 hown6
                have hlx := hlt2.out
                replace hIa := Kp.mk hIa
                replace hI6 := Kp.mk hI6
                clear hown6 hgrow6 hat6
                go_wp2_with fail
                exact ⟨⟨j + 1, by omega, by go_num, s' ++ [(tc : Int)], st' ++ [(tc : Int)], hQ2.out, by simp [hbs], hI6.out, by omega⟩, by simp [intOf]; omega⟩
          · obtain rfl : j = (nx tb).length := by omega
            rw [List.drop_eq_nil_of_le (Nat.le_refl _)] at hQ
            have hQ3 : RcQ nx n t wo s' st' 0 [] := ⟨hQ.way, hQ.sub, hQ.root, fun y hy => (hQ.off y hy).imp id (fun q c hc hw => (q c hc hw).imp id (fun z => (by cases z.2))), hQ.cnt⟩
            replace hQ := Kp.mk hQ
            replace hI := Kp.mk hI
            go_wp2_with fail
            go_roundg (st'.length + 2 * unS n s')
            case measure => rw [hk.out]; exact hk'
            case rel => exact ⟨s', st', hQ3, hI.out, rfl⟩
end Go.Proofs.Ytbfpfjkjeekbdaa
