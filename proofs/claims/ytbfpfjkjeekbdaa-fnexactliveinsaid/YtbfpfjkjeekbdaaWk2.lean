/- The program's walk through a graph: what it owes. -/
import Derived.Test.YtbfpfjkjeekbdaaWk1
import Derived.TacticsInMore
import Derived.OwnWalkIn
import Derived.LoopIn
import Derived.RegionIn
import Derived.BigRegionIn
import Derived.Shelf.Abstract
import Derived.Deep.LoopGhost
namespace Go.Proofs.Ytbfpfjkjeekbdaa
open Go.ChangeShapes Go.WideShapes Go.ChangeAt Go.RowKit Go.Maps
attribute [local go_sem] Oper.semAt_some
set_option linter.unusedVariables false
set_option linter.unusedSimpArgs false
theorem room_wide {F : Fence} (hd : F.depth = none) (k : Nat) : F.room k := fun d h => by rw [hd] at h; cases h
theorem yield_wide {F : Fence} (hd : F.depth = none) {m : Nat} (m' : Nat) {P : Program} {l : Nat} {args : Array Value} {W : World} {R : Ending → World → Prop} (h : YieldAt F m P l args W R) : YieldAt F m' P l args W R := by
  obtain ⟨fn, tmps, assign, body, hy, hR⟩ := h
  exact ⟨fn, tmps, assign, body, hy, hR.1, fun c cs _ => hR.2 c cs (room_wide hd _)⟩
set_option maxRecDepth 100000 in
set_option maxHeartbeats 2000000 in
/-- numberSet.add, with the count of what is there. -/
theorem addI2 (b n : Nat) (acc : List Int) (x : Int) (w : World) (h : SetI w b n acc) (hn : n < 1099511627776) (hx : (Lit.int .i64 x).wf = true) :
    Calls Try.prog 32 #[.map (some b), .int .i64 x] w fun e w' => e = .returned (.bool (!acc.contains x)) ∧ w.grownBy w' (some b) ∧ SetI w' b (if acc.contains x = true then n else n + 1) (addL acc x) := by
  by_cases hc : acc.contains x = true
  · obtain ⟨D, hown, hhas⟩ := h.ex
    have hkey : keyOf Try.prog 2 (.int .i64 x) = some (.int .i64 x) := keyOf_int_mk Try.underlying2 hx
    have hh := hhas x
    rw [hc] at hh
    have ha : addL acc x = acc := if_pos hc
    rw [ha, if_pos hc, hc]
    replace hhas := Kp.mk hhas
    go_enter Try.func32, Try.ntmps32
    go_wp2_with (first
      | (at_lookup; refine wpList_lookup_own_unit _ rfl _ _ 61 rfl 2 96 lawK Try.underlying61 (zeroU _) b n _ rfl hown _ _ rfl hkey ?_; rw [hh])
      | go_in)
    go_ret
    exact ⟨rfl, World.grownBy_alloc _ _ _, ⟨_, hown.alloc _, hhas.out⟩⟩
  · rw [if_neg hc]
    exact addI b n acc x w h hn hx
/-- A graph in blocks of a set. -/
structure GrS (S : Nat → Prop) (w : World) (vN : Value) (n : Nat) (nx : Int → List Int) : Prop where
  ex : ∃ b o, Sl vN n b o ∧ S b ∧ ∀ i : Nat, i < n → ∃ u, At w b (o + i) u ∧ RestOk S w u (nx i)
theorem stepIn_append {F : Fence} {n : Nat} {P : Program} {ops : Array Oper} {o : Oper} {a : Act} {w w' : World} {K : Act → World → Prop} {Q : Exit → Act → World → Prop} {E : Prop} (hro : F.round = none) (hgd : o.guard = none) (s x : Operand) (t : TypeId)
    (ho : o.op = .call { callee := .builtin .append, args := #[s, x], argTypes := #[t, t] }) {v : Value} (hr : (Builtin.append_ #[t, t] o.type #[a.eval s, a.eval x]).run P w = .ok v w') (h : K (a.put o.dst v) w') :
    if Region.wanted o (yielded ops a.tmps) = true then Oper.wpIn F n P o a w K Q else E := by
  have hw : Region.wanted o (yielded ops a.tmps) = true := by simp [Region.wanted, hgd]
  rw [if_pos hw]
  unfold Oper.wpIn
  refine ⟨fun f hf => ?_, ?_⟩
  · simp [Oper.about, ho, resolve, Target.leads] at hf
  · rw [hro, Oper.semAt_none]
    unfold execOp
    simp only [ho, resolve, invoke, builtin, Sem.run_bind, Sem.run_pure, Result.andThen_ok, List.map_toArray, List.map_cons, List.map_nil, hr]
    exact h
theorem row_shape' {w : World} {base n size : Nat} {e : TypeId} {v : Value} {xs : List Value} (h : w.ownsRow base e size v n xs) : ∃ a c, v = .slice a n c := by
  rcases h.2 with ⟨rfl, h0⟩ | ⟨g, cap, cur, rfl, _⟩
  · exact ⟨none, 0, by rw [h0]⟩
  · exact ⟨_, _, rfl⟩
theorem at_same {w w' : World} {b o : Nat} {v : Value} (h : At w b o v) (e : w'.heap[b]? = w.heap[b]?) : At w' b o v := (World.cell?_of_block (a := ⟨b, o, none⟩) e).trans h
abbrev stE (x : Int × Int × Bool) : Array Value := #[.agg #[.int .i64 x.1, .int .i64 x.2.1, .bool x.2.2]]
theorem infoVi : (Try.prog.info? 148).map (fun i => (i.zero, i.size, i.bytes)) = some (some (.agg #[.int .i64 0, .int .i64 0, .bool false, .slice none 0 0]), 4, 48) := by kernel_rfl
/-- What holds where a round of the walk's own loop begins, k moves ahead of the end. -/
def WkR (nx : Int → List Int) (nb : Nat) (S : Nat → Prop) (W : World) (J : Nat → (Nat → Prop) → World → Prop) (L : List (Int × Int × Bool)) (Mb k : Nat) (v : Value) (wr : World) : Prop :=
  ∃ ws s j T cnt, Walks nx k (wayOf ws) s (L.drop j) ∧ j ≤ L.length ∧ WkI S W wr J T Mb cnt v ws s j ∧ cnt + unS nb s ≤ nb ∧ ws.length + unS nb s ≤ nb ∧ (∀ x ∈ ws, ∀ y ∈ x.r, 0 ≤ y ∧ y < nb)
theorem Walks.inv_nil {nx : Int → List Int} {k : Nat} {s : List Int} {E : List (Int × Int × Bool)} (h : Walks nx k [] s E) : E = [] := by cases h; rfl
theorem Walks.inv_leave {nx : Int → List Int} {k : Nat} {b f : Int} {st : List (Int × Int × List Int)} {s : List Int} {E : List (Int × Int × Bool)} (h : Walks nx k ((b, f, []) :: st) s E) : ∃ k' E', k = k' + 1 ∧ E = (b, f, true) :: E' ∧ Walks nx k' st s E' := by
  cases h with | leave k' _ _ _ _ E' h => exact ⟨k', E', rfl, rfl, h⟩
theorem Walks.inv_cons {nx : Int → List Int} {k : Nat} {b f c : Int} {r : List Int} {st : List (Int × Int × List Int)} {s : List Int} {E : List (Int × Int × Bool)} (h : Walks nx k ((b, f, c :: r) :: st) s E) :
    ∃ k', k = k' + 1 ∧ ((s.contains c = true ∧ Walks nx k' ((b, f, r) :: st) s E) ∨ (s.contains c = false ∧ ∃ E', E = (c, b, false) :: E' ∧ Walks nx k' ((c, b, nx c) :: (b, f, r) :: st) (s ++ [c]) E')) := by
  cases h with
  | skip k' _ _ _ _ _ _ _ hc h => exact ⟨k', rfl, .inl ⟨hc, h⟩⟩
  | come k' _ _ _ _ _ _ E' hc h => exact ⟨k', rfl, .inr ⟨hc, E', rfl, h⟩⟩
theorem drop_inv {α : Type} {L : List α} {j : Nat} {y : α} {E : List α} (h : L.drop j = y :: E) : ∃ hj : j < L.length, L[j] = y ∧ L.drop (j + 1) = E := by
  have hj : j < L.length := by
    rcases Nat.lt_or_ge j L.length with q | q
    · exact q
    · rw [List.drop_eq_nil_of_le q] at h; cases h
  rw [List.drop_eq_getElem_cons hj] at h
  exact ⟨hj, (List.cons.inj h).1, (List.cons.inj h).2⟩
theorem lessens {p p' : Nat → Prop} {k' : Nat} (hp : ∃ n, p n) (h : p' k') (hlt : k' < leastOf p) : leastOf p' < leastOf p := Nat.lt_of_le_of_lt ((leastOf_spec ⟨k', h⟩).2 k' h) hlt
theorem lessens' {p' : Nat → Prop} {k k' : Nat} (h : p' k') (hlt : k' < k) : leastOf p' < k := Nat.lt_of_le_of_lt ((leastOf_spec ⟨k', h⟩).2 k' h) hlt
set_option maxRecDepth 100000 in
set_option maxHeartbeats 8000000 in
theorem walk_seq (n : Nat) (S : Nat → Prop) (w0 : World) (Br Bg : Nat) (root nb : Nat) (nx : Int → List Int) (vN vP : Value) (G : GrS S w0 vN nb nx) (hP : ∃ a m c, vP = .slice a m c) (hbr : At w0 Br 0 (.int .i64 root)) (hg0 : At w0 Bg 0 vN) (hg1 : At w0 Bg 1 vP)
    (hSr : S Br) (hSg : S Bg) (hSw : ∀ k, S k → k < w0.heap.size) (hroot : root < nb) (hnb : nb ≤ 1048576) (hnx : ∀ i : Nat, i < nb → (nx i).length ≤ 1048576 ∧ ∀ y ∈ nx i, 0 ≤ y ∧ y < nb) (k0 : Nat) (E : List (Int × Int × Bool)) (hE : Walks nx k0 [((root : Int), (root : Int), nx root)] [(root : Int)] E) :
    SeqF Fence.wide n Try.prog 86 #[.pointer (some ⟨Br, 0, none⟩), .pointer (some ⟨Bg, 0, none⟩)] stE S (((root : Int), (root : Int), false) :: E) w0 := by
  intro l J Jx W T0 hW hJ hJx hR h0
  obtain ⟨hb, ho, ⟨⟨an, cn, rfl, g1, g2⟩, g3⟩, hSh, gc⟩ := G.ex
  obtain rfl := g2 (by omega)
  obtain ⟨ap, mp, cp, rfl⟩ := hP
  have hSl : ∀ m, S m → m < W.heap.size := fun m hm => by have := hSw m hm; have := hW.size; omega
  have K0 : ∀ m, S m → W.heap[m]? = w0.heap[m]? := fun m hm => hW.block m (hSw m hm)
  replace hbr := at_same hbr (K0 _ hSr)
  replace hg0 := at_same hg0 (K0 _ hSg)
  replace hg1 := at_same hg1 (K0 _ hSg)
  have GC : Kp (∀ i : Nat, i < nb → ∃ a c, At W hb (ho + i) (.slice a (nx i).length c) ∧ RestOk S W (.slice a (nx i).length c) (nx i)) := ⟨fun i hi => by
    obtain ⟨u, h1, h2⟩ := gc i hi
    obtain ⟨b, o, ⟨⟨a, c, rfl, s1, s2⟩, s3⟩, hS, hc⟩ := h2.ex
    exact ⟨a, c, at_same h1 (K0 _ hSh), ⟨b, o, ⟨⟨a, c, rfl, s1, s2⟩, s3⟩, hS, fun i hi => at_same (hc i hi) (K0 _ hS)⟩⟩⟩
  clear gc G g2
  obtain ⟨L, hL⟩ : ∃ L, Kp (L = ((root : Int), (root : Int), false) :: E) := ⟨_, ⟨rfl⟩⟩
  rw [← hL.out] at hR ⊢
  replace hR := Kp.mk hR
  replace hnx := Kp.mk hnx
  have CA : Kp (∀ (b n : Nat) (acc : List Int) (x : Int) (w : World), SetI w b n acc → n < 1099511627776 → (Lit.int .i64 x).wf = true → CallsIn Fence.wide 8 Try.prog 32 #[.map (some b), .int .i64 x] w _) := ⟨fun b n acc x w h hn hx => callsIn_wide.2 (addI2 b n acc x w h hn hx)⟩
  -- the set with the root
  have hwr : (Lit.int .i64 (root : Int)).wf = true := WalkArith.wf_i64 (by omega)
  obtain ⟨Wy, hins, hown, hgy⟩ := (World.ownsMap_made W Try.prog 2 (unitElem (H := Unit))).update lawK Try.underlying61 (by decide) (keyOf_int_mk Try.underlying2 hwr) unitElem_mk
  have hSy : SetI Wy W.heap.size 1 [(root : Int)] := ⟨_, hown, fun y => by
    by_cases e : y = root
    · subst e
      rw [has_put_same Maps.isMap_empty (show WideAt.IsKeyLit (.int .i64 (root : Int)) from trivial)]
      simp
    · rw [has_put_other (fun h => e (by cases h; rfl))]
      simp [e, Maps.has]⟩
  have hby : Below W.heap.size W Wy := (bel_alloc W (.map #[] 0)).grown hgy (by simp) (fun k hk => by cases hk; exact Nat.le_refl _)
  have hsy : W.heap.size + 1 ≤ Wy.heap.size := by have := hgy.size; simpa using this
  clear hown hgy
  obtain ⟨ar, cr, hrc, hrr⟩ := GC.out root hroot
  have hmm := @run_makeMap Try.prog
  have hbrM : (W.alloc (.map #[] 0)).cell? ⟨Br, 0, none⟩ = some (.int .i64 root) := at_keep hbr (bel_alloc _ _)
  have b0 := at_keep hbr hby
  have b1 := at_keep hg0 hby
  have b2 := at_keep hg1 hby
  have b3 := at_keep hrc hby
  have hr0 : (0 : Int) ≤ (root : Int) := by omega
  have hr1 : (root : Int) < (nb : Int) := by omega
  refine callsIn_wide.2 ((callsIn_wide (n := 9)).1 ?_)
  refine callsIn_of_wp Try.func86 rfl trivial ?_ rfl
  simp only [Try.ntmps86, List.size_toArray, List.length_cons, List.length_nil, Nat.reduceAdd, Nat.reduceSub, Array.replicate_succ, Array.replicate_zero, List.push_toArray, List.append_toArray, List.nil_append, List.cons_append]
  obtain ⟨W2, hW2⟩ : ∃ W2, Kp (W2 = (Wy.alloc (Go.Obj.cells #[.int .i64 root, .int .i64 root, .bool false, .slice ar (nx root).length cr] 148)).drew) := ⟨_, ⟨rfl⟩⟩
  have hb2 : Below W.heap.size W W2 := by rw [hW2.out]; exact bel_trans (bel_trans hby (bel_alloc _ _)) (bel_drew _)
  have hsW2 : W.heap.size ≤ W2.heap.size := hb2.size
  have hT0 := hJ.lt 0 T0 W h0
  have hI0 : WkI S W W2 J T0 W.heap.size 1 (.slice (some ⟨Wy.heap.size, 0, none⟩) 1 1) [⟨root, root, nx root, .slice ar (nx root).length cr⟩] [(root : Int)] 0 := by
    refine ⟨hJ.ab 0 T0 W W2 h0 (Nat.le_refl _) (Kept.of_below hb2 (Nat.le_refl _) hT0), fun m hm => hb2.block m (hSl m hm), ?_, ?_, fun x hx => ?_, hsW2, Nat.le_refl _, fun q => by have := hT0 _ q; omega, fun g hg q => ?_⟩
    · rw [hW2.out]; exact (hSy.alloc _).keep (bel_drew _)
    · rw [hW2.out]
      refine ⟨rfl, .inr ⟨Wy.heap.size, 1, #[.int .i64 root, .int .i64 root, .bool false, .slice ar (nx root).length cr], rfl, by omega, new_cells _ _, Nat.le_refl _, by decide, rfl, rfl⟩⟩
    · obtain rfl := List.mem_singleton.1 hx
      exact hrr
    · simp only [Value.ownBlock, Option.some.injEq] at hg
      have := hT0 _ q
      omega
  have hL0 : 0 < L.length := by rw [hL.out]; simp
  have hLg : L[0] = ((root : Int), (root : Int), false) := by simp only [hL.out, List.getElem_cons_zero]
  have hR0 := hR.out 0 hL0 T0 W2 hI0.j hsW2
  rw [hLg] at hR0
  obtain ⟨fn, tmps, assign, body, hy, hRR⟩ := yield_wide rfl 8 hR0
  dsimp only [stE] at hy
  have hEd : Kp (Walks nx k0 [((root : Int), (root : Int), nx root)] [(root : Int)] (L.drop 1)) := ⟨by rw [hL.out]; exact hE⟩
  replace hI0 := Kp.mk hI0
  replace hLg := Kp.mk hLg
  replace hL := Kp.mk hL
  clear hR0
  have hc2 : W2.heap[Wy.heap.size]? = some (Go.Obj.cells #[.int .i64 root, .int .i64 root, .bool false, .slice ar (nx root).length cr] 148 (0, 0)) := by rw [hW2.out]; exact new_cells _ _
  have d0 := at_cells hc2 (j := 0) rfl
  have d1 := at_cells hc2 (j := 1) rfl
  have d2 := at_cells hc2 (j := 2) rfl
  replace hc2 := Kp.mk hc2
  gi_wp2
  gi_region
  rw [← hW2.out]
  clear hW2 hins hmm hbrM b0 b1 b2 b3
  gi_wp2
  refine hRR.mono ?_
  rintro e W3 ⟨T1, hg3, hk3, (⟨rfl, hJ3⟩ | ⟨rfl, hJ3⟩)⟩
  case inr =>
    gi_wp2
    refine bodyPost_ret (results_none rfl _ _ _) rfl ?_
    exact ⟨⟨_, rfl⟩, T1, .inr ⟨0, hL0, hJ3⟩⟩
  case inl =>
    have hI3 := hI0.out.round hg3 hk3 hJ3
    have hun : 1 + unS nb [(root : Int)] ≤ nb := by
      have h1 := unS_add nb (s := []) hroot rfl
      have h2 := unS_nil nb []
      rw [List.nil_append] at h1
      omega
    have hWk : WkR nx nb S W J L W.heap.size k0 (.slice (some ⟨Wy.heap.size, 0, none⟩) 1 1) W3 := ⟨[⟨root, root, nx root, .slice ar (nx root).length cr⟩], [(root : Int)], 1, T1, 1, hEd.out, hL0, hI3, hun, hun, fun x hx y hy => by
      obtain rfl := List.mem_singleton.1 hx
      exact (hnx.out root hroot).2 y hy⟩
    clear d0 d1 d2 hI0 hI3 hg3 hk3 hJ3 hRR hy
    gi_wp2
    gi_loopw [5] (fun v wr => ∃ k, WkR nx nb S W J L W.heap.size k v wr) (fun v wr => leastOf (fun k => WkR nx nb S W J L W.heap.size k v wr))
    case atStart => exact ⟨_, hWk⟩
    case round =>
      clear hWk
      obtain ⟨hkk, -⟩ := leastOf_spec hrel
      clear hrel
      generalize hke : leastOf _ = k at hkk
      replace hke := Kp.mk hke
      obtain ⟨ws, s, j, T, cnt, hw, hjl, hI, hn1, hn2, hval⟩ := hkk
      rcases List.eq_nil_or_concat ws with rfl | ⟨us, x, ews⟩
      · have hE0 := Walks.inv_nil hw
        obtain rfl : j = L.length := by
          have := congrArg List.length hE0
          rw [List.length_drop, List.length_nil] at this
          omega
        obtain ⟨a0, c0, rfl⟩ := row_shape' hI.way
        have hJe := hI.j
        replace hI := Kp.mk hI
        replace hE0 := Kp.mk hE0
        replace hw := Kp.mk hw
        gi_wp2
        refine bodyPost_end (results_none rfl _ _ _) rfl ?_
        exact ⟨⟨_, rfl⟩, T, .inl hJe⟩
      · rw [List.concat_eq_append] at ews
        subst ews
        obtain ⟨g, cap, cur, rfl, hg, hcap, hcm, hcs, hct, hgW⟩ := hI.row (by simp)
        rw [wayOf_snoc] at hw
        have tc := top_cells hct
        obtain ⟨xb, xf, xr, xv⟩ := x
        have c0 := at_cells hg (tc 0 (by omega) _ rfl)
        have c1 := at_cells hg (tc 1 (by omega) _ rfl)
        have c3 := at_cells hg (tc 3 (by omega) _ rfl)
        rw [Nat.add_zero] at c0
        have hro := hI.rest _ (List.mem_append_right _ (List.mem_singleton.2 rfl))
        dsimp only at hro c0 c1 c3
        obtain ⟨rb, ro, ⟨⟨ra, rc, rfl, r1, r2⟩, r3⟩, hrS, rcl⟩ := hro.ex
        have hus : (us ++ [(⟨xb, xf, xr, .slice ra xr.length rc⟩ : Vs)]).length = us.length + 1 := by simp
        have hub : us.length + 1 ≤ nb := by have := hn2; rw [hus] at this; omega
        have hcu : us.length + 1 ≤ cap := by rw [hus] at hcap; exact hcap
        have hcu2 : us.length ≤ cap := by omega
        cases xr with
        | nil =>
          obtain ⟨k', E', rfl, hE', hw'⟩ := Walks.inv_leave hw
          obtain ⟨hjlt, hLj, hdj⟩ := drop_inv hE'
          rw [← hdj] at hw'
          have hId := hI.below hJ hSl (bel_drew wr)
          have hRj := hR.out j hjlt T wr.drew hId.j hId.sz
          rw [hLj] at hRj
          obtain ⟨fn, tmps, assign, body, hy, hRR⟩ := yield_wide rfl 8 hRj
          dsimp only [stE] at hy
          rw [hus]
          have c0d := at_keep c0 (bel_drew wr)
          have c1d := at_keep c1 (bel_drew wr)
          have c3d := at_keep c3 (bel_drew wr)
          replace hI := Kp.mk hI
          replace hId := Kp.mk hId
          replace hw := Kp.mk hw
          replace hw' := Kp.mk hw'
          replace hLj := Kp.mk hLj
          replace hdj := Kp.mk hdj
          replace hE' := Kp.mk hE'
          replace hct := Kp.mk hct
          replace hg := Kp.mk hg
          have hlen := Kp.mk hus
          clear hRj hus
          gi_wp2
          refine wpIn_region_any (by kernel_rfl) ?_
          change wpAnyIn _ _ _ _ _ _ _ _ _ wr.drew
          refine wpAnyIn_take (i := 0) (v := .func (.yield l) #[] #[]) rfl rfl (by kernel_rfl) (by kernel_rfl) (by kernel_rfl) (fun _ _ _ h => h) ⟨Or.inl ⟨by rfl, fun wq => by go_simp⟩, fun wq => by rfl⟩ ?_
          try simp only [Act.put, List.getElem_toArray, List.getElem_cons_succ, List.getElem_cons_zero, List.setIfInBounds_toArray, List.set_cons_zero, List.set_cons_succ]
          refine wpAnyIn_take (i := 1) (v := .pointer (some ⟨g, us.length * 4, none⟩)) rfl rfl (by kernel_rfl) (by kernel_rfl) (by kernel_rfl) (fun _ _ _ h => h) ⟨Or.inl ⟨by rfl, fun wq => by go_simp⟩, fun wq => by rfl⟩ ?_
          try simp only [Act.put, List.getElem_toArray, List.getElem_cons_succ, List.getElem_cons_zero, List.setIfInBounds_toArray, List.set_cons_zero, List.set_cons_succ]
          refine wpAnyIn_take (i := 2) (v := .pointer (some ⟨g, us.length * 4, none⟩)) rfl rfl (by kernel_rfl) (by kernel_rfl) (by kernel_rfl) (fun _ _ _ h => h) ⟨Or.inl ⟨by rfl, fun wq => by go_simp⟩, fun wq => by rfl⟩ ?_
          try simp only [Act.put, List.getElem_toArray, List.getElem_cons_succ, List.getElem_cons_zero, List.setIfInBounds_toArray, List.set_cons_zero, List.set_cons_succ]
          refine wpAnyIn_take (i := 3) (v := .pointer (some ⟨g, us.length * 4, none⟩)) rfl rfl (by kernel_rfl) (by kernel_rfl) (by kernel_rfl) (fun _ _ _ h => h) ⟨Or.inl ⟨by rfl, fun wq => by go_simp⟩, fun wq => by rfl⟩ ?_
          try simp only [Act.put, List.getElem_toArray, List.getElem_cons_succ, List.getElem_cons_zero, List.setIfInBounds_toArray, List.set_cons_zero, List.set_cons_succ]
          refine wpAnyIn_take (i := 4) (v := .pointer (some ⟨g, us.length * 4, none⟩)) rfl rfl (by kernel_rfl) (by kernel_rfl) (by kernel_rfl) (fun _ _ _ h => h) ⟨Or.inl ⟨by rfl, fun wq => by go_simp⟩, fun wq => by rfl⟩ ?_
          try simp only [Act.put, List.getElem_toArray, List.getElem_cons_succ, List.getElem_cons_zero, List.setIfInBounds_toArray, List.set_cons_zero, List.set_cons_succ]
          refine wpAnyIn_take (i := 6) (v := .pointer (some ⟨g, us.length * 4, none⟩)) rfl rfl (by kernel_rfl) (by kernel_rfl) (by kernel_rfl) (fun _ _ _ h => h) ⟨Or.inl ⟨by rfl, fun wq => by go_simp⟩, fun wq => by rfl⟩ ?_
          try simp only [Act.put, List.getElem_toArray, List.getElem_cons_succ, List.getElem_cons_zero, List.setIfInBounds_toArray, List.set_cons_zero, List.set_cons_succ]
          refine wpAnyIn_take (i := 7) (v := .pointer (some ⟨g, us.length * 4, none⟩)) rfl rfl (by kernel_rfl) (by kernel_rfl) (by kernel_rfl) (fun _ _ _ h => h) ⟨Or.inl ⟨by rfl, fun wq => by go_simp⟩, fun wq => by rfl⟩ ?_
          try simp only [Act.put, List.getElem_toArray, List.getElem_cons_succ, List.getElem_cons_zero, List.setIfInBounds_toArray, List.set_cons_zero, List.set_cons_succ]
          refine wpAnyIn_take (i := 8) (v := .pointer (some ⟨g, us.length * 4, none⟩)) rfl rfl (by kernel_rfl) (by kernel_rfl) (by kernel_rfl) (fun _ _ _ h => h) ⟨Or.inl ⟨by rfl, fun wq => by go_simp⟩, fun wq => by rfl⟩ ?_
          try simp only [Act.put, List.getElem_toArray, List.getElem_cons_succ, List.getElem_cons_zero, List.setIfInBounds_toArray, List.set_cons_zero, List.set_cons_succ]
          refine wpAnyIn_take (i := 9) (v := .pointer (some ⟨g, us.length * 4 + 1, none⟩)) rfl rfl (by kernel_rfl) (by kernel_rfl) (by kernel_rfl) (fun _ _ _ h => h) ⟨Or.inl ⟨by rfl, fun wq => by go_simp⟩, fun wq => by rfl⟩ ?_
          try simp only [Act.put, List.getElem_toArray, List.getElem_cons_succ, List.getElem_cons_zero, List.setIfInBounds_toArray, List.set_cons_zero, List.set_cons_succ]
          refine wpAnyIn_ready (rs := [5, 10]) (by kernel_rfl) (by simp) ?_
          refine AllReadyIn.cons rfl (fun K hK => ?_) (AllReadyIn.cons rfl (fun K hK => ?_) AllReadyIn.nil)
          · go_simp
            refine hK _ _ ?_
            clear hK K
            try simp only [Act.put, List.getElem_toArray, List.getElem_cons_succ, List.getElem_cons_zero, List.setIfInBounds_toArray, List.set_cons_zero, List.set_cons_succ]
            refine wpAnyIn_ready (rs := [10]) (by kernel_rfl) (by simp) ?_
            refine AllReadyIn.cons rfl (fun K hK => ?_) AllReadyIn.nil
            go_simp
            refine hK _ _ ?_
            clear hK K
            try simp only [Act.put, List.getElem_toArray, List.getElem_cons_succ, List.getElem_cons_zero, List.setIfInBounds_toArray, List.set_cons_zero, List.set_cons_succ]
            refine wpAnyIn_take (i := 11) (v := .agg #[.int .i64 xb, .int .i64 xf, .bool true]) rfl rfl (by kernel_rfl) (by kernel_rfl) (by kernel_rfl) (fun _ _ _ h => h) ⟨Or.inl ⟨by rfl, fun wq => by go_simp⟩, fun wq => by rfl⟩ ?_
            try simp only [Act.put, List.getElem_toArray, List.getElem_cons_succ, List.getElem_cons_zero, List.setIfInBounds_toArray, List.set_cons_zero, List.set_cons_succ]
            refine wpAnyIn_ready (rs := [12]) (by kernel_rfl) (by simp) ?_
            refine AllReadyIn.cons rfl (fun K hK => ?_) AllReadyIn.nil
            go_simp
            refine hRR.mono ?_
            rintro e W4 ⟨T4, hg4, hk4, (⟨rfl, hJ4⟩ | ⟨rfl, hJ4⟩)⟩
            · have hI4 := hId.out.round hg4 hk4 hJ4
              have hWk : WkR nx nb S W J L W.heap.size k' (.slice (some ⟨g, 0, none⟩) us.length cap) W4 := ⟨us, s, j + 1, T4, cnt, hw'.out, hjlt, hI4.pop, hn1, by rw [hlen.out] at hn2; omega, fun y hy => hval y (List.mem_append_left _ hy)⟩
              clear hI4 hRR hy
              refine hK _ _ ?_
              clear hK K
              try simp only [Act.put, List.getElem_toArray, List.getElem_cons_succ, List.getElem_cons_zero, List.setIfInBounds_toArray, List.set_cons_zero, List.set_cons_succ]
              refine wpAnyIn_take (i := 13) (v := .bool false) rfl rfl (by kernel_rfl) (by kernel_rfl) (by kernel_rfl) (fun _ _ _ h => h) ⟨Or.inl ⟨by rfl, fun wq => by go_simp⟩, fun wq => by rfl⟩ ?_
              try simp only [Act.put, List.getElem_toArray, List.getElem_cons_succ, List.getElem_cons_zero, List.setIfInBounds_toArray, List.set_cons_zero, List.set_cons_succ]
              refine wpAnyIn_done (by kernel_rfl) ?_ _
              gi_wp2
              exact ⟨⟨_, hWk⟩, by have hq := hke.out; rw [hlen.out] at hq; rw [hq]; exact lessens' hWk (Nat.lt_succ_self _)⟩
            · clear hRR hy
              refine hK _ _ ?_
              clear hK K
              try simp only [Act.put, List.getElem_toArray, List.getElem_cons_succ, List.getElem_cons_zero, List.setIfInBounds_toArray, List.set_cons_zero, List.set_cons_succ]
              refine wpAnyIn_take (i := 13) (v := .bool true) rfl rfl (by kernel_rfl) (by kernel_rfl) (by kernel_rfl) (fun _ _ _ h => h) ⟨Or.inl ⟨by rfl, fun wq => by go_simp⟩, fun wq => by rfl⟩ ?_
              try simp only [Act.put, List.getElem_toArray, List.getElem_cons_succ, List.getElem_cons_zero, List.setIfInBounds_toArray, List.set_cons_zero, List.set_cons_succ]
              refine wpAnyIn_done (by kernel_rfl) ?_ _
              gi_wp2
              refine bodyPost_ret (results_none rfl _ _ _) rfl ?_
              exact ⟨⟨_, rfl⟩, T4, .inr ⟨j, hjlt, hJ4⟩⟩
          · go_simp
            refine hK _ _ ?_
            clear hK K
            try simp only [Act.put, List.getElem_toArray, List.getElem_cons_succ, List.getElem_cons_zero, List.setIfInBounds_toArray, List.set_cons_zero, List.set_cons_succ]
            refine wpAnyIn_ready (rs := [5]) (by kernel_rfl) (by simp) ?_
            refine AllReadyIn.cons rfl (fun K hK => ?_) AllReadyIn.nil
            go_simp
            refine hK _ _ ?_
            clear hK K
            try simp only [Act.put, List.getElem_toArray, List.getElem_cons_succ, List.getElem_cons_zero, List.setIfInBounds_toArray, List.set_cons_zero, List.set_cons_succ]
            refine wpAnyIn_take (i := 11) (v := .agg #[.int .i64 xb, .int .i64 xf, .bool true]) rfl rfl (by kernel_rfl) (by kernel_rfl) (by kernel_rfl) (fun _ _ _ h => h) ⟨Or.inl ⟨by rfl, fun wq => by go_simp⟩, fun wq => by rfl⟩ ?_
            try simp only [Act.put, List.getElem_toArray, List.getElem_cons_succ, List.getElem_cons_zero, List.setIfInBounds_toArray, List.set_cons_zero, List.set_cons_succ]
            refine wpAnyIn_ready (rs := [12]) (by kernel_rfl) (by simp) ?_
            refine AllReadyIn.cons rfl (fun K hK => ?_) AllReadyIn.nil
            go_simp
            refine hRR.mono ?_
            rintro e W4 ⟨T4, hg4, hk4, (⟨rfl, hJ4⟩ | ⟨rfl, hJ4⟩)⟩
            · have hI4 := hId.out.round hg4 hk4 hJ4
              have hWk : WkR nx nb S W J L W.heap.size k' (.slice (some ⟨g, 0, none⟩) us.length cap) W4 := ⟨us, s, j + 1, T4, cnt, hw'.out, hjlt, hI4.pop, hn1, by rw [hlen.out] at hn2; omega, fun y hy => hval y (List.mem_append_left _ hy)⟩
              clear hI4 hRR hy
              refine hK _ _ ?_
              clear hK K
              try simp only [Act.put, List.getElem_toArray, List.getElem_cons_succ, List.getElem_cons_zero, List.setIfInBounds_toArray, List.set_cons_zero, List.set_cons_succ]
              refine wpAnyIn_take (i := 13) (v := .bool false) rfl rfl (by kernel_rfl) (by kernel_rfl) (by kernel_rfl) (fun _ _ _ h => h) ⟨Or.inl ⟨by rfl, fun wq => by go_simp⟩, fun wq => by rfl⟩ ?_
              try simp only [Act.put, List.getElem_toArray, List.getElem_cons_succ, List.getElem_cons_zero, List.setIfInBounds_toArray, List.set_cons_zero, List.set_cons_succ]
              refine wpAnyIn_done (by kernel_rfl) ?_ _
              gi_wp2
              exact ⟨⟨_, hWk⟩, by have hq := hke.out; rw [hlen.out] at hq; rw [hq]; exact lessens' hWk (Nat.lt_succ_self _)⟩
            · clear hRR hy
              refine hK _ _ ?_
              clear hK K
              try simp only [Act.put, List.getElem_toArray, List.getElem_cons_succ, List.getElem_cons_zero, List.setIfInBounds_toArray, List.set_cons_zero, List.set_cons_succ]
              refine wpAnyIn_take (i := 13) (v := .bool true) rfl rfl (by kernel_rfl) (by kernel_rfl) (by kernel_rfl) (fun _ _ _ h => h) ⟨Or.inl ⟨by rfl, fun wq => by go_simp⟩, fun wq => by rfl⟩ ?_
              try simp only [Act.put, List.getElem_toArray, List.getElem_cons_succ, List.getElem_cons_zero, List.setIfInBounds_toArray, List.set_cons_zero, List.set_cons_succ]
              refine wpAnyIn_done (by kernel_rfl) ?_ _
              gi_wp2
              refine bodyPost_ret (results_none rfl _ _ _) rfl ?_
              exact ⟨⟨_, rfl⟩, T4, .inr ⟨j, hjlt, hJ4⟩⟩
        | cons c r =>
          obtain ⟨k', rfl, hcase⟩ := Walks.inv_cons hw
          obtain ⟨hc0, hc1⟩ := hval _ (List.mem_append_right _ (List.mem_singleton.2 rfl)) c (by simp)
          obtain ⟨t, rfl⟩ : ∃ t : Nat, c = t := ⟨c.toNat, by omega⟩
          have ht : t < nb := by omega
          have hvr : ∀ y ∈ r, 0 ≤ y ∧ y < nb := fun y hy => hval _ (List.mem_append_right _ (List.mem_singleton.2 rfl)) y (by simp [hy])
          have hvu : ∀ x ∈ us, ∀ y ∈ x.r, 0 ≤ y ∧ y < nb := fun x hx => hval x (List.mem_append_left _ hx)
          obtain rfl := r2 (by simp)
          have e0 := at_same (rcl 0 (by simp)) (hI.hS rb hrS)
          simp only [List.getElem_cons_zero, Nat.add_zero] at e0
          have hfz := rw_cells hg (us.length * 4 + 3)
          have hwt : (Lit.int .i64 (t : Int)).wf = true := WalkArith.wf_i64 (by omega)
          simp only [List.length_cons] at c3 r1 r3
          have hlen := Kp.mk hus
          have hrv : (rc = 1 ∧ r = []) ∨ 1 < rc := by
            rcases Nat.lt_or_ge 1 rc with q | q
            · exact .inr q
            · exact .inl ⟨by omega, List.length_eq_zero_iff.1 (by omega)⟩
          rcases hrv with ⟨rfl, rfl⟩ | hrc2
          · have hrr' : RestOk S W (.slice (some ⟨rb, ro, none⟩) 0 0) [] := ⟨rb, ro, ⟨⟨_, _, rfl, Nat.le_refl _, fun h => absurd h (by simp)⟩, by simp⟩, hrS, fun i hi => by simp at hi⟩
            have hI4 := hI.setRest hJ hSl hrr'
            obtain ⟨W4, hW4⟩ : ∃ W4, Kp (W4 = wr.setCell ⟨g, us.length * 4 + 3, none⟩ (.slice (some ⟨rb, ro, none⟩) 0 0)) := ⟨_, ⟨rfl⟩⟩
            rw [← hW4.out] at hI4
            have CAt := Kp.mk (CA.out W.heap.size cnt s t W4 hI4.set (by omega) hwt)
            rw [hus]
            have hl4 : (us ++ [(⟨xb, xf, [], .slice (some ⟨rb, ro, none⟩) 0 0⟩ : Vs)]).length = us.length + 1 := by simp
            replace hI := Kp.mk hI
            replace hI4 := Kp.mk hI4
            replace hw := Kp.mk hw
            replace hg := Kp.mk hg
            replace hct := Kp.mk hct
            replace hl4 := Kp.mk hl4
            replace hrr' := Kp.mk hrr'
            clear hus
            rcases hcase with ⟨hcs, hw'⟩ | ⟨hcs, E', hE', hw'⟩
            · replace hw' := Kp.mk hw'
              replace hcs := Kp.mk hcs
              gi_wp2
              rw [← hW4.out]
              refine ⟨trivial, ?_⟩
              refine CAt.out.mono ?_
              rintro e W5 ⟨rfl, hg5, hS5⟩
              rw [show addL s (t : Int) = s from if_pos hcs.out, if_pos hcs.out] at hS5
              have hI5 := hI4.out.add hJ hSl hg5 hS5
              have hWk : WkR nx nb S W J L W.heap.size k' (.slice (some ⟨g, 0, none⟩) (us.length + 1) cap) W5 := ⟨us ++ [(⟨xb, xf, [], .slice (some ⟨rb, ro, none⟩) 0 0⟩ : Vs)], s, j, T, cnt, by rw [wayOf_snoc]; exact hw'.out, hjl, by rw [← hl4.out]; exact hI5, hn1, by rw [hl4.out]; rw [hlen.out] at hn2; exact hn2, fun y hy => by
                rcases List.mem_append.1 hy with hy | hy
                · exact hvu y hy
                · obtain rfl := List.mem_singleton.1 hy
                  exact hvr⟩
              rw [hcs.out]
              clear hI5 hg5 hS5
              gi_wp2
              exact ⟨⟨_, hWk⟩, by have hq := hke.out; rw [hlen.out] at hq; rw [hq]; exact lessens' hWk (Nat.lt_succ_self _)⟩
            · obtain ⟨hjlt, hLj, hdj⟩ := drop_inv hE'
              rw [← hdj] at hw'
              replace hw' := Kp.mk hw'
              replace hcs := Kp.mk hcs
              replace hE' := Kp.mk hE'
              replace hdj := Kp.mk hdj
              gi_wp2
              rw [← hW4.out]
              refine ⟨trivial, ?_⟩
              refine CAt.out.mono ?_
              rintro e W5 ⟨rfl, hg5, hS5⟩
              rw [show addL s (t : Int) = s ++ [(t : Int)] from if_neg (by rw [hcs.out]; simp), if_neg (by rw [hcs.out]; simp)] at hS5
              have hI5 := hI4.out.add hJ hSl hg5 hS5
              obtain ⟨g', cap', cur5, e5, hg5r, -, -, -, hct5, -⟩ := hI5.row (by simp)
              cases e5
              have c05 := at_cells hg5r (top_cells hct5 0 (by omega) _ rfl)
              rw [Nat.add_zero] at c05
              obtain ⟨W6, hW6⟩ : ∃ W6, Kp (W6 = W5.alloc (Go.Obj.cells #[.int .i64 t, .int .i64 xb, .bool false] 124)) := ⟨_, ⟨rfl⟩⟩
              have hI6 := hI5.below hJ hSl (bel_alloc W5 (Go.Obj.cells #[.int .i64 t, .int .i64 xb, .bool false] 124))
              rw [← hW6.out] at hI6
              have hcm6 : W6.heap[W5.heap.size]? = some (Go.Obj.cells #[.int .i64 t, .int .i64 xb, .bool false] 124 (0, 0)) := by rw [hW6.out]; exact new_cells _ _
              have d0 := at_cells hcm6 (j := 0) rfl
              have d1 := at_cells hcm6 (j := 1) rfl
              have d2 := at_cells hcm6 (j := 2) rfl
              have hnT : ¬ T W5.heap.size := fun q => by have := hJ.lt j T W5 hI5.j _ q; omega
              have hW5z : W.heap.size ≤ W5.heap.size := hI5.sz
              have hz6 : W5.heap.size < W6.heap.size := (Array.getElem?_eq_some_iff.1 hcm6).1
              have hRj := hR.out j hjlt T W6 hI6.j hI6.sz
              rw [hLj] at hRj
              obtain ⟨fn, tmps, assign, body, hy, hRR⟩ := yield_wide rfl 8 hRj
              dsimp only [stE] at hy
              rw [hcs.out]
              replace hI5 := Kp.mk hI5
              replace hI6 := Kp.mk hI6
              replace hg5r := Kp.mk hg5r
              replace hct5 := Kp.mk hct5
              replace hcm6 := Kp.mk hcm6
              replace hLj := Kp.mk hLj
              clear hg5 hS5 hRj c0 c1 c3 e0 hfz
              gi_wp2
              rw [← hW6.out]
              clear hW6
              gi_wp2
              rw [hy]
              go_simp
              refine hRR.mono ?_
              rintro e W7 ⟨T7, hg7, hk7, (⟨rfl, hJ7⟩ | ⟨rfl, hJ7⟩)⟩
              case inr =>
                gi_wp2
                refine bodyPost_ret (results_none rfl _ _ _) rfl ?_
                exact ⟨⟨_, rfl⟩, T7, .inr ⟨j, hjlt, hJ7⟩⟩
              case inl =>
                have hI7 := hI6.out.round hg7 hk7 hJ7
                have hcm7 : W7.heap[W5.heap.size]? = some (Go.Obj.cells #[.int .i64 t, .int .i64 xb, .bool false] 124 (0, 0)) := (hk7.high _ hW5z hz6 hnT).trans hcm6.out
                have f0 := at_cells hcm7 (j := 0) rfl
                have f1 := at_cells hcm7 (j := 1) rfl
                have f2 := at_cells hcm7 (j := 2) rfl
                have f3 := at_same hg0 (hI7.hS Bg hSg)
                obtain ⟨at', ct', hct1, hct2⟩ := GC.out t ht
                have f4 := at_same hct1 (hI7.hS hb hSh)
                obtain ⟨i0, hi0, hz0, hz1, hz2⟩ := info_parts infoVi
                obtain ⟨W7a, hW7a⟩ : ∃ W7a, Kp (W7a = (W7.alloc (Go.Obj.cells #[.int .i64 t, .int .i64 xb, .bool false, .slice at' (nx t).length ct'] 148)).drew) := ⟨_, ⟨rfl⟩⟩
                have hba : Below W7.heap.size W7 W7a := by rw [hW7a.out]; exact bel_trans (bel_alloc _ _) (bel_drew _)
                have hnew : W7a.heap[W7.heap.size]? = some (Go.Obj.cells #[.int .i64 t, .int .i64 xb, .bool false, .slice at' (nx t).length ct'] 148 (0, 0)) := by rw [hW7a.out]; exact new_cells _ _
                have hI7d := hI7.below hJ hSl hba
                have hlw : us.length + 1 + unS nb s ≤ nb := by have := hn2; rw [hlen.out] at this; exact this
                have huA := unS_add nb ht hcs.out
                have hb1 : (us ++ [(⟨xb, xf, [], .slice (some ⟨rb, ro, none⟩) 0 0⟩ : Vs)]).length + 1 ≤ maxLen := by rw [hl4.out]; unfold maxLen; omega
                have hb2' : ((us ++ [(⟨xb, xf, [], .slice (some ⟨rb, ro, none⟩) 0 0⟩ : Vs)]).length + 1) * 48 ≤ 140737488355328 := by rw [hl4.out]; omega
                obtain ⟨gg, cap8, W8, hrun, hown8, hgrow8, hat8, hlt8⟩ := run_append_lies (P := Try.prog) W7a 149 149 W.heap.size 148 i0 _ 4 48 Try.underlying149 hi0 hz0 hz1 hz2 rfl (by omega) _ _ _ hI7d.way ⟨W7.heap.size, 0, none⟩ 1 1 [.int .i64 t, .int .i64 xb, .bool false, .slice at' (nx t).length ct'] rfl (World.news_of_block (cs := #[.int .i64 t, .int .i64 xb, .bool false, .slice at' (nx t).length ct']) (t := 148) (fr := (0, 0)) hnew) (by simp [Value.oneCell']) (by omega) hb1 hb2' hI7d.sz W7a.heap.size rfl
                have hI8 := hI7d.push2 hJ hSl (x := ⟨t, xb, nx t, .slice at' (nx t).length ct'⟩) hgrow8 hown8 hat8 hct2
                rw [hl4.out] at hrun
                have hl8 : ((us ++ [(⟨xb, xf, [], .slice (some ⟨rb, ro, none⟩) 0 0⟩ : Vs)]) ++ [(⟨t, xb, nx t, .slice at' (nx t).length ct'⟩ : Vs)]).length = us.length + 1 + 1 := by simp
                rw [hl8] at hI8
                have hWk : WkR nx nb S W J L W.heap.size k' (.slice (some ⟨gg, 0, none⟩) (us.length + 1 + 1) cap8) W8 := ⟨(us ++ [(⟨xb, xf, [], .slice (some ⟨rb, ro, none⟩) 0 0⟩ : Vs)]) ++ [(⟨t, xb, nx t, .slice at' (nx t).length ct'⟩ : Vs)], s ++ [(t : Int)], j + 1, T7, cnt + 1, by rw [wayOf_snoc, wayOf_snoc]; exact hw'.out, hjlt, hI8, by omega, by rw [hl8]; omega, fun y hy => by
                  rcases List.mem_append.1 hy with hy | hy
                  · rcases List.mem_append.1 hy with hy | hy
                    · exact hvu y hy
                    · obtain rfl := List.mem_singleton.1 hy
                      exact hvr
                  · obtain rfl := List.mem_singleton.1 hy
                    exact (hnx.out t ht).2⟩
                have f0d := at_keep f0 (bel_drew W7)
                have f1d := at_keep f1 (bel_drew W7)
                have f2d := at_keep f2 (bel_drew W7)
                have f3d := at_keep f3 (bel_drew W7)
                have f4d := at_keep f4 (bel_drew W7)
                have f0a := at_keep f0 hba
                have f1a := at_keep f1 hba
                have f2a := at_keep f2 hba
                have f3a := at_keep f3 hba
                have f4a := at_keep f4 hba
                have ht0' : (0 : Int) ≤ (t : Int) := by omega
                have ht1' : (t : Int) < (nb : Int) := by omega
                replace hrun := Kp.mk hrun
                replace hI7 := Kp.mk hI7
                replace hI7d := Kp.mk hI7d
                replace hI8 := Kp.mk hI8
                replace hcm7 := Kp.mk hcm7
                replace hl8 := Kp.mk hl8
                clear hown8 hgrow8 hg7 hk7 hRR hy
                gi_wp2
                refine wpIn_region_any (by kernel_rfl) ?_
                change wpAnyIn _ _ _ _ _ _ _ _ _ W7.drew
                refine wpAnyIn_take (i := 0) (v := .slice (some ⟨g, 0, none⟩) (us.length + 1) cap) rfl rfl (by kernel_rfl) (by kernel_rfl) (by kernel_rfl) (fun _ _ _ h => h) ⟨Or.inl ⟨by rfl, fun wq => by go_simp⟩, fun wq => by rfl⟩ ?_
                try simp only [Act.put, List.getElem_toArray, List.getElem_cons_succ, List.getElem_cons_zero, List.setIfInBounds_toArray, List.set_cons_zero, List.set_cons_succ]
                refine wpAnyIn_take (i := 2) (v := .pointer (some ⟨Bg, 0, none⟩)) rfl rfl (by kernel_rfl) (by kernel_rfl) (by kernel_rfl) (fun _ _ _ h => h) ⟨Or.inl ⟨by rfl, fun wq => by go_simp⟩, fun wq => by rfl⟩ ?_
                try simp only [Act.put, List.getElem_toArray, List.getElem_cons_succ, List.getElem_cons_zero, List.setIfInBounds_toArray, List.set_cons_zero, List.set_cons_succ]
                refine wpAnyIn_take (i := 4) (v := .int .i64 t) rfl rfl (by kernel_rfl) (by kernel_rfl) (by kernel_rfl) (fun _ _ _ h => h) ⟨Or.inl ⟨by rfl, fun wq => by go_simp⟩, fun wq => by rfl⟩ ?_
                try simp only [Act.put, List.getElem_toArray, List.getElem_cons_succ, List.getElem_cons_zero, List.setIfInBounds_toArray, List.set_cons_zero, List.set_cons_succ]
                refine wpAnyIn_ready (rs := [1, 3]) (by kernel_rfl) (by simp) ?_
                refine AllReadyIn.cons rfl (fun K hK => ?_) (AllReadyIn.cons rfl (fun K hK => ?_) AllReadyIn.nil)
                · go_simp
                  refine hK _ _ ?_
                  clear hK K
                  try simp only [Act.put, List.getElem_toArray, List.getElem_cons_succ, List.getElem_cons_zero, List.setIfInBounds_toArray, List.set_cons_zero, List.set_cons_succ]
                  refine wpAnyIn_ready (rs := [3]) (by kernel_rfl) (by simp) ?_
                  refine AllReadyIn.cons rfl (fun K hK => ?_) AllReadyIn.nil
                  go_simp
                  refine hK _ _ ?_
                  clear hK K
                  try simp only [Act.put, List.getElem_toArray, List.getElem_cons_succ, List.getElem_cons_zero, List.setIfInBounds_toArray, List.set_cons_zero, List.set_cons_succ]
                  refine wpAnyIn_take (i := 5) (v := .pointer (some ⟨hb, ho + t, none⟩)) rfl rfl (by kernel_rfl) (by kernel_rfl) (by kernel_rfl) (fun _ _ _ h => h) ⟨Or.inl ⟨by rfl, fun wq => by go_simp⟩, fun wq => by rfl⟩ ?_
                  try simp only [Act.put, List.getElem_toArray, List.getElem_cons_succ, List.getElem_cons_zero, List.setIfInBounds_toArray, List.set_cons_zero, List.set_cons_succ]
                  refine wpAnyIn_ready (rs := [6]) (by kernel_rfl) (by simp) ?_
                  refine AllReadyIn.cons rfl (fun K hK => ?_) AllReadyIn.nil
                  go_simp
                  refine hK _ _ ?_
                  clear hK K
                  try simp only [Act.put, List.getElem_toArray, List.getElem_cons_succ, List.getElem_cons_zero, List.setIfInBounds_toArray, List.set_cons_zero, List.set_cons_succ]
                  refine wpAnyIn_take (i := 7) (v := .agg #[.int .i64 t, .int .i64 xb, .bool false, .slice at' (nx t).length ct']) rfl rfl (by kernel_rfl) (by kernel_rfl) (by kernel_rfl) (fun _ _ _ h => h) ⟨Or.inl ⟨by rfl, fun wq => by go_simp⟩, fun wq => by rfl⟩ ?_
                  try simp only [Act.put, List.getElem_toArray, List.getElem_cons_succ, List.getElem_cons_zero, List.setIfInBounds_toArray, List.set_cons_zero, List.set_cons_succ]
                  refine wpAnyIn_ready (rs := [8]) (by kernel_rfl) (by simp) ?_
                  refine AllReadyIn.cons rfl (fun K hK => ?_) AllReadyIn.nil
                  go_simp
                  rw [← hW7a.out]
                  refine hK _ _ ?_
                  clear hK K
                  try simp only [Act.put, List.getElem_toArray, List.getElem_cons_succ, List.getElem_cons_zero, List.setIfInBounds_toArray, List.set_cons_zero, List.set_cons_succ]
                  refine wpAnyIn_ready (rs := [9]) (by kernel_rfl) (by simp) ?_
                  refine AllReadyIn.cons rfl (fun K hK => ?_) AllReadyIn.nil
                  refine stepIn_append rfl rfl (.tmp 91) (.tmp 99) 149 rfl hrun.out ?_
                  refine hK _ _ ?_
                  clear hK K
                  try simp only [Act.put, List.getElem_toArray, List.getElem_cons_succ, List.getElem_cons_zero, List.setIfInBounds_toArray, List.set_cons_zero, List.set_cons_succ]
                  refine wpAnyIn_take (i := 10) (v := .slice (some ⟨gg, 0, none⟩) (us.length + 1 + 1) cap8) rfl rfl (by kernel_rfl) (by kernel_rfl) (by kernel_rfl) (fun _ _ _ h => h) ⟨Or.inl ⟨by rfl, fun wq => by go_simp⟩, fun wq => by rfl⟩ ?_
                  try simp only [Act.put, List.getElem_toArray, List.getElem_cons_succ, List.getElem_cons_zero, List.setIfInBounds_toArray, List.set_cons_zero, List.set_cons_succ]
                  refine wpAnyIn_done (by kernel_rfl) ?_ _
                  gi_wp2
                  exact ⟨⟨_, hWk⟩, by have hq := hke.out; rw [hlen.out] at hq; rw [hq]; exact lessens' hWk (Nat.lt_succ_self _)⟩
                · go_simp
                  refine hK _ _ ?_
                  clear hK K
                  try simp only [Act.put, List.getElem_toArray, List.getElem_cons_succ, List.getElem_cons_zero, List.setIfInBounds_toArray, List.set_cons_zero, List.set_cons_succ]
                  refine wpAnyIn_take (i := 5) (v := .pointer (some ⟨hb, ho + t, none⟩)) rfl rfl (by kernel_rfl) (by kernel_rfl) (by kernel_rfl) (fun _ _ _ h => h) ⟨Or.inl ⟨by rfl, fun wq => by go_simp⟩, fun wq => by rfl⟩ ?_
                  try simp only [Act.put, List.getElem_toArray, List.getElem_cons_succ, List.getElem_cons_zero, List.setIfInBounds_toArray, List.set_cons_zero, List.set_cons_succ]
                  refine wpAnyIn_ready (rs := [1, 6]) (by kernel_rfl) (by simp) ?_
                  refine AllReadyIn.cons rfl (fun K hK => ?_) (AllReadyIn.cons rfl (fun K hK => ?_) AllReadyIn.nil)
                  · go_simp
                    refine hK _ _ ?_
                    clear hK K
                    try simp only [Act.put, List.getElem_toArray, List.getElem_cons_succ, List.getElem_cons_zero, List.setIfInBounds_toArray, List.set_cons_zero, List.set_cons_succ]
                    refine wpAnyIn_ready (rs := [6]) (by kernel_rfl) (by simp) ?_
                    refine AllReadyIn.cons rfl (fun K hK => ?_) AllReadyIn.nil
                    go_simp
                    refine hK _ _ ?_
                    clear hK K
                    try simp only [Act.put, List.getElem_toArray, List.getElem_cons_succ, List.getElem_cons_zero, List.setIfInBounds_toArray, List.set_cons_zero, List.set_cons_succ]
                    refine wpAnyIn_take (i := 7) (v := .agg #[.int .i64 t, .int .i64 xb, .bool false, .slice at' (nx t).length ct']) rfl rfl (by kernel_rfl) (by kernel_rfl) (by kernel_rfl) (fun _ _ _ h => h) ⟨Or.inl ⟨by rfl, fun wq => by go_simp⟩, fun wq => by rfl⟩ ?_
                    try simp only [Act.put, List.getElem_toArray, List.getElem_cons_succ, List.getElem_cons_zero, List.setIfInBounds_toArray, List.set_cons_zero, List.set_cons_succ]
                    refine wpAnyIn_ready (rs := [8]) (by kernel_rfl) (by simp) ?_
                    refine AllReadyIn.cons rfl (fun K hK => ?_) AllReadyIn.nil
                    go_simp
                    rw [← hW7a.out]
                    refine hK _ _ ?_
                    clear hK K
                    try simp only [Act.put, List.getElem_toArray, List.getElem_cons_succ, List.getElem_cons_zero, List.setIfInBounds_toArray, List.set_cons_zero, List.set_cons_succ]
                    refine wpAnyIn_ready (rs := [9]) (by kernel_rfl) (by simp) ?_
                    refine AllReadyIn.cons rfl (fun K hK => ?_) AllReadyIn.nil
                    refine stepIn_append rfl rfl (.tmp 91) (.tmp 99) 149 rfl hrun.out ?_
                    refine hK _ _ ?_
                    clear hK K
                    try simp only [Act.put, List.getElem_toArray, List.getElem_cons_succ, List.getElem_cons_zero, List.setIfInBounds_toArray, List.set_cons_zero, List.set_cons_succ]
                    refine wpAnyIn_take (i := 10) (v := .slice (some ⟨gg, 0, none⟩) (us.length + 1 + 1) cap8) rfl rfl (by kernel_rfl) (by kernel_rfl) (by kernel_rfl) (fun _ _ _ h => h) ⟨Or.inl ⟨by rfl, fun wq => by go_simp⟩, fun wq => by rfl⟩ ?_
                    try simp only [Act.put, List.getElem_toArray, List.getElem_cons_succ, List.getElem_cons_zero, List.setIfInBounds_toArray, List.set_cons_zero, List.set_cons_succ]
                    refine wpAnyIn_done (by kernel_rfl) ?_ _
                    gi_wp2
                    exact ⟨⟨_, hWk⟩, by have hq := hke.out; rw [hlen.out] at hq; rw [hq]; exact lessens' hWk (Nat.lt_succ_self _)⟩
                  · go_simp
                    refine hK _ _ ?_
                    clear hK K
                    try simp only [Act.put, List.getElem_toArray, List.getElem_cons_succ, List.getElem_cons_zero, List.setIfInBounds_toArray, List.set_cons_zero, List.set_cons_succ]
                    refine wpAnyIn_ready (rs := [1]) (by kernel_rfl) (by simp) ?_
                    refine AllReadyIn.cons rfl (fun K hK => ?_) AllReadyIn.nil
                    go_simp
                    refine hK _ _ ?_
                    clear hK K
                    try simp only [Act.put, List.getElem_toArray, List.getElem_cons_succ, List.getElem_cons_zero, List.setIfInBounds_toArray, List.set_cons_zero, List.set_cons_succ]
                    refine wpAnyIn_take (i := 7) (v := .agg #[.int .i64 t, .int .i64 xb, .bool false, .slice at' (nx t).length ct']) rfl rfl (by kernel_rfl) (by kernel_rfl) (by kernel_rfl) (fun _ _ _ h => h) ⟨Or.inl ⟨by rfl, fun wq => by go_simp⟩, fun wq => by rfl⟩ ?_
                    try simp only [Act.put, List.getElem_toArray, List.getElem_cons_succ, List.getElem_cons_zero, List.setIfInBounds_toArray, List.set_cons_zero, List.set_cons_succ]
                    refine wpAnyIn_ready (rs := [8]) (by kernel_rfl) (by simp) ?_
                    refine AllReadyIn.cons rfl (fun K hK => ?_) AllReadyIn.nil
                    go_simp
                    rw [← hW7a.out]
                    refine hK _ _ ?_
                    clear hK K
                    try simp only [Act.put, List.getElem_toArray, List.getElem_cons_succ, List.getElem_cons_zero, List.setIfInBounds_toArray, List.set_cons_zero, List.set_cons_succ]
                    refine wpAnyIn_ready (rs := [9]) (by kernel_rfl) (by simp) ?_
                    refine AllReadyIn.cons rfl (fun K hK => ?_) AllReadyIn.nil
                    refine stepIn_append rfl rfl (.tmp 91) (.tmp 99) 149 rfl hrun.out ?_
                    refine hK _ _ ?_
                    clear hK K
                    try simp only [Act.put, List.getElem_toArray, List.getElem_cons_succ, List.getElem_cons_zero, List.setIfInBounds_toArray, List.set_cons_zero, List.set_cons_succ]
                    refine wpAnyIn_take (i := 10) (v := .slice (some ⟨gg, 0, none⟩) (us.length + 1 + 1) cap8) rfl rfl (by kernel_rfl) (by kernel_rfl) (by kernel_rfl) (fun _ _ _ h => h) ⟨Or.inl ⟨by rfl, fun wq => by go_simp⟩, fun wq => by rfl⟩ ?_
                    try simp only [Act.put, List.getElem_toArray, List.getElem_cons_succ, List.getElem_cons_zero, List.setIfInBounds_toArray, List.set_cons_zero, List.set_cons_succ]
                    refine wpAnyIn_done (by kernel_rfl) ?_ _
                    gi_wp2
                    exact ⟨⟨_, hWk⟩, by have hq := hke.out; rw [hlen.out] at hq; rw [hq]; exact lessens' hWk (Nat.lt_succ_self _)⟩
          · have hrr' : RestOk S W (.slice (some ⟨rb, ro + 1, none⟩) r.length (rc - 1)) r := ⟨rb, ro + 1, ⟨⟨_, _, rfl, by omega, fun _ => rfl⟩, by omega⟩, hrS, fun i hi => by
              have := rcl (i + 1) (by simp; omega)
              rw [show ro + 1 + i = ro + (i + 1) by omega]
              simpa using this⟩
            have hI4 := hI.setRest hJ hSl hrr'
            obtain ⟨W4, hW4⟩ : ∃ W4, Kp (W4 = wr.setCell ⟨g, us.length * 4 + 3, none⟩ (.slice (some ⟨rb, ro + 1, none⟩) r.length (rc - 1))) := ⟨_, ⟨rfl⟩⟩
            rw [← hW4.out] at hI4
            have CAt := Kp.mk (CA.out W.heap.size cnt s t W4 hI4.set (by omega) hwt)
            rw [hus]
            have hl4 : (us ++ [(⟨xb, xf, r, .slice (some ⟨rb, ro + 1, none⟩) r.length (rc - 1)⟩ : Vs)]).length = us.length + 1 := by simp
            replace hI := Kp.mk hI
            replace hI4 := Kp.mk hI4
            replace hw := Kp.mk hw
            replace hg := Kp.mk hg
            replace hct := Kp.mk hct
            replace hl4 := Kp.mk hl4
            replace hrr' := Kp.mk hrr'
            clear hus
            rcases hcase with ⟨hcs, hw'⟩ | ⟨hcs, E', hE', hw'⟩
            · replace hw' := Kp.mk hw'
              replace hcs := Kp.mk hcs
              gi_wp2
              rw [← hW4.out]
              refine ⟨trivial, ?_⟩
              refine CAt.out.mono ?_
              rintro e W5 ⟨rfl, hg5, hS5⟩
              rw [show addL s (t : Int) = s from if_pos hcs.out, if_pos hcs.out] at hS5
              have hI5 := hI4.out.add hJ hSl hg5 hS5
              have hWk : WkR nx nb S W J L W.heap.size k' (.slice (some ⟨g, 0, none⟩) (us.length + 1) cap) W5 := ⟨us ++ [(⟨xb, xf, r, .slice (some ⟨rb, ro + 1, none⟩) r.length (rc - 1)⟩ : Vs)], s, j, T, cnt, by rw [wayOf_snoc]; exact hw'.out, hjl, by rw [← hl4.out]; exact hI5, hn1, by rw [hl4.out]; rw [hlen.out] at hn2; exact hn2, fun y hy => by
                rcases List.mem_append.1 hy with hy | hy
                · exact hvu y hy
                · obtain rfl := List.mem_singleton.1 hy
                  exact hvr⟩
              rw [hcs.out]
              clear hI5 hg5 hS5
              gi_wp2
              exact ⟨⟨_, hWk⟩, by have hq := hke.out; rw [hlen.out] at hq; rw [hq]; exact lessens' hWk (Nat.lt_succ_self _)⟩
            · obtain ⟨hjlt, hLj, hdj⟩ := drop_inv hE'
              rw [← hdj] at hw'
              replace hw' := Kp.mk hw'
              replace hcs := Kp.mk hcs
              replace hE' := Kp.mk hE'
              replace hdj := Kp.mk hdj
              gi_wp2
              rw [← hW4.out]
              refine ⟨trivial, ?_⟩
              refine CAt.out.mono ?_
              rintro e W5 ⟨rfl, hg5, hS5⟩
              rw [show addL s (t : Int) = s ++ [(t : Int)] from if_neg (by rw [hcs.out]; simp), if_neg (by rw [hcs.out]; simp)] at hS5
              have hI5 := hI4.out.add hJ hSl hg5 hS5
              obtain ⟨g', cap', cur5, e5, hg5r, -, -, -, hct5, -⟩ := hI5.row (by simp)
              cases e5
              have c05 := at_cells hg5r (top_cells hct5 0 (by omega) _ rfl)
              rw [Nat.add_zero] at c05
              obtain ⟨W6, hW6⟩ : ∃ W6, Kp (W6 = W5.alloc (Go.Obj.cells #[.int .i64 t, .int .i64 xb, .bool false] 124)) := ⟨_, ⟨rfl⟩⟩
              have hI6 := hI5.below hJ hSl (bel_alloc W5 (Go.Obj.cells #[.int .i64 t, .int .i64 xb, .bool false] 124))
              rw [← hW6.out] at hI6
              have hcm6 : W6.heap[W5.heap.size]? = some (Go.Obj.cells #[.int .i64 t, .int .i64 xb, .bool false] 124 (0, 0)) := by rw [hW6.out]; exact new_cells _ _
              have d0 := at_cells hcm6 (j := 0) rfl
              have d1 := at_cells hcm6 (j := 1) rfl
              have d2 := at_cells hcm6 (j := 2) rfl
              have hnT : ¬ T W5.heap.size := fun q => by have := hJ.lt j T W5 hI5.j _ q; omega
              have hW5z : W.heap.size ≤ W5.heap.size := hI5.sz
              have hz6 : W5.heap.size < W6.heap.size := (Array.getElem?_eq_some_iff.1 hcm6).1
              have hRj := hR.out j hjlt T W6 hI6.j hI6.sz
              rw [hLj] at hRj
              obtain ⟨fn, tmps, assign, body, hy, hRR⟩ := yield_wide rfl 8 hRj
              dsimp only [stE] at hy
              rw [hcs.out]
              replace hI5 := Kp.mk hI5
              replace hI6 := Kp.mk hI6
              replace hg5r := Kp.mk hg5r
              replace hct5 := Kp.mk hct5
              replace hcm6 := Kp.mk hcm6
              replace hLj := Kp.mk hLj
              clear hg5 hS5 hRj c0 c1 c3 e0 hfz
              gi_wp2
              rw [← hW6.out]
              clear hW6
              gi_wp2
              rw [hy]
              go_simp
              refine hRR.mono ?_
              rintro e W7 ⟨T7, hg7, hk7, (⟨rfl, hJ7⟩ | ⟨rfl, hJ7⟩)⟩
              case inr =>
                gi_wp2
                refine bodyPost_ret (results_none rfl _ _ _) rfl ?_
                exact ⟨⟨_, rfl⟩, T7, .inr ⟨j, hjlt, hJ7⟩⟩
              case inl =>
                have hI7 := hI6.out.round hg7 hk7 hJ7
                have hcm7 : W7.heap[W5.heap.size]? = some (Go.Obj.cells #[.int .i64 t, .int .i64 xb, .bool false] 124 (0, 0)) := (hk7.high _ hW5z hz6 hnT).trans hcm6.out
                have f0 := at_cells hcm7 (j := 0) rfl
                have f1 := at_cells hcm7 (j := 1) rfl
                have f2 := at_cells hcm7 (j := 2) rfl
                have f3 := at_same hg0 (hI7.hS Bg hSg)
                obtain ⟨at', ct', hct1, hct2⟩ := GC.out t ht
                have f4 := at_same hct1 (hI7.hS hb hSh)
                obtain ⟨i0, hi0, hz0, hz1, hz2⟩ := info_parts infoVi
                obtain ⟨W7a, hW7a⟩ : ∃ W7a, Kp (W7a = (W7.alloc (Go.Obj.cells #[.int .i64 t, .int .i64 xb, .bool false, .slice at' (nx t).length ct'] 148)).drew) := ⟨_, ⟨rfl⟩⟩
                have hba : Below W7.heap.size W7 W7a := by rw [hW7a.out]; exact bel_trans (bel_alloc _ _) (bel_drew _)
                have hnew : W7a.heap[W7.heap.size]? = some (Go.Obj.cells #[.int .i64 t, .int .i64 xb, .bool false, .slice at' (nx t).length ct'] 148 (0, 0)) := by rw [hW7a.out]; exact new_cells _ _
                have hI7d := hI7.below hJ hSl hba
                have hlw : us.length + 1 + unS nb s ≤ nb := by have := hn2; rw [hlen.out] at this; exact this
                have huA := unS_add nb ht hcs.out
                have hb1 : (us ++ [(⟨xb, xf, r, .slice (some ⟨rb, ro + 1, none⟩) r.length (rc - 1)⟩ : Vs)]).length + 1 ≤ maxLen := by rw [hl4.out]; unfold maxLen; omega
                have hb2' : ((us ++ [(⟨xb, xf, r, .slice (some ⟨rb, ro + 1, none⟩) r.length (rc - 1)⟩ : Vs)]).length + 1) * 48 ≤ 140737488355328 := by rw [hl4.out]; omega
                obtain ⟨gg, cap8, W8, hrun, hown8, hgrow8, hat8, hlt8⟩ := run_append_lies (P := Try.prog) W7a 149 149 W.heap.size 148 i0 _ 4 48 Try.underlying149 hi0 hz0 hz1 hz2 rfl (by omega) _ _ _ hI7d.way ⟨W7.heap.size, 0, none⟩ 1 1 [.int .i64 t, .int .i64 xb, .bool false, .slice at' (nx t).length ct'] rfl (World.news_of_block (cs := #[.int .i64 t, .int .i64 xb, .bool false, .slice at' (nx t).length ct']) (t := 148) (fr := (0, 0)) hnew) (by simp [Value.oneCell']) (by omega) hb1 hb2' hI7d.sz W7a.heap.size rfl
                have hI8 := hI7d.push2 hJ hSl (x := ⟨t, xb, nx t, .slice at' (nx t).length ct'⟩) hgrow8 hown8 hat8 hct2
                rw [hl4.out] at hrun
                have hl8 : ((us ++ [(⟨xb, xf, r, .slice (some ⟨rb, ro + 1, none⟩) r.length (rc - 1)⟩ : Vs)]) ++ [(⟨t, xb, nx t, .slice at' (nx t).length ct'⟩ : Vs)]).length = us.length + 1 + 1 := by simp
                rw [hl8] at hI8
                have hWk : WkR nx nb S W J L W.heap.size k' (.slice (some ⟨gg, 0, none⟩) (us.length + 1 + 1) cap8) W8 := ⟨(us ++ [(⟨xb, xf, r, .slice (some ⟨rb, ro + 1, none⟩) r.length (rc - 1)⟩ : Vs)]) ++ [(⟨t, xb, nx t, .slice at' (nx t).length ct'⟩ : Vs)], s ++ [(t : Int)], j + 1, T7, cnt + 1, by rw [wayOf_snoc, wayOf_snoc]; exact hw'.out, hjlt, hI8, by omega, by rw [hl8]; omega, fun y hy => by
                  rcases List.mem_append.1 hy with hy | hy
                  · rcases List.mem_append.1 hy with hy | hy
                    · exact hvu y hy
                    · obtain rfl := List.mem_singleton.1 hy
                      exact hvr
                  · obtain rfl := List.mem_singleton.1 hy
                    exact (hnx.out t ht).2⟩
                have f0d := at_keep f0 (bel_drew W7)
                have f1d := at_keep f1 (bel_drew W7)
                have f2d := at_keep f2 (bel_drew W7)
                have f3d := at_keep f3 (bel_drew W7)
                have f4d := at_keep f4 (bel_drew W7)
                have f0a := at_keep f0 hba
                have f1a := at_keep f1 hba
                have f2a := at_keep f2 hba
                have f3a := at_keep f3 hba
                have f4a := at_keep f4 hba
                have ht0' : (0 : Int) ≤ (t : Int) := by omega
                have ht1' : (t : Int) < (nb : Int) := by omega
                replace hrun := Kp.mk hrun
                replace hI7 := Kp.mk hI7
                replace hI7d := Kp.mk hI7d
                replace hI8 := Kp.mk hI8
                replace hcm7 := Kp.mk hcm7
                replace hl8 := Kp.mk hl8
                clear hown8 hgrow8 hg7 hk7 hRR hy
                gi_wp2
                refine wpIn_region_any (by kernel_rfl) ?_
                change wpAnyIn _ _ _ _ _ _ _ _ _ W7.drew
                refine wpAnyIn_take (i := 0) (v := .slice (some ⟨g, 0, none⟩) (us.length + 1) cap) rfl rfl (by kernel_rfl) (by kernel_rfl) (by kernel_rfl) (fun _ _ _ h => h) ⟨Or.inl ⟨by rfl, fun wq => by go_simp⟩, fun wq => by rfl⟩ ?_
                try simp only [Act.put, List.getElem_toArray, List.getElem_cons_succ, List.getElem_cons_zero, List.setIfInBounds_toArray, List.set_cons_zero, List.set_cons_succ]
                refine wpAnyIn_take (i := 2) (v := .pointer (some ⟨Bg, 0, none⟩)) rfl rfl (by kernel_rfl) (by kernel_rfl) (by kernel_rfl) (fun _ _ _ h => h) ⟨Or.inl ⟨by rfl, fun wq => by go_simp⟩, fun wq => by rfl⟩ ?_
                try simp only [Act.put, List.getElem_toArray, List.getElem_cons_succ, List.getElem_cons_zero, List.setIfInBounds_toArray, List.set_cons_zero, List.set_cons_succ]
                refine wpAnyIn_take (i := 4) (v := .int .i64 t) rfl rfl (by kernel_rfl) (by kernel_rfl) (by kernel_rfl) (fun _ _ _ h => h) ⟨Or.inl ⟨by rfl, fun wq => by go_simp⟩, fun wq => by rfl⟩ ?_
                try simp only [Act.put, List.getElem_toArray, List.getElem_cons_succ, List.getElem_cons_zero, List.setIfInBounds_toArray, List.set_cons_zero, List.set_cons_succ]
                refine wpAnyIn_ready (rs := [1, 3]) (by kernel_rfl) (by simp) ?_
                refine AllReadyIn.cons rfl (fun K hK => ?_) (AllReadyIn.cons rfl (fun K hK => ?_) AllReadyIn.nil)
                · go_simp
                  refine hK _ _ ?_
                  clear hK K
                  try simp only [Act.put, List.getElem_toArray, List.getElem_cons_succ, List.getElem_cons_zero, List.setIfInBounds_toArray, List.set_cons_zero, List.set_cons_succ]
                  refine wpAnyIn_ready (rs := [3]) (by kernel_rfl) (by simp) ?_
                  refine AllReadyIn.cons rfl (fun K hK => ?_) AllReadyIn.nil
                  go_simp
                  refine hK _ _ ?_
                  clear hK K
                  try simp only [Act.put, List.getElem_toArray, List.getElem_cons_succ, List.getElem_cons_zero, List.setIfInBounds_toArray, List.set_cons_zero, List.set_cons_succ]
                  refine wpAnyIn_take (i := 5) (v := .pointer (some ⟨hb, ho + t, none⟩)) rfl rfl (by kernel_rfl) (by kernel_rfl) (by kernel_rfl) (fun _ _ _ h => h) ⟨Or.inl ⟨by rfl, fun wq => by go_simp⟩, fun wq => by rfl⟩ ?_
                  try simp only [Act.put, List.getElem_toArray, List.getElem_cons_succ, List.getElem_cons_zero, List.setIfInBounds_toArray, List.set_cons_zero, List.set_cons_succ]
                  refine wpAnyIn_ready (rs := [6]) (by kernel_rfl) (by simp) ?_
                  refine AllReadyIn.cons rfl (fun K hK => ?_) AllReadyIn.nil
                  go_simp
                  refine hK _ _ ?_
                  clear hK K
                  try simp only [Act.put, List.getElem_toArray, List.getElem_cons_succ, List.getElem_cons_zero, List.setIfInBounds_toArray, List.set_cons_zero, List.set_cons_succ]
                  refine wpAnyIn_take (i := 7) (v := .agg #[.int .i64 t, .int .i64 xb, .bool false, .slice at' (nx t).length ct']) rfl rfl (by kernel_rfl) (by kernel_rfl) (by kernel_rfl) (fun _ _ _ h => h) ⟨Or.inl ⟨by rfl, fun wq => by go_simp⟩, fun wq => by rfl⟩ ?_
                  try simp only [Act.put, List.getElem_toArray, List.getElem_cons_succ, List.getElem_cons_zero, List.setIfInBounds_toArray, List.set_cons_zero, List.set_cons_succ]
                  refine wpAnyIn_ready (rs := [8]) (by kernel_rfl) (by simp) ?_
                  refine AllReadyIn.cons rfl (fun K hK => ?_) AllReadyIn.nil
                  go_simp
                  rw [← hW7a.out]
                  refine hK _ _ ?_
                  clear hK K
                  try simp only [Act.put, List.getElem_toArray, List.getElem_cons_succ, List.getElem_cons_zero, List.setIfInBounds_toArray, List.set_cons_zero, List.set_cons_succ]
                  refine wpAnyIn_ready (rs := [9]) (by kernel_rfl) (by simp) ?_
                  refine AllReadyIn.cons rfl (fun K hK => ?_) AllReadyIn.nil
                  refine stepIn_append rfl rfl (.tmp 91) (.tmp 99) 149 rfl hrun.out ?_
                  refine hK _ _ ?_
                  clear hK K
                  try simp only [Act.put, List.getElem_toArray, List.getElem_cons_succ, List.getElem_cons_zero, List.setIfInBounds_toArray, List.set_cons_zero, List.set_cons_succ]
                  refine wpAnyIn_take (i := 10) (v := .slice (some ⟨gg, 0, none⟩) (us.length + 1 + 1) cap8) rfl rfl (by kernel_rfl) (by kernel_rfl) (by kernel_rfl) (fun _ _ _ h => h) ⟨Or.inl ⟨by rfl, fun wq => by go_simp⟩, fun wq => by rfl⟩ ?_
                  try simp only [Act.put, List.getElem_toArray, List.getElem_cons_succ, List.getElem_cons_zero, List.setIfInBounds_toArray, List.set_cons_zero, List.set_cons_succ]
                  refine wpAnyIn_done (by kernel_rfl) ?_ _
                  gi_wp2
                  exact ⟨⟨_, hWk⟩, by have hq := hke.out; rw [hlen.out] at hq; rw [hq]; exact lessens' hWk (Nat.lt_succ_self _)⟩
                · go_simp
                  refine hK _ _ ?_
                  clear hK K
                  try simp only [Act.put, List.getElem_toArray, List.getElem_cons_succ, List.getElem_cons_zero, List.setIfInBounds_toArray, List.set_cons_zero, List.set_cons_succ]
                  refine wpAnyIn_take (i := 5) (v := .pointer (some ⟨hb, ho + t, none⟩)) rfl rfl (by kernel_rfl) (by kernel_rfl) (by kernel_rfl) (fun _ _ _ h => h) ⟨Or.inl ⟨by rfl, fun wq => by go_simp⟩, fun wq => by rfl⟩ ?_
                  try simp only [Act.put, List.getElem_toArray, List.getElem_cons_succ, List.getElem_cons_zero, List.setIfInBounds_toArray, List.set_cons_zero, List.set_cons_succ]
                  refine wpAnyIn_ready (rs := [1, 6]) (by kernel_rfl) (by simp) ?_
                  refine AllReadyIn.cons rfl (fun K hK => ?_) (AllReadyIn.cons rfl (fun K hK => ?_) AllReadyIn.nil)
                  · go_simp
                    refine hK _ _ ?_
                    clear hK K
                    try simp only [Act.put, List.getElem_toArray, List.getElem_cons_succ, List.getElem_cons_zero, List.setIfInBounds_toArray, List.set_cons_zero, List.set_cons_succ]
                    refine wpAnyIn_ready (rs := [6]) (by kernel_rfl) (by simp) ?_
                    refine AllReadyIn.cons rfl (fun K hK => ?_) AllReadyIn.nil
                    go_simp
                    refine hK _ _ ?_
                    clear hK K
                    try simp only [Act.put, List.getElem_toArray, List.getElem_cons_succ, List.getElem_cons_zero, List.setIfInBounds_toArray, List.set_cons_zero, List.set_cons_succ]
                    refine wpAnyIn_take (i := 7) (v := .agg #[.int .i64 t, .int .i64 xb, .bool false, .slice at' (nx t).length ct']) rfl rfl (by kernel_rfl) (by kernel_rfl) (by kernel_rfl) (fun _ _ _ h => h) ⟨Or.inl ⟨by rfl, fun wq => by go_simp⟩, fun wq => by rfl⟩ ?_
                    try simp only [Act.put, List.getElem_toArray, List.getElem_cons_succ, List.getElem_cons_zero, List.setIfInBounds_toArray, List.set_cons_zero, List.set_cons_succ]
                    refine wpAnyIn_ready (rs := [8]) (by kernel_rfl) (by simp) ?_
                    refine AllReadyIn.cons rfl (fun K hK => ?_) AllReadyIn.nil
                    go_simp
                    rw [← hW7a.out]
                    refine hK _ _ ?_
                    clear hK K
                    try simp only [Act.put, List.getElem_toArray, List.getElem_cons_succ, List.getElem_cons_zero, List.setIfInBounds_toArray, List.set_cons_zero, List.set_cons_succ]
                    refine wpAnyIn_ready (rs := [9]) (by kernel_rfl) (by simp) ?_
                    refine AllReadyIn.cons rfl (fun K hK => ?_) AllReadyIn.nil
                    refine stepIn_append rfl rfl (.tmp 91) (.tmp 99) 149 rfl hrun.out ?_
                    refine hK _ _ ?_
                    clear hK K
                    try simp only [Act.put, List.getElem_toArray, List.getElem_cons_succ, List.getElem_cons_zero, List.setIfInBounds_toArray, List.set_cons_zero, List.set_cons_succ]
                    refine wpAnyIn_take (i := 10) (v := .slice (some ⟨gg, 0, none⟩) (us.length + 1 + 1) cap8) rfl rfl (by kernel_rfl) (by kernel_rfl) (by kernel_rfl) (fun _ _ _ h => h) ⟨Or.inl ⟨by rfl, fun wq => by go_simp⟩, fun wq => by rfl⟩ ?_
                    try simp only [Act.put, List.getElem_toArray, List.getElem_cons_succ, List.getElem_cons_zero, List.setIfInBounds_toArray, List.set_cons_zero, List.set_cons_succ]
                    refine wpAnyIn_done (by kernel_rfl) ?_ _
                    gi_wp2
                    exact ⟨⟨_, hWk⟩, by have hq := hke.out; rw [hlen.out] at hq; rw [hq]; exact lessens' hWk (Nat.lt_succ_self _)⟩
                  · go_simp
                    refine hK _ _ ?_
                    clear hK K
                    try simp only [Act.put, List.getElem_toArray, List.getElem_cons_succ, List.getElem_cons_zero, List.setIfInBounds_toArray, List.set_cons_zero, List.set_cons_succ]
                    refine wpAnyIn_ready (rs := [1]) (by kernel_rfl) (by simp) ?_
                    refine AllReadyIn.cons rfl (fun K hK => ?_) AllReadyIn.nil
                    go_simp
                    refine hK _ _ ?_
                    clear hK K
                    try simp only [Act.put, List.getElem_toArray, List.getElem_cons_succ, List.getElem_cons_zero, List.setIfInBounds_toArray, List.set_cons_zero, List.set_cons_succ]
                    refine wpAnyIn_take (i := 7) (v := .agg #[.int .i64 t, .int .i64 xb, .bool false, .slice at' (nx t).length ct']) rfl rfl (by kernel_rfl) (by kernel_rfl) (by kernel_rfl) (fun _ _ _ h => h) ⟨Or.inl ⟨by rfl, fun wq => by go_simp⟩, fun wq => by rfl⟩ ?_
                    try simp only [Act.put, List.getElem_toArray, List.getElem_cons_succ, List.getElem_cons_zero, List.setIfInBounds_toArray, List.set_cons_zero, List.set_cons_succ]
                    refine wpAnyIn_ready (rs := [8]) (by kernel_rfl) (by simp) ?_
                    refine AllReadyIn.cons rfl (fun K hK => ?_) AllReadyIn.nil
                    go_simp
                    rw [← hW7a.out]
                    refine hK _ _ ?_
                    clear hK K
                    try simp only [Act.put, List.getElem_toArray, List.getElem_cons_succ, List.getElem_cons_zero, List.setIfInBounds_toArray, List.set_cons_zero, List.set_cons_succ]
                    refine wpAnyIn_ready (rs := [9]) (by kernel_rfl) (by simp) ?_
                    refine AllReadyIn.cons rfl (fun K hK => ?_) AllReadyIn.nil
                    refine stepIn_append rfl rfl (.tmp 91) (.tmp 99) 149 rfl hrun.out ?_
                    refine hK _ _ ?_
                    clear hK K
                    try simp only [Act.put, List.getElem_toArray, List.getElem_cons_succ, List.getElem_cons_zero, List.setIfInBounds_toArray, List.set_cons_zero, List.set_cons_succ]
                    refine wpAnyIn_take (i := 10) (v := .slice (some ⟨gg, 0, none⟩) (us.length + 1 + 1) cap8) rfl rfl (by kernel_rfl) (by kernel_rfl) (by kernel_rfl) (fun _ _ _ h => h) ⟨Or.inl ⟨by rfl, fun wq => by go_simp⟩, fun wq => by rfl⟩ ?_
                    try simp only [Act.put, List.getElem_toArray, List.getElem_cons_succ, List.getElem_cons_zero, List.setIfInBounds_toArray, List.set_cons_zero, List.set_cons_succ]
                    refine wpAnyIn_done (by kernel_rfl) ?_ _
                    gi_wp2
                    exact ⟨⟨_, hWk⟩, by have hq := hke.out; rw [hlen.out] at hq; rw [hq]; exact lessens' hWk (Nat.lt_succ_self _)⟩
end Go.Proofs.Ytbfpfjkjeekbdaa
