/- The uses of values: the program's walk through them. -/
import Derived.Test.YtbfpfjkjeekbdaaLi2
import Derived.Test.YtbfpfjkjeekbdaaIt1
import Derived.Shelf.Abstract
import Derived.TacticsInMore
import Derived.LoopIn
import Derived.RegionIn
import Derived.Sort.CutIn
import Derived.Test.YtbfpfjkjeekbdaaLi4
namespace Go.Proofs.Ytbfpfjkjeekbdaa
open Go.ChangeShapes Go.WideShapes Go.ChangeAt Go.RowKit
attribute [local go_sem] Oper.semAt_some
set_option linter.unusedVariables false
set_option linter.unusedSimpArgs false
/-- What the first arguments of an instruction give. -/
def uA (bls : List (List InD)) (b i : Nat) (d : InD) : Nat → List (Int × Int × Int)
  | 0 => []
  | n + 1 => uA bls b i d n ++ (match d.args[n]? with | some o => if o.k = 4 ∧ 0 ≤ (useAt bls b i d n).1 then [(o.i, useAt bls b i d n)] else [] | none => [])
def uY (bls : List (List InD)) (y : ItD) : List (Int × Int × Int) := uA bls y.b y.i y.d y.d.args.length
def uL (bls : List (List InD)) (L : List ItD) : List (Int × Int × Int) := L.flatMap (uY bls)
abbrev usE (x : Int × Int × Int) : Array Value := #[.int .i64 x.1, .agg #[.int .i64 x.2.1, .int .i64 x.2.2]]
theorem uA_skip {bls : List (List InD)} {b i n : Nat} {d : InD} (h : n < d.args.length) (hc : ¬ (d.args[n].k = 4 ∧ 0 ≤ (useAt bls b i d n).1)) : uA bls b i d (n + 1) = uA bls b i d n := by
  rw [uA, List.getElem?_eq_getElem h]
  simp only [hc, if_false, List.append_nil]
theorem uA_hit {bls : List (List InD)} {b i n : Nat} {d : InD} (h : n < d.args.length) (hc : d.args[n].k = 4 ∧ 0 ≤ (useAt bls b i d n).1) : uA bls b i d (n + 1) = uA bls b i d n ++ [(d.args[n].i, useAt bls b i d n)] := by
  rw [uA, List.getElem?_eq_getElem h]
  simp only [hc, and_self, if_true]
theorem uA_pre (bls : List (List InD)) (b i : Nat) (d : InD) : ∀ n m, n ≤ m → ∃ r, uA bls b i d m = uA bls b i d n ++ r
  | n, 0, h => ⟨[], by obtain rfl : n = 0 := by omega
                       simp⟩
  | n, m + 1, h => by
    by_cases e : n = m + 1
    · subst e; exact ⟨[], by simp⟩
    · obtain ⟨r, hr⟩ := uA_pre bls b i d n m (by omega)
      exact ⟨r ++ _, by rw [uA, hr, List.append_assoc]⟩
theorem uL_at {bls : List (List InD)} {L : List ItD} {k n : Nat} (hk : k < L.length) (h : n < L[k].d.args.length) (hc : L[k].d.args[n].k = 4 ∧ 0 ≤ (useAt bls L[k].b L[k].i L[k].d n).1) :
    ∃ q : (uL bls (L.take k)).length + (uA bls L[k].b L[k].i L[k].d n).length < (uL bls L).length, (uL bls L)[(uL bls (L.take k)).length + (uA bls L[k].b L[k].i L[k].d n).length] = (L[k].d.args[n].i, useAt bls L[k].b L[k].i L[k].d n) := by
  obtain ⟨r, hr⟩ := uA_pre bls L[k].b L[k].i L[k].d (n + 1) L[k].d.args.length (by omega)
  rw [uA_hit h hc] at hr
  have e : uL bls L = uL bls (L.take k) ++ (uA bls L[k].b L[k].i L[k].d n ++ ([(L[k].d.args[n].i, useAt bls L[k].b L[k].i L[k].d n)] ++ (r ++ uL bls (L.drop (k + 1))))) := by
    conv => lhs; rw [← List.take_append_drop k L, List.drop_eq_getElem_cons hk]
    unfold uL
    rw [List.flatMap_append, List.flatMap_cons]
    show _ ++ (uA bls L[k].b L[k].i L[k].d L[k].d.args.length ++ _) = _
    rw [hr]
    simp only [List.append_assoc]
  have hq : (uL bls (L.take k)).length + (uA bls L[k].b L[k].i L[k].d n).length < (uL bls L).length := by
    rw [e]; simp only [List.length_append, List.length_singleton]; omega
  refine ⟨hq, ?_⟩
  have : (uL bls L)[(uL bls (L.take k)).length + (uA bls L[k].b L[k].i L[k].d n).length]? = some (L[k].d.args[n].i, useAt bls L[k].b L[k].i L[k].d n) := by
    rw [e, List.getElem?_append_right (by omega), List.getElem?_append_right (by omega)]
    simp
  rw [List.getElem?_eq_getElem hq] at this
  exact Option.some.inj this
theorem uL_succ {bls : List (List InD)} {L : List ItD} {k : Nat} (hk : k < L.length) : (uL bls (L.take (k + 1))).length = (uL bls (L.take k)).length + (uA bls L[k].b L[k].i L[k].d L[k].d.args.length).length := by
  unfold uL
  rw [List.take_succ_eq_append_getElem hk, List.flatMap_append, List.length_append, List.flatMap_singleton]
  rfl
set_option maxRecDepth 100000 in
set_option maxHeartbeats 8000000 in
theorem uses_seq (n : Nat) (S : Nat → Prop) (n0 Bf Bg : Nat) (w0 : World) (f : FnD) (vp vb vN vP : Value) (Y : List (List ItD)) (hY : ItBls n0 w0 vb Y) (hp : ∃ a n c, vp = .slice a n c) (hb : ∃ a n c, vb = .slice a n c) (hN : ∃ a n c, vN = .slice a n c) (hP : ∃ a n c, vP = .slice a n c)
    (h0 : At w0 Bf 0 (.string f.name)) (h1 : At w0 Bf 1 (.int .i64 f.link)) (h2 : At w0 Bf 2 vp) (h3 : At w0 Bf 3 (.int .i64 f.res)) (h4 : At w0 Bf 4 vb) (g0 : At w0 Bg 0 vN) (g1 : At w0 Bg 1 vP)
    (hS : ∀ k, k < n0 → S k) (hBf : S Bf) (hBg : S Bg) (hSw : ∀ k, S k → k < w0.heap.size)
    (HF : ∀ X, Kq S w0 X → FnAt 0 X f vp vb) (HP : ∀ X, Kq S w0 X → Rws 0 X vP f.blocks.length (prevs f.blocks f.blocks.length)) (HI : ∀ y ∈ Y.flatten, ∀ X, Kq S w0 X → InV 0 X y.va y.vb y.vw y.d)
    (HL : ∀ y ∈ Y.flatten, y.d.args.length ≤ 1048576 ∧ y.d.bl.length ≤ 1048576 ∧ y.b < f.blocks.length) (hn : f.blocks.length ≤ 1048576) (hbl : blsN f.blocks ≤ 1048576) :
    SeqL Fence.wide n Try.prog 64 #[.pointer (some ⟨Bf, 0, none⟩), .pointer (some ⟨Bg, 0, none⟩)] usE S (uL f.blocks Y.flatten) w0 := by
  intro l J Jx W hW hJ hJx hR hJ0
  have K0 : Kq S w0 W := Kq.below hW hSw
  have CU : Kp (∀ (y : ItD), y ∈ Y.flatten → ∀ (j : Nat) X, Kq S w0 X → j ≤ 1048576 → CallsIn Fence.wide 9 Try.prog 66 #[.agg #[vN, vP], fnV f vp vb, .agg #[.int .i64 y.b, .int .i64 y.i], inV y.d y.va y.vb y.vw, .int .i64 j] X _) :=
    ⟨fun y hy j X hX hj => callsIn_wide.2 (usedAtI f vp vb vN vP y.va y.vb y.vw y.b y.i j y.d X (HF X hX) (HP X hX) hN (HI y hy X hX).b (hY.sh hy) (HL y hy).2.2 hn hbl (HL y hy).2.1 hj)⟩
  obtain ⟨name, link, params, res, blocks⟩ := f
  dsimp only [fnV] at *
  obtain ⟨a1, n1, c1, rfl⟩ := hp
  obtain ⟨a2, n2, c2, rfl⟩ := hb
  obtain ⟨aN, nN, cN, rfl⟩ := hN
  obtain ⟨aP, nP, cP, rfl⟩ := hP
  replace h0 := K0.at hBf h0
  replace h1 := K0.at hBf h1
  replace h2 := K0.at hBf h2
  replace h3 := K0.at hBf h3
  replace h4 := K0.at hBf h4
  replace g0 := K0.at hBg g0
  replace g1 := K0.at hBg g1
  replace hR := Kp.mk hR
  replace HI := Kp.mk HI
  replace HL := Kp.mk HL
  clear HF HP
  have F5 : Kp (At W Bf 0 (.string name) ∧ At W Bf 1 (.int .i64 link) ∧ At W Bf 2 (.slice a1 n1 c1) ∧ At W Bf 3 (.int .i64 res) ∧ At W Bf 4 (.slice a2 n2 c2) ∧ At W Bg 0 (.slice aN nN cN) ∧ At W Bg 1 (.slice aP nP cP)) := ⟨h0, h1, h2, h3, h4, g0, g1⟩
  refine callsIn_wide.2 ((callsIn_wide (n := 12)).1 ?_)
  refine callsIn_of_wp_marks Try.func64 rfl trivial ?_ rfl
  simp only [Try.ntmps64, List.size_toArray, List.length_cons, List.length_nil, Nat.reduceAdd, Nat.reduceSub, Array.replicate_succ, Array.replicate_zero, List.push_toArray, List.append_toArray, List.nil_append, List.cons_append]
  have C : Kp (∀ w, CallsIn Fence.wide 11 Try.prog _ _ w _) := ⟨fun w => callsIn_wide.2 (instrsOf_c name link res (.slice a1 n1 c1) (.slice a2 n2 c2) ⟨_, _, _, rfl⟩ ⟨_, _, _, rfl⟩ w)⟩
  have hW2 : Below W.heap.size W (W.alloc (Go.Obj.cells #[.func (.yield l) #[] #[]] 105)) := bel_alloc _ _
  replace h0 := at_keep h0 hW2
  replace h1 := at_keep h1 hW2
  replace h2 := at_keep h2 hW2
  replace h3 := at_keep h3 hW2
  replace h4 := at_keep h4 hW2
  clear g0 g1
  replace hY := Kp.mk hY
  gi_wp2
  refine ⟨trivial, ?_⟩
  refine (C.out _).mono ?_
  rintro e w' ⟨rfl, rfl⟩
  obtain ⟨W3, hW3⟩ : ∃ W3, W3 = (W.alloc (Go.Obj.cells #[.func (.yield l) #[] #[]] 105)).alloc (Go.Obj.cells #[.string name, .int .i64 link, .slice a1 n1 c1, .int .i64 res, .slice a2 n2 c2] 30) := ⟨_, rfl⟩
  have hz3 : W3.heap.size = W.heap.size + 2 := by rw [hW3]; simp
  have hB3 : Below W.heap.size W W3 := by rw [hW3]; exact bel_trans hW2 (bel_alloc _ _)
  have y0 : W3.heap[W.heap.size]? = some (Go.Obj.cells #[.func (.yield l) #[] #[]] 105 (0, 0)) := by
    rw [hW3]; exact keep_cells (new_cells W _) (bel_alloc _ _)
  have f4 : At W3 (W.heap.size + 1) 4 (.slice a2 n2 c2) := by
    have := new_cells (W.alloc (Go.Obj.cells #[.func (.yield l) #[] #[]] 105)) (Go.Obj.cells #[.string name, .int .i64 link, .slice a1 n1 c1, .int .i64 res, .slice a2 n2 c2] 30)
    rw [World.size_alloc, ← hW3] at this
    exact at_cells this rfl
  simp only [World.size_alloc] at *
  rw [← hW3]
  clear hW3 hW2 h0 h1 h2 h3 h4 C
  have hsW : ∀ k, S k → k < W.heap.size := fun k hk => by have := hSw k hk; have := hW.size; omega
  have KW3 : Kq S W W3 := Kq.below hB3 hsW
  have hY3 := hY.out.kq (K0.trans KW3) hS
  obtain ⟨S2, hS2⟩ : ∃ S2 : Nat → Prop, S2 = fun k => S k ∨ k = W.heap.size ∨ k = W.heap.size + 1 := ⟨_, rfl⟩
  have hSi : ∀ k, S2 k ↔ S k ∨ k = W.heap.size ∨ k = W.heap.size + 1 := fun k => by rw [hS2]
  clear hS2
  have hs2 : ∀ k, S2 k → k < W3.heap.size := fun k hk => by
    rcases (hSi k).1 hk with hk | hk | hk
    · have := hsW k hk; omega
    · omega
    · omega
  have KS : ∀ {A B : World}, Kq S2 A B → Kq S A B := fun h => ⟨h.size, fun k hk => h.low k ((hSi k).2 (.inl hk))⟩
  have K3 : Kq S w0 W3 := K0.trans KW3
  replace hS := Kp.mk hS
  gi_wp2
  refine wpIn_rangeL rfl (by decide) (gf := 82) (lb := #[.pointer (some ⟨W.heap.size + 1, 0, none⟩)]) rfl trivial (enters_of Try.func82 (by kernel_rfl) rfl)
    (instrs_seq Fence.wide (12 - 1) trivial rfl (by decide) S2 n0 (W.heap.size + 1) W3 (.slice a2 n2 c2) Y hY3 f4 (fun k hk => (hSi k).2 (.inl (hS.out k hk))) ((hSi _).2 (.inr (.inr rfl))) hs2) (Below.refl _ _) hs2 (fun _ => rfl)
    (fun k X => J (uL blocks (Y.flatten.take k)).length X ∧ Kq S2 W3 X)
    (fun c k X => c = .ret ∧ ∃ m, m < (uL blocks Y.flatten).length ∧ Jx (m + 1) X) ?hI ?hIx ?h0
    (fun x a' X => ∃ B1 B2, W3.heap.size ≤ B1 ∧ W3.heap.size ≤ B2 ∧ X.heap[B1]? = some (Go.Obj.cells #[.int .i64 x.b, .int .i64 x.i] 82 (0, 0)) ∧ X.heap[B2]? = some (Go.Obj.cells #[.int .i64 x.d.op, .int .i64 x.d.ty, .int .i64 x.d.fl, .int .i64 x.d.pr, .int .i64 x.d.ca, .int .i64 x.d.sz, x.va, x.vb, x.vw] 112 (0, 0)) ∧ ∃ u11 u12,
      a' = { tmps := #[.func (.yield l) #[] #[], .pointer (some ⟨Bf, 0, none⟩), .pointer (some ⟨Bg, 0, none⟩), .pointer (some ⟨W.heap.size, 0, none⟩), .pointer (some ⟨B1, 0, none⟩), .pointer (some ⟨B2, 0, none⟩), undef, undef, undef, .agg #[.string name, .int .i64 link, .slice a1 n1 c1, .int .i64 res, .slice a2 n2 c2], .func (.func 82) #[] #[.pointer (some ⟨W.heap.size + 1, 0, none⟩)], u11, u12, undef, undef, undef, undef, undef, undef, undef, undef, undef, undef, undef, undef, undef, undef, undef, undef, undef, undef, undef, undef, undef, undef, undef, undef, undef, undef, undef, undef, undef], defers := [] }) ?hAx ?assign ?body ?done ?stop
  case hI =>
    rintro k A C ⟨s1, s4⟩ hA hB
    exact ⟨hJ _ A C s1 (by omega) (hB.mono (by omega)), s4.trans (Kq.below hB (fun j hj => hs2 j hj))⟩
  case hIx =>
    rintro c k A C ⟨s1, m, s2, s3⟩ hA hB
    exact ⟨s1, m, s2, hJx (m + 1) A C s3 (by omega) (hB.mono (by omega))⟩
  case h0 => exact ⟨hJ 0 W W3 hJ0 (Nat.le_refl _) hB3, Kq.refl _ _⟩
  case hAx =>
    rintro x a' u A C row ⟨B1, B2, b1, b2, p1, p2, p3⟩ hg hr
    refine ⟨B1, B2, b1, b2, (hg.block B1 (Array.getElem?_eq_some_iff.1 p1).1 (fun e => ?_)).trans p1, (hg.block B2 (Array.getElem?_eq_some_iff.1 p2).1 (fun e => ?_)).trans p2, p3⟩
    · obtain ⟨-, o, ho, hc⟩ := hr B1 e.symm
      rw [p1] at ho
      cases ho
      cases hc
    · obtain ⟨-, o, ho, hc⟩ := hr B2 e.symm
      rw [p2] at ho
      cases ho
      cases hc
  case assign =>
    intro lr k hk X K hi hX hK
    have sh := hY.out.sh (List.getElem_mem hk)
    clear hi
    generalize Y.flatten[k] = y at *
    obtain ⟨yb, yi, d, va, vb, vw⟩ := y
    obtain ⟨⟨p1, m1, g1, rfl⟩, ⟨p2, m2, g2, rfl⟩, ⟨p3, m3, g3, rfl⟩⟩ := sh
    simp only [itE, List.zip_toArray, List.zip_cons_cons, List.zip_nil_right, List.foldl_toArray', List.foldl_cons, List.foldl_nil, List.setIfInBounds_toArray, List.set_cons_succ, List.set_cons_zero, Array.zip, List.toList_toArray]
    gi_wp2
    refine hK _ _ (bel_trans (bel_alloc _ _) (bel_alloc _ _)) ⟨X.heap.size, X.heap.size + 1, hX, by omega, keep_cells (new_cells X _) (bel_alloc _ _), ?_, _, _, rfl⟩
    have := new_cells (X.alloc (Go.Obj.cells #[.int .i64 yb, .int .i64 yi] 82)) (Go.Obj.cells #[.int .i64 d.op, .int .i64 d.ty, .int .i64 d.fl, .int .i64 d.pr, .int .i64 d.ca, .int .i64 d.sz, .slice p1 m1 g1, .slice p2 m2 g2, .slice p3 m3 g3] 112)
    rwa [World.size_alloc] at this
  case body =>
    rintro lr k hk a' X hX ⟨i1, i4⟩ ⟨B1, B2, b1, b2, p1, p2, u11, u12, rfl⟩
    have hmem := List.getElem_mem hk
    have sh := hY.out.sh hmem
    have CU1 : Kp (∀ (j : Nat) X, Kq S w0 X → j ≤ 1048576 → CallsIn Fence.wide 9 Try.prog _ _ X _) := ⟨CU.out _ hmem⟩
    have hI1 := HI.out _ hmem
    obtain ⟨hl1, hl2, hl3⟩ := HL.out _ hmem
    have hAt := Kp.mk (fun j => @uL_at blocks Y.flatten k j hk)
    have hsu := Kp.mk (@uL_succ blocks Y.flatten k hk)
    replace hmem := Kp.mk hmem
    generalize hyy : Y.flatten[k] = y at *
    replace hyy := Kp.mk hyy
    obtain ⟨yb, yi, d, va, vb, vw⟩ := y
    dsimp only at *
    obtain ⟨⟨pa, ma, ca, rfl⟩, ⟨pb, mb, cb, rfl⟩, ⟨pw, mw, cw, rfl⟩⟩ := sh
    have KX : Kq S w0 X := K3.trans (KS i4)
    obtain ⟨bA, oA, ⟨⟨aA, kA, e, q1, q2⟩, q3⟩, -, ac⟩ := (hI1 X KX).a.ex
    injection e with e1 e2 e3
    subst e1 e2 e3
    have cA : X.cell? ⟨B2, 6, none⟩ = some (.slice pa d.args.length ca) := at_cells p2 rfl
    clear q1 q2 q3 ac
    replace hI1 := Kp.mk hI1
    have hX3 : W3.heap.size ≤ X.heap.size := hX
    have hb1 := (Array.getElem?_eq_some_iff.1 p1).1
    have hb2 := (Array.getElem?_eq_some_iff.1 p2).1
    replace p1 := Kp.mk p1
    replace p2 := Kp.mk p2
    have y0X : X.heap[W.heap.size]? = _ := (i4.low _ ((hSi _).2 (.inr (.inl rfl)))).trans y0
    replace y0 := Kp.mk y0X
    clear y0X
    have hJw : ∀ s A C, J s A → W.heap.size ≤ A.heap.size → Below A.heap.size A C → J s C := fun s A C h1 h2 h3 => hJ s A C h1 h2 (h3.mono h2)
    have KDb : ∀ {A B : World}, Below A.heap.size A B → W3.heap.size ≤ A.heap.size → Kd S2 W3.heap.size A B := fun h h2 => Kd.of_below h (fun k hk => by have := hs2 k hk; omega)
    replace K3 := Kp.mk K3
    replace K0 := Kp.mk K0
    replace KX := Kp.mk KX
    replace i4 := Kp.mk i4
    generalize hO : (uL blocks (Y.flatten.take k)).length = O at *
    replace hO := Kp.mk hO
    replace i1 := Kp.mk i1
    gi_wp2
    gi_loopw [16] (fun s wr => ∃ j : Nat, j ≤ d.args.length ∧ s = .int .i64 j ∧ Kp (J (O + (uA blocks yb yi d j).length) wr) ∧ Kp (Kd S2 W3.heap.size X wr)) (fun s _ => d.args.length - (intOf s).toNat)
    case atStart => exact ⟨0, Nat.zero_le _, rfl, ⟨by simpa [uA] using i1.out⟩, ⟨Kd.refl _ _ _⟩⟩
    case round =>
      obtain ⟨j, hj, rfl, hJj, KD⟩ := hrel
      have KQ : Kq S w0 wr := KX.out.trans (KS KD.out.kq)
      have hwX : X.heap.size ≤ wr.heap.size := KD.out.size
      by_cases hlt : j < d.args.length
      · obtain ⟨bA, oA, ⟨⟨aA, kA, e, q1, q2⟩, q3⟩, -, ac⟩ := (hI1.out wr KQ).a.ex
        injection e with e1 e2 e3
        subst e1 e3
        obtain rfl := q2 (by omega)
        obtain ⟨o0, o1, o2, o3⟩ := ac j hlt
        have hA := Kp.mk (hAt.out j hlt)
        have hsk := Kp.mk (@uA_skip blocks yb yi j d hlt)
        have hhi := Kp.mk (@uA_hit blocks yb yi j d hlt)
        have p1r : wr.heap[B1]? = _ := (KD.out.high B1 b1 hb1).trans p1.out
        have p2r : wr.heap[B2]? = _ := (KD.out.high B2 b2 hb2).trans p2.out
        have y0r : wr.heap[W.heap.size]? = _ := (KD.out.low _ ((hSi _).2 (.inr (.inl rfl)))).trans y0.out
        have F5r : At wr Bf 0 (.string name) ∧ At wr Bf 1 (.int .i64 link) ∧ At wr Bf 2 (.slice a1 n1 c1) ∧ At wr Bf 3 (.int .i64 res) ∧ At wr Bf 4 (.slice a2 n2 c2) ∧ At wr Bg 0 (.slice aN nN cN) ∧ At wr Bg 1 (.slice aP nP cP) := by
          obtain ⟨z0, z1, z2, z3, z4, z5, z6⟩ := F5.out
          have KW : Kq S W wr := (KW3.trans (KS i4.out)).trans (KS KD.out.kq)
          exact ⟨KW.at hBf z0, KW.at hBf z1, KW.at hBf z2, KW.at hBf z3, KW.at hBf z4, KW.at hBg z5, KW.at hBg z6⟩
        generalize d.args[j] = q at *
        obtain ⟨qk, qt, qi, qw⟩ := q
        dsimp only at *
        obtain ⟨V, hV⟩ : ∃ V, Kp (V = wr.alloc (Go.Obj.cells #[.int .i64 qk, .int .i64 qt, .int .i64 qi, .int .u64 qw] 115)) := ⟨_, ⟨rfl⟩⟩
        have hbV : Below wr.heap.size wr V := by rw [hV.out]; exact bel_alloc _ _
        have hoV : V.heap[wr.heap.size]? = some (Go.Obj.cells #[.int .i64 qk, .int .i64 qt, .int .i64 qi, .int .u64 qw] 115 (0, 0)) := by rw [hV.out]; exact new_cells _ _
        have hzV : wr.heap.size < V.heap.size := (Array.getElem?_eq_some_iff.1 hoV).1
        have k0 := at_cells hoV (j := 0) rfl
        have hJV := Kp.mk (hJw _ _ _ hJj.out (by omega) hbV)
        have KDV := Kp.mk (KD.out.trans (KDb hbV (by omega)))
        clear q1 q2 q3 ac
        by_cases hq4 : qk = 4
        · have hqb : (qk != 4) = false := by simp [hq4]
          have CUV := Kp.mk (CU1.out j V (KQ.trans (Kq.below hbV (fun k hk => by have := hsW k hk; omega))) (by omega))
          obtain ⟨u, hu⟩ : ∃ u, useAt blocks yb yi d j = u := ⟨_, rfl⟩
          rw [hu] at CUV hA hsk hhi
          obtain ⟨ub, ui⟩ := u
          dsimp only at CUV hA hsk hhi
          obtain ⟨z0, z1, z2, z3, z4, z5, z6⟩ := F5r
          replace z0 := at_keep z0 hbV
          replace z1 := at_keep z1 hbV
          replace z2 := at_keep z2 hbV
          replace z3 := at_keep z3 hbV
          replace z4 := at_keep z4 hbV
          replace z5 := at_keep z5 hbV
          replace z6 := at_keep z6 hbV
          have p1V := keep_cells p1r hbV
          have p2V := keep_cells p2r hbV
          have t0 := at_cells p1V (j := 0) rfl
          have t1 := at_cells p1V (j := 1) rfl
          have s0 := at_cells p2V (j := 0) rfl
          have s1 := at_cells p2V (j := 1) rfl
          have s2 := at_cells p2V (j := 2) rfl
          have s3 := at_cells p2V (j := 3) rfl
          have s4 := at_cells p2V (j := 4) rfl
          have s5 := at_cells p2V (j := 5) rfl
          have s6 := at_cells p2V (j := 6) rfl
          have s7 := at_cells p2V (j := 7) rfl
          have s8 := at_cells p2V (j := 8) rfl
          have y0V := keep_cells y0r hbV
          replace hoV := Kp.mk hoV
          replace p1V := Kp.mk p1V
          replace p2V := Kp.mk p2V
          replace y0V := Kp.mk y0V
          replace hq4 := Kp.mk hq4
          replace hu := Kp.mk hu
          clear p1r p2r y0r
          gi_upto_region 7 with fail
          rw [← hV.out]
          clear o0 o1 o2 o3
          gi_wp2
          refine ⟨trivial, ?_⟩
          refine CUV.out.mono ?_
          rintro e w2 ⟨rfl, hbW⟩
          clear z0 z1 z2 z3 z4 z5 z6 t0 t1 s0 s1 s2 s3 s4 s5 s6 s7 s8 CUV k0
          obtain ⟨V2, hV2⟩ : ∃ V2, Kp (V2 = w2.alloc (Go.Obj.cells #[.int .i64 ub, .int .i64 ui] 82)) := ⟨_, ⟨rfl⟩⟩
          have hbV2 : Below V.heap.size V V2 := by rw [hV2.out]; exact bel_trans hbW (bel_alloc _ _)
          have huV : V2.heap[w2.heap.size]? = some (Go.Obj.cells #[.int .i64 ub, .int .i64 ui] 82 (0, 0)) := by rw [hV2.out]; exact new_cells _ _
          have oV2 := keep_cells hoV.out hbV2
          have yV2 := keep_cells y0V.out hbV2
          have v0 := at_cells huV (j := 0) rfl
          have v1 := at_cells huV (j := 1) rfl
          have v2 := at_cells oV2 (j := 2) rfl
          have v3 := at_cells yV2 (j := 0) rfl
          have hzW : V.heap.size ≤ V2.heap.size := hbV2.size
          have hJV2 := hJw _ _ _ hJV.out (by omega) hbV2
          have KDV2 := KDV.out.trans (KDb hbV2 (by omega))
          replace huV := Kp.mk huV
          replace oV2 := Kp.mk oV2
          replace yV2 := Kp.mk yV2
          by_cases hub : 0 ≤ ub
          · obtain ⟨hlt2, hel⟩ := hA.out ⟨hq4.out, hub⟩
            have he := hhi.out ⟨hq4.out, hub⟩
            have hR2 := hR.out _ hlt2 V2 hJV2 (by omega)
            rw [hel] at hR2
            obtain ⟨fn, tmps, assign, body, hy, hRR⟩ := yield_any rfl 9 hR2
            dsimp only [usE] at hy
            replace he := Kp.mk he
            replace hlt2 := Kp.mk hlt2
            replace hJV2 := Kp.mk hJV2
            replace KDV2 := Kp.mk KDV2
            clear hel hA hsk hhi
            gi_upto_region 9 with fail
            rw [← hV2.out]
            gi_wp2
            refine RoundIn.mono (show RoundIn (Fence.wide.inRound lr) 9 _ _ _ _ _ _ _ _ from hRR) ?_
            rintro e X3 (⟨rfl, hJ3, hk3⟩ | ⟨rfl, hJx3, hk3⟩)
            · have hk3' : Kd S2 W3.heap.size V2 X3 := hk3.mono (M := W3.heap.size) (by omega) (fun k hk => by
                rcases (hSi k).1 hk with hk | hk | hk
                · exact .inl hk
                · exact .inr ⟨by omega, by omega⟩
                · exact .inr ⟨by omega, by omega⟩)
              have KD3 := Kp.mk (KDV2.out.trans hk3')
              have hJ4 : Kp (J (O + (uA blocks yb yi d (j + 1)).length) X3) := ⟨by rw [he.out, List.length_append, List.length_singleton, ← Nat.add_assoc]; exact hJ3⟩
              clear hk3 hk3' hRR hy
              gi_wp2
              exact ⟨⟨j + 1, by omega, by go_num, hJ4, KD3⟩, by simp [intOf]; omega⟩
            · have hk3' : Kd S2 W3.heap.size V2 X3 := hk3.mono (M := W3.heap.size) (by omega) (fun k hk => by
                rcases (hSi k).1 hk with hk | hk | hk
                · exact .inl hk
                · exact .inr ⟨by omega, by omega⟩
                · exact .inr ⟨by omega, by omega⟩)
              have KD3 := Kp.mk (KDV2.out.trans hk3')
              clear hk3 hk3' hRR hy
              gi_wp2
              exact ⟨KD3.out, rfl, _, hlt2.out, hJx3⟩
          · have he := hsk.out (fun h => hub h.2)
            have hub2 : decide (0 ≤ ub) = false := decide_eq_false hub
            rw [← he] at hJV2
            replace hJV2 := Kp.mk hJV2
            replace KDV2 := Kp.mk KDV2
            clear he hA hsk hhi
            gi_upto_region 9 with fail
            rw [← hV2.out]
            gi_wp2
            refine ⟨by simp, ?_⟩
            gi_wp2
            exact ⟨⟨j + 1, by omega, by go_num, hJV2, KDV2⟩, by simp [intOf]; omega⟩
        · have hqb : (qk != 4) = true := by simp [hq4]
          have he := hsk.out (fun h => hq4 h.1)
          rw [← he] at hJV
          clear hA hsk hhi he p1r p2r y0r F5r
          replace hq4 := Kp.mk hq4
          gi_upto_region 7 with fail
          rw [← hV.out]
          gi_wp2
          exact ⟨⟨j + 1, by omega, by go_num, hJV, KDV⟩, by simp [intOf]; omega⟩
      · obtain rfl : j = d.args.length := by omega
        rw [← hsu.out] at hJj
        gi_wp2
        exact ⟨KD.out, hJj.out, i4.out.trans KD.out.kq⟩
  case done =>
    rintro D X hD ⟨i1, i4⟩ hK
    rw [List.take_length] at i1
    gi_wp2
    refine ⟨by simp, .inl ⟨_, _, rfl, run_takeDeferred hK, ?_⟩⟩
    refine ⟨_, results_none rfl _ _ _, ⟨_, rfl⟩, .inl ?_⟩
    exact hJ.putObj _ i1 (by omega) (by have := (Array.getElem?_eq_some_iff.1 hK).1; omega)
  case stop =>
    rintro D c k X hD hk ⟨rfl, m, hm, hx⟩ hK
    gi_wp2
    refine ⟨by simp, .inl ⟨_, _, rfl, run_takeDeferred hK, ?_⟩⟩
    refine ⟨_, results_none rfl _ _ _, ⟨_, rfl⟩, .inr ⟨m, hm, ?_⟩⟩
    exact hJx.putObj _ hx (by omega) (by have := (Array.getElem?_eq_some_iff.1 hK).1; omega)
end Go.Proofs.Ytbfpfjkjeekbdaa
namespace Go.Proofs.Ytbfpfjkjeekbdaa
open Go.ChangeShapes Go.WideShapes Go.ChangeAt Go.RowKit
set_option linter.unusedVariables false
set_option linter.unusedSimpArgs false
theorem hold_iffR {root : Nat} {nx : Int → List Int} {nb : Nat} {prs : List (Int × Int)} {ab st sz : Nat → Nat} (hA : Arr nb root prs) (hD : Dv prs.length (frN prs) nx (prs.map (·.1)) []) (hnear : ∀ u, 0 < u → u < prs.length → Near (EN nx (prs.map (·.1))) (ab u) u) (hS : Stretch prs.length ab st sz) (a b : Int) :
    holdB (numL (prs.map (·.1))) (fun i => (st i : Int)) (fun i => (sz i : Int)) nb a b = true ↔ DomB nx root a b := by
  have hM : prs.length = (prs.map (·.1)).length := by simp
  have h0 : (prs.map (·.1))[0]? = some (root : Int) := by rw [List.getElem?_map, hA.hd]; rfl
  have D := hD.deep hM
  have hin : ∀ (t : Nat), (t : Int) ∈ prs.map (·.1) → t < nb := fun t ht => by
    obtain ⟨e, he, h⟩ := List.mem_map.1 ht
    have := hA.bd e he
    rw [h] at this
    omega
  rw [hD.dom hM h0 a b]
  unfold holdB
  constructor
  · intro h
    simp only [Bool.and_eq_true, decide_eq_true_eq] at h
    obtain ⟨ha, hb, h1, h2⟩ := h
    obtain ⟨ka, rfl, ka1, ka2⟩ := isC_true ha
    obtain ⟨kb, rfl, kb1, kb2⟩ := isC_true hb
    obtain ⟨i, hi⟩ := List.getElem?_of_mem ((hA.num ka).1.1 ka2)
    obtain ⟨j, hj⟩ := List.getElem?_of_mem ((hA.num kb).1.1 kb2)
    have ei := (hA.num ka).2.1 i hi
    have ej := (hA.num kb).2.1 j hj
    rw [Int.toNat_natCast, Int.toNat_natCast, ei, ej, Int.toNat_natCast, Int.toNat_natCast] at h1 h2
    have il : i < prs.length := by rw [hM]; exact lt_of_get hi
    have jl : j < prs.length := by rw [hM]; exact lt_of_get hj
    exact ⟨i, j, hi, hj, (Near.up D hnear i j jl).2 ((hS.iff il jl).2 ⟨by omega, by omega⟩)⟩
  · rintro ⟨i, j, hi, hj, hd⟩
    have il : i < prs.length := by rw [hM]; exact lt_of_get hi
    have jl : j < prs.length := by rw [hM]; exact lt_of_get hj
    have hu := (hS.iff il jl).1 ((Near.up D hnear i j jl).1 hd)
    have ma := List.mem_of_getElem? hi
    have mb := List.mem_of_getElem? hj
    obtain ⟨ea, hea, rfl⟩ := List.mem_map.1 ma
    obtain ⟨eb, heb, rfl⟩ := List.mem_map.1 mb
    have ba := hA.bd ea hea
    have bb := hA.bd eb heb
    generalize ea.1 = a at *
    generalize eb.1 = b at *
    obtain ⟨ka, rfl⟩ : ∃ t : Nat, a = t := ⟨a.toNat, by omega⟩
    obtain ⟨kb, rfl⟩ : ∃ t : Nat, b = t := ⟨b.toNat, by omega⟩
    have ei := (hA.num ka).2.1 i hi
    have ej := (hA.num kb).2.1 j hj
    unfold isC
    rw [Int.toNat_natCast, Int.toNat_natCast, ei, ej, Int.toNat_natCast, Int.toNat_natCast]
    simp only [Bool.and_eq_true, decide_eq_true_eq]
    exact ⟨⟨⟨by omega, by omega⟩, by omega⟩, ⟨⟨by omega, by omega⟩, by omega⟩, by omega, by omega⟩
theorem come_iff {root : Nat} {nx : Int → List Int} {nb : Nat} {prs : List (Int × Int)} (hA : Arr nb root prs) (hD : Dv prs.length (frN prs) nx (prs.map (·.1)) []) (t : Int) : isC (numL (prs.map (·.1))) nb t = true ↔ Way (EB nx) (fun _ => True) (root : Int) t := by
  have h0 : (prs.map (·.1))[0]? = some (root : Int) := by rw [List.getElem?_map, hA.hd]; rfl
  rw [hD.reach (by simp) h0 t]
  constructor
  · intro h
    obtain ⟨k, rfl, k1, k2⟩ := isC_true h
    exact (hA.num k).1.1 k2
  · intro h
    obtain ⟨e, he, rfl⟩ := List.mem_map.1 h
    have b := hA.bd e he
    generalize e.1 = t at *
    obtain ⟨k, rfl⟩ : ∃ k : Nat, t = k := ⟨t.toNat, by omega⟩
    unfold isC
    simp only [Bool.and_eq_true, decide_eq_true_eq, Int.toNat_natCast]
    exact ⟨⟨by omega, by omega⟩, (hA.num k).1.2 h⟩
def resN (d : FnD) (b k : Nat) : Int := rOf b k d.params.length (blPl 0 d.blocks)
def cntV (d : FnD) : Nat := (d.params ++ tysOf (blPl 0 d.blocks)).length
noncomputable def liB (d : FnD) (root v : Nat) : Bool := @decide (Live d.blocks (resN d) v root) (Classical.propDecidable _)
/-- The values that are live where a block begins, rising. -/
noncomputable def livL (d : FnD) (t : Int) : List Int := if 0 ≤ t ∧ t < d.blocks.length then ((List.range (cntV d)).filter (liB d t.toNat)).map (fun v : Nat => (v : Int)) else []
theorem liB_iff {d : FnD} {root v : Nat} : liB d root v = true ↔ Live d.blocks (resN d) v root := by
  unfold liB
  exact @decide_eq_true_iff _ (Classical.propDecidable _)
theorem livL_rise (d : FnD) (t : Int) : (livL d t).Pairwise (· < ·) := by
  unfold livL
  split
  · rw [List.pairwise_map]
    exact ((List.pairwise_lt_range (n := cntV d)).filter _).imp (fun h => by omega)
  · exact List.Pairwise.nil
theorem livL_mem {d : FnD} {root : Nat} (hr : root < d.blocks.length) {z : Int} : z ∈ livL d root ↔ ∃ v : Nat, z = v ∧ v < cntV d ∧ Live d.blocks (resN d) v root := by
  unfold livL
  rw [if_pos ⟨by omega, by omega⟩, Int.toNat_natCast, List.mem_map]
  constructor
  · rintro ⟨v, hv, rfl⟩
    obtain ⟨h1, h2⟩ := List.mem_filter.1 hv
    exact ⟨v, rfl, List.mem_range.1 h1, liB_iff.1 h2⟩
  · rintro ⟨v, rfl, h1, h2⟩
    exact ⟨v, List.mem_filter.2 ⟨List.mem_range.2 h1, liB_iff.2 h2⟩, rfl⟩
theorem tys_def (n : Int) : ∀ L : List ItD, (tysOf (L.map trip)).length = (defL n L).length
  | [] => rfl
  | y :: r => by
    have := tys_def (n + 1) r
    have := tys_def n r
    by_cases q : y.d.ty = 0
    · simp [tysOf, defL, q, trip]; assumption
    · simp [tysOf, defL, q, trip]; assumption
theorem defL_num (n : Int) : ∀ (L : List ItD) (k : Nat) (h : k < (defL n L).length), (defL n L)[k].1 = n + k
  | [], k, h => by simp [defL] at h
  | y :: r, k, h => by
    by_cases q : y.d.ty = 0
    · simp only [defL, q, if_true] at h ⊢
      exact defL_num n r k h
    · simp only [defL, q, if_false] at h ⊢
      cases k with
      | zero => simp
      | succ k =>
        simp only [List.getElem_cons_succ]
        rw [defL_num (n + 1) r k (by simpa using h)]
        omega
theorem hmL_len (np : Nat) (L : List ItD) : (hmL np L).length = np + (defL np L).length := by simp [hmL]
theorem hmL_lo {np : Nat} {L : List ItD} {v : Nat} (h : v < np) : (hmL np L).getD v (-1, -1) = (-1, -1) := by
  unfold hmL
  rw [List.getD_eq_getElem?_getD, List.getElem?_append_left (by simpa using h)]
  simp [h]
theorem hmL_hi {np : Nat} {L : List ItD} {i : Nat} (h : i < (defL np L).length) : (hmL np L).getD (np + i) (-1, -1) = (((defL np L)[i].2.1 : Int), ((defL np L)[i].2.2 : Int)) := by
  unfold hmL
  rw [List.getD_eq_getElem?_getD, List.getElem?_append_right (by simp)]
  simp [h]
section
variable {d : FnD} {Y : List (List ItD)}
theorem blPl_Y (hYd : Y.map (·.map (·.d)) = d.blocks) (hix : ∀ k (h : k < Y.length) j (hj : j < Y[k].length), Y[k][j].b = k ∧ Y[k][j].i = j) : blPl 0 d.blocks = Y.flatten.map trip := by
  rw [← hYd]
  exact blPl_trip Y 0 (fun k hk j hj => by simpa using hix k hk j hj)
theorem mem_Y (hYd : Y.map (·.map (·.d)) = d.blocks) (hix : ∀ k (h : k < Y.length) j (hj : j < Y[k].length), Y[k][j].b = k ∧ Y[k][j].i = j) {y : ItD} (hy : y ∈ Y.flatten) : y.b < d.blocks.length ∧ (d.blocks.getD y.b [])[y.i]? = some y.d := by
  obtain ⟨ys, h1, h2⟩ := List.mem_flatten.1 hy
  obtain ⟨k, hk, rfl⟩ := List.mem_iff_getElem.1 h1
  obtain ⟨j, hj, rfl⟩ := List.mem_iff_getElem.1 h2
  obtain ⟨e1, e2⟩ := hix k hk j hj
  rw [← hYd, e1, e2]
  refine ⟨by simpa using hk, ?_⟩
  rw [List.getD_eq_getElem?_getD, List.getElem?_map, List.getElem?_eq_getElem hk]
  simp [hj]
theorem at_Y (hYd : Y.map (·.map (·.d)) = d.blocks) (hix : ∀ k (h : k < Y.length) j (hj : j < Y[k].length), Y[k][j].b = k ∧ Y[k][j].i = j) {b i : Nat} {x : InD} (hb : b < d.blocks.length) (h : (d.blocks.getD b [])[i]? = some x) : ∃ y, y ∈ Y.flatten ∧ y.b = b ∧ y.i = i ∧ y.d = x := by
  rw [← hYd] at hb h
  have hk : b < Y.length := by simpa using hb
  rw [List.getD_eq_getElem?_getD, List.getElem?_map, List.getElem?_eq_getElem hk] at h
  simp only [Option.map_some, Option.getD_some, List.getElem?_map, Option.map_eq_some_iff] at h
  obtain ⟨y, hy, rfl⟩ := h
  obtain ⟨hj, rfl⟩ := List.getElem?_eq_some_iff.1 hy
  exact ⟨_, List.mem_flatten.2 ⟨_, List.getElem_mem hk, List.getElem_mem hj⟩, (hix b hk i hj).1, (hix b hk i hj).2, rfl⟩
theorem cntV_Y (hYd : Y.map (·.map (·.d)) = d.blocks) (hix : ∀ k (h : k < Y.length) j (hj : j < Y[k].length), Y[k][j].b = k ∧ Y[k][j].i = j) : cntV d = (hmL d.params.length Y.flatten).length := by
  unfold cntV
  rw [blPl_Y hYd hix, List.length_append, tys_def d.params.length, hmL_len]
theorem hms_of (hYd : Y.map (·.map (·.d)) = d.blocks) (hix : ∀ k (h : k < Y.length) j (hj : j < Y[k].length), Y[k][j].b = k ∧ Y[k][j].i = j) : Hms d.blocks (cntV d) (fun v => (hmL d.params.length Y.flatten).getD v (-1, -1)) (resN d) := by
  have hlen := cntV_Y hYd hix
  rw [hmL_len] at hlen
  have hap := apart_flat Y hix
  have hin : ∀ i (hi : i < (defL d.params.length Y.flatten).length), ∃ b k : Nat, b < d.blocks.length ∧ k < (d.blocks.getD b []).length ∧ (defL d.params.length Y.flatten)[i].2.1 = b ∧ (defL d.params.length Y.flatten)[i].2.2 = k := fun i hi => by
    obtain ⟨y, hy, -, e⟩ := defL_mem (List.getElem_mem hi)
    obtain ⟨m1, m2⟩ := mem_Y hYd hix hy
    refine ⟨y.b, y.i, m1, (List.getElem?_eq_some_iff.1 m2).1, by rw [e], by rw [e]⟩
  constructor
  · intro v hv b k hb hk
    skip
    unfold resN
    rw [blPl_Y hYd hix]
    constructor
    · intro h
      by_cases hx : ∃ i, ∃ hi : i < (defL d.params.length Y.flatten).length, ((defL d.params.length Y.flatten)[i].2.1 : Int) = b ∧ ((defL d.params.length Y.flatten)[i].2.2 : Int) = k
      · obtain ⟨i, hi, e1, e2⟩ := hx
        rw [rOf_hit b k _ _ hap i hi e1 e2, defL_num] at h
        obtain rfl : v = d.params.length + i := by omega
        rw [hmL_hi hi, e1, e2]
      · rw [rOf_miss b k _ _ (fun i hi e => hx ⟨i, hi, e⟩)] at h
        omega
    · intro h
      by_cases hl : v < d.params.length
      · rw [hmL_lo hl] at h
        simp at h
        skip
      · obtain ⟨i, rfl⟩ : ∃ i, v = d.params.length + i := ⟨v - d.params.length, by omega⟩
        have hi : i < (defL d.params.length Y.flatten).length := by omega
        rw [hmL_hi hi] at h
        simp only [Prod.mk.injEq] at h
        rw [rOf_hit b k _ _ hap i hi h.1 h.2, defL_num]
        omega
  · intro v hv
    skip
    by_cases hl : v < d.params.length
    · rw [hmL_lo hl]; exact .inl rfl
    · obtain ⟨i, rfl⟩ : ∃ i, v = d.params.length + i := ⟨v - d.params.length, by omega⟩
      have hi : i < (defL d.params.length Y.flatten).length := by omega
      obtain ⟨b, k, h1, h2, h3, h4⟩ := hin i hi
      rw [hmL_hi hi, h3, h4]
      exact .inr ⟨b, k, h1, h2, rfl⟩
theorem uA_mem {bls : List (List InD)} {b i : Nat} {x : InD} {z : Int × Int × Int} : ∀ n, z ∈ uA bls b i x n ↔ ∃ j, j < n ∧ ∃ o, x.args[j]? = some o ∧ o.k = 4 ∧ 0 ≤ (useAt bls b i x j).1 ∧ z = (o.i, useAt bls b i x j)
  | 0 => by simp [uA]
  | n + 1 => by
    rw [uA, List.mem_append, uA_mem n]
    constructor
    · rintro (⟨j, h1, h2⟩ | h)
      · exact ⟨j, by omega, h2⟩
      · cases hx : x.args[n]? with
        | none => simp [hx] at h
        | some o =>
          simp only [hx] at h
          split at h
          · rename_i hc
            simp at h
            exact ⟨n, by omega, o, hx, hc.1, hc.2, h⟩
          · simp at h
    · rintro ⟨j, h1, o, h2, h3, h4, h5⟩
      by_cases e : j = n
      · subst e
        right
        simp [h2, h3, h4, h5]
      · exact .inl ⟨j, by omega, o, h2, h3, h4, h5⟩
theorem used_iff (hYd : Y.map (·.map (·.d)) = d.blocks) (hix : ∀ k (h : k < Y.length) j (hj : j < Y[k].length), Y[k][j].b = k ∧ Y[k][j].i = j) {v : Nat} {u : Int × Int} : Used d.blocks v u ↔ ((v : Int), u) ∈ uL d.blocks Y.flatten := by
  unfold uL
  rw [List.mem_flatMap]
  constructor
  · rintro ⟨b, i, x, n, o, hb, hi, hn, ho, rfl, h0⟩
    obtain ⟨y, hy, rfl, rfl, rfl⟩ := at_Y hYd hix hb hi
    unfold opU at ho
    simp only [Bool.and_eq_true, beq_iff_eq] at ho
    exact ⟨y, hy, (uA_mem _).2 ⟨n, (List.getElem?_eq_some_iff.1 hn).1, o, hn, ho.1, h0, by rw [ho.2]⟩⟩
  · rintro ⟨y, hy, h⟩
    obtain ⟨j, h1, o, h2, h3, h4, h5⟩ := (uA_mem _).1 h
    obtain ⟨m1, m2⟩ := mem_Y hYd hix hy
    simp only [Prod.mk.injEq] at h5
    exact ⟨y.b, y.i, y.d, j, o, m1, m2, h2, by simp [opU, h3, h5.1], h5.2, by rw [h5.2]; exact h4⟩
/-- What the program asks of a use. -/
def liC (cnt : Nat) (cm : Int → Bool) (hs : Int → Int → Bool) (hm : List (Int × Int)) (x : Int × Int × Int) : Bool := (decide (0 ≤ x.1) && decide (x.1 < cnt)) && (cm x.2.1 && !ahB hs (hm.getD x.1.toNat (-1, -1)) x.2)
theorem coll_iff (hYd : Y.map (·.map (·.d)) = d.blocks) (hix : ∀ k (h : k < Y.length) j (hj : j < Y[k].length), Y[k][j].b = k ∧ Y[k][j].i = j) {root : Nat} (hr : root < d.blocks.length) {cm : Int → Bool} {hs : Int → Int → Bool}
    (hcm : ∀ t, cm t = true ↔ Way (EB (nextL d.blocks)) (fun _ => True) (root : Int) t) (hhs : ∀ a b, hs a b = true ↔ DomB (nextL d.blocks) root a b) {z : Int} :
    z ∈ livL d root ↔ ∃ x, x ∈ uL d.blocks Y.flatten ∧ liC (hmL d.params.length Y.flatten).length cm hs (hmL d.params.length Y.flatten) x = true ∧ x.1 = z := by
  have H := hms_of hYd hix
  have hc := cntV_Y hYd hix
  have key : ∀ (v : Nat) (u : Int × Int), Seen d.blocks ((hmL d.params.length Y.flatten).getD v (-1, -1)) root u ↔ (cm u.1 && !ahB hs ((hmL d.params.length Y.flatten).getD v (-1, -1)) u) = true := fun v u => by
    generalize (hmL d.params.length Y.flatten).getD v (-1, -1) = h
    rw [Bool.and_eq_true, hcm, Bool.not_eq_true']
    unfold ahB
    constructor
    · rintro ⟨h1, h2, h3⟩
      refine ⟨h1, ?_⟩
      split
      · rename_i e
        exact decide_eq_false (h2 e)
      · rename_i e
        rw [Bool.eq_false_iff]
        intro q
        exact ((hhs _ _).1 q).2 (h3 e)
    · rintro ⟨h1, h2⟩
      split at h2
      · rename_i e
        exact ⟨h1, fun _ => of_decide_eq_false h2, fun q => absurd e q⟩
      · rename_i e
        refine ⟨h1, fun q => absurd q e, fun _ => Classical.byContradiction fun q => ?_⟩
        rw [(hhs _ _).2 ⟨h1, q⟩] at h2
        cases h2
  rw [livL_mem hr]
  constructor
  · rintro ⟨v, rfl, hv, hl⟩
    obtain ⟨u, h1, h2⟩ := (live_iff H hv).1 hl
    refine ⟨((v : Int), u), (used_iff hYd hix).1 h1, ?_, rfl⟩
    unfold liC
    rw [hc] at hv
    rw [Bool.and_eq_true]
    exact ⟨by simp; omega, by rw [Int.toNat_natCast]; exact (key v u).1 h2⟩
  · rintro ⟨⟨vi, u⟩, h1, h2, rfl⟩
    unfold liC at h2
    simp only [Bool.and_eq_true, decide_eq_true_eq] at h2
    obtain ⟨⟨h3, h4⟩, h5⟩ := h2
    obtain ⟨v, rfl⟩ : ∃ v : Nat, vi = v := ⟨vi.toNat, by omega⟩
    rw [Int.toNat_natCast] at h5
    have hv : v < cntV d := by rw [hc]; omega
    exact ⟨v, rfl, hv, (live_iff H hv).2 ⟨u, (used_iff hYd hix).2 h1, (key v u).2 (by rw [Bool.and_eq_true]; exact h5)⟩⟩
end
end Go.Proofs.Ytbfpfjkjeekbdaa
