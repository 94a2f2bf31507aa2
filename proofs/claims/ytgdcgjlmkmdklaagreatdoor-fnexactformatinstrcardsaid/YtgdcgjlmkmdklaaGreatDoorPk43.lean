/- Texts of one claim. -/
import Derived.Test.YtgdcgjlmkmdklaaGreatDoorPk0
import Derived.Test.YtgdcgjlmkmdklaaGreatDoorPk42
namespace Go.Proofs.YtgdcgjlmkmdklaaGreatDoor
open Go.ChangeShapes Go.WideShapes Go.ChangeAt Go.RowKit
open Go.Lib
set_option linter.unusedVariables false
set_option linter.unusedSimpArgs false
theorem dTx_len (n : Int) (h0 : -9223372036854775808 ≤ n) (h1 : n ≤ 9223372036854775807) : (dTx n).size ≤ 100 := itoa_len n h0 h1
theorem fmtW_len (x v : Int) : (fmtW x v).length ≤ 100 := by
 unfold fmtW
 by_cases h : isW x v = true
 ·rw [if_pos h]
  by_cases hx : x = 1
  ·subst hx
   have bd := isW_bd h
   simp at bd
   unfold numW
   rw [if_pos rfl]
   exact itoa_len v (by omega) (by omega)
  ·have sb := sgnF_bd h
   unfold numW
   rw [if_neg hx]
   exact itoa_len _ (by omega) (by omega)
 ·rw [if_neg h]; simp
theorem txO_len (gs : List GlD) (fs : List FnD) (q : OpD) (hm : moN gs fs ≤ 1048576) (hb : OpB q) : (txO gs q).size ≤ 1048676 := by
 have g0 := glsN_nn gs
 unfold moN at hm
 have f0 := fnsN_nn fs
 unfold txO
 split
 ·have := fmtW_len q.t q.w
  simp [ByteArray.size]; omega
 split
 ·decide
 split
 ·decide
 split
 ·have := itoa_len q.i hb.i0 hb.i1
  simp [ByteArray.size]; omega
 split
 ·split
  ·rename_i h
   have hnn := (glsN_of gs).1 q.i.toNat h.2
   unfold glN at hnn
   rw [ByteArray.size_append]
   have : (⟨#[64]⟩ : ByteArray).size = 1 := rfl
   omega
  ·simp [ByteArray.size]
 ·simp [ByteArray.size]
def srT (a : ByteArray) (n : Int) : ByteArray := (⟨#[91]⟩ ++ a ++ ⟨#[44, 32]⟩ ++ dTx n) ++ ⟨#[93]⟩
def srL (ars : List ByteArray) (bl : List Int) (k : Nat) : List ByteArray := (List.range k).map fun i => srT (ars.getD i ⟨#[]⟩) (bl.getD i 0)
theorem srL_next (ars : List ByteArray) (bl : List Int) (k : Nat) : srL ars bl (k + 1) = srL ars bl k ++ [srT (ars.getD k ⟨#[]⟩) (bl.getD k 0)] := by simp [srL, List.range_succ]
theorem srL_len (ars : List ByteArray) (bl : List Int) (k : Nat) : (srL ars bl k).length = k := by simp [srL]
set_option maxRecDepth 100000 in
set_option maxHeartbeats 1000000 in
theorem sourcesI (x : InD) (va vb vw v : Value) (ars : List ByteArray) (w : World) {lo : Nat} (h : Ints lo .i64 w vb x.bl) (ha : StL w v ars) (hL : Lt w) (hb : ∀ n ∈ x.bl, -9223372036854775808 ≤ n ∧ n ≤ 9223372036854775807) (hn : ars.length ≤ 1048576) (hl : ars.length ≤ x.bl.length) (hz : ∀ a ∈ ars, a.size ≤ 2097152) :
  Calls Tryz.prog 121 #[inVal x va vb vw, v] w fun e w' => ∃ v', e = .returned v' ∧ OwnT w' w.heap.size v' (srL ars x.bl ars.length) ∧ Below w.heap.size w w' := by
 obtain ⟨i0, hi0, hz0, hz1, hz2⟩ := info_parts infoT
 obtain ⟨op, ty, fl, pr, ca, sz, args, bl, ws⟩ := x
 dsimp only at *
 obtain ⟨W0, hW⟩ : ∃ W0, W0 = w.alloc (Go.Obj.cells #[.int .i64 op, .int .i64 ty, .int .i64 fl, .int .i64 pr, .int .i64 ca, .int .i64 sz, va, vb, vw] 73) := ⟨_, rfl⟩
 have B0 : Below w.heap.size w W0 := by rw [hW]; exact bel_alloc _ _
 have hs0 : W0.heap.size = w.heap.size + 1 := by rw [hW]; simp
 have hc : W0.heap[w.heap.size]? = some (Go.Obj.cells #[.int .i64 op, .int .i64 ty, .int .i64 fl, .int .i64 pr, .int .i64 ca, .int .i64 sz, va, vb, vw] 73) := by rw [hW]; exact (MapKept.heap_alloc w _).1
 have c7 : At W0 w.heap.size 7 vb := at_cells hc rfl
 obtain ⟨b, o, ⟨⟨a, cap, rfl, s1, s2⟩, s3⟩, -, hq⟩ := (h.keep B0).ex
 obtain ⟨a2, cap2, rfl, t1, t2⟩ := (ha.keep B0).ex
 have hac : Kp (∀ i (hi : i < ars.length), ∃ b2 o2, a2 = some ⟨b2, o2, none⟩ ∧ At W0 b2 (o2 + i) (.string ars[i])) := ⟨fun i hi => by
  rcases t2 with rfl | ⟨b2, o2, rfl, hl2, q⟩
  ·cases hi
  ·exact ⟨b2, o2, rfl, q i _ (List.getElem?_eq_getElem hi)⟩⟩
 have hDW : Kp (∀ W, Below W0.heap.size W0 W → ∀ i (hi : i < bl.length), Calls Tryz.prog 70 #[.int .i64 bl[i]] W fun e w' => e = .returned (.string (dTx bl[i])) ∧ Below W.heap.size W w') := ⟨fun W hB i hi => decI _ W ((hL.below B0).below hB) (hb _ (List.getElem_mem hi)).1 (hb _ (List.getElem_mem hi)).2⟩
 have hDL : Kp (∀ i (hi : i < bl.length), (dTx bl[i]).size ≤ 100) := ⟨fun i hi => dTx_len _ (hb _ (List.getElem_mem hi)).1 (hb _ (List.getElem_mem hi)).2⟩
 have hZ : Kp (∀ i (hi : i < ars.length), ars[i].size ≤ 2097152) := ⟨fun i hi => hz _ (List.getElem_mem hi)⟩
 replace hq := Kp.mk hq
 replace s2 := Kp.mk s2
 replace hW := Kp.mk hW
 clear h hL hb hc ha t2 hz
 go_enter Tryz.func121, Tryz.ntmps121
 go_upto_region 1 with fail
 rw [← hW.out]
 clear hW
 go_wp2_with fail
 go_loopw [5, 10] (fun s r wr => ∃ i : Nat, r = .int .i64 i ∧ i ≤ ars.length ∧ OwnT wr W0.heap.size s (srL ars bl i) ∧ W0.heap.size ≤ wr.heap.size ∧ Below W0.heap.size W0 wr) (fun _ r _ => ars.length - (RowKit.intOf r).toNat)
 case atStart => exact ⟨0, rfl, Nat.zero_le _, ⟨by simpa [srL] using World.ownsRow_nil _ _ _ _⟩, Nat.le_refl _, Below.refl _ _⟩
 case round =>
  obtain ⟨i, rfl, hi, hrow, hsz, hB⟩ := hrel
  by_cases hlt : i < ars.length
  ·obtain ⟨ar, cr, rfl⟩ := hrow.shape
   have hlb : i < bl.length := by omega
   have hat := at_keep (hq.out i hlb) hB
   obtain ⟨b2, o2, rfl, hat2⟩ := hac.out i hlt
   replace hat2 := at_keep hat2 hB
   obtain rfl := s2.out (by omega)
   have D := Kp.mk (hDW.out wr hB i hlb)
   have DL := hDL.out i hlb
   have ZL := hZ.out i hlt
   have ht : Kp (srL ars bl (i + 1) = srL ars bl i ++ [srT ars[i] bl[i]]) := ⟨by rw [srL_next]; simp [List.getD_eq_getElem?_getD, hlt, hlb]⟩
   have hlen := srL_len ars bl i
   obtain ⟨nb, hnb⟩ : ∃ nb, bl[i] = nb := ⟨_, rfl⟩
   obtain ⟨sa, hsa⟩ : ∃ sa, ars[i] = sa := ⟨_, rfl⟩
   rw [hnb] at hat D DL ht
   rw [hsa] at hat2 ZL ht
   obtain ⟨td, htd⟩ : ∃ td, dTx nb = td := ⟨_, rfl⟩
   have htx : Kp (srT sa nb = (⟨#[91]⟩ ++ sa ++ ⟨#[44, 32]⟩ ++ td) ++ ⟨#[93]⟩) := ⟨by rw [← htd]; rfl⟩
   rw [htd] at D DL
   have hrowK := Kp.mk hrow
   have hBK := Kp.mk hB
   have c72 := at_keep c7 hB
   have hlbi : (i : Int) < (bl.length : Int) := by omega
   have hlti : (i : Int) < (ars.length : Int) := by omega
   clear hrow hB hDW hac hDL hZ hnb hsa htd
   go_wp2_with (first
    | (go_at_call 70; refine D.out.mono ?_; rintro e w1 ⟨rfl, hb1⟩; have hrow1 := (hrowK.out.keep hb1).r; rw [hlen] at hrow1 ⊢; have hsz1 := hb1.size)
    | (at_builtin; refine wpList_append_vals _ rfl _ _ 122 rfl W0.heap.size 9 i0 (.string ⟨#[]⟩) 1 16 Tryz.underlying122 hi0 hz0 hz1 hz2 rfl (by decide) _ _ _ rfl (hrow1.alloc _) (some ⟨w1.heap.size, 0, none⟩) w1.heap.size 0 1 1 [_] rfl (fun _ => rfl) rfl (one_new w1 _ _) one_str (by unfold maxLen; omega) (by omega) (by simp; omega) ?_; intro v3 w4 hown3 hgrow3)
    | go_in)
   have hB1 := bel_trans hBK.out hb1
   have hsz2 : W0.heap.size ≤ w1.heap.size := by omega
   have hB4 := own_bel (hB1.alloc hsz2 _) (hrow1.alloc _) hgrow3 (by simp; omega)
   have hsz3 : W0.heap.size ≤ w4.heap.size := by have := hgrow3.size; simp at this; omega
   have hrow4 : OwnT w4 W0.heap.size v3 (srL ars bl (i + 1)) := by rw [ht.out, htx.out]; exact ⟨by simpa [hlen] using hown3⟩
   exact ⟨⟨i + 1, by go_num, by omega, hrow4, hsz3, hB4⟩, by simp [RowKit.intOf]; omega⟩
  ·obtain rfl : i = ars.length := by omega
   exact tl59
end Go.Proofs.YtgdcgjlmkmdklaaGreatDoor

namespace Go.Proofs.YtgdcgjlmkmdklaaGreatDoor
open Go.ChangeShapes Go.WideShapes Go.ChangeAt Go.RowKit
open Go.Lib
set_option linter.unusedVariables false
set_option linter.unusedSimpArgs false
theorem jn_nil (sep : ByteArray) : jn [] sep = ⟨#[]⟩ := rfl
theorem jn_one (x sep : ByteArray) : jn [x] sep = x := by simp [jn, Lib.join_one]
theorem jn_snoc (xs : List ByteArray) (x sep : ByteArray) (h : xs ≠ []) : jn (xs ++ [x]) sep = jn xs sep ++ sep ++ x := by
 cases xs with
 | nil => exact absurd rfl h
 | cons y r =>
  have e : Lib.join ((y :: r ++ [x]).map (·.data.toList)) sep.data.toList = Lib.join ((y :: r).map (·.data.toList)) sep.data.toList ++ sep.data.toList ++ x.data.toList := by
   rw [List.cons_append, List.map_cons, List.map_cons, List.map_append, Lib.join_cons, Lib.join_cons]
   unfold Lib.joinTail
   rw [List.map_append, List.flatten_append]
   simp only [List.map_cons, List.map_nil, List.flatten_cons, List.flatten_nil, List.append_nil, List.append_assoc]
  exact tl108
theorem jn_le (xs : List ByteArray) (sep : ByteArray) (B : Nat) (h : ∀ x ∈ xs, x.size ≤ B) : ∀ k, k ≤ xs.length → (jn (xs.take k) sep).size ≤ (B + sep.size) * k
 | 0, _ => by rw [List.take_zero, jn_nil]; exact Nat.zero_le _
 | k + 1, hk => by
  have ih := jn_le xs sep B h k (by omega)
  have hx := h xs[k] (List.getElem_mem _)
  rw [List.take_succ_eq_append_getElem (by omega)]
  by_cases e : xs.take k = []
  ·rw [e, List.nil_append, jn_one]
   have : B ≤ (B + sep.size) * (k + 1) := by rw [Nat.mul_succ]; omega
   omega
  ·rw [jn_snoc _ _ _ e, ByteArray.size_append, ByteArray.size_append, Nat.mul_succ]
   omega
theorem jn_le_all (xs : List ByteArray) (sep : ByteArray) (B : Nat) (h : ∀ x ∈ xs, x.size ≤ B) : (jn xs sep).size ≤ (B + sep.size) * xs.length := by
 have := jn_le xs sep B h xs.length (Nat.le_refl _)
 rwa [List.take_length] at this
theorem jn_step (xs : List ByteArray) (sep : ByteArray) (k : Nat) (hk : k < xs.length) : jn (xs.take (k + 1)) sep = (if k = 0 then jn (xs.take k) sep else jn (xs.take k) sep ++ sep) ++ xs[k] := by
 rw [List.take_succ_eq_append_getElem hk]
 by_cases e : k = 0
 ·subst e
  rw [if_pos rfl]
  simp only [List.take_zero, List.nil_append, jn_one, jn_nil]
  exact (ByteArray.empty_append).symm
 ·rw [if_neg e, jn_snoc _ _ _ (by intro h; have q : (xs.take k).length = k := List.length_take_of_le (by omega); rw [h] at q; simp at q; omega)]
set_option maxRecDepth 100000 in
set_option maxHeartbeats 1000000 in
theorem l3ArgsS (gs : List GlD) (fs : List FnD) (vg vf : Value) (va : Value) (args : List OpD) (w : World) {lo l2 : Nat} (hM : MoAt l2 w gs fs vg vf) (h : Ops lo w va args) (hb : ∀ q ∈ args, OpB q) (hn : args.length ≤ 1048576) (hm : moN gs fs ≤ 1048576) :
  Calls Tryz.prog 114 #[.agg #[vg, vf], va] w fun e w' => e = .returned (.string (jn (args.map (txO gs)) ⟨#[44, 32]⟩)) ∧ Below w.heap.size w w' := by
 obtain ⟨W0, hW⟩ : ∃ W0, W0 = w.alloc (Go.Obj.cells #[vg, vf] 33) := ⟨_, rfl⟩
 have B0 : Below w.heap.size w W0 := by rw [hW]; exact bel_alloc _ _
 have hc : W0.heap[w.heap.size]? = some (Go.Obj.cells #[vg, vf] 33) := by rw [hW]; exact (MapKept.heap_alloc w _).1
 have p0 : At W0 w.heap.size 0 vg := at_cells hc rfl
 have p1 : At W0 w.heap.size 1 vf := at_cells hc rfl
 obtain ⟨b, o, ⟨⟨a, cap, rfl, s1, s2⟩, s3⟩, -, hq⟩ := (h.keep B0).ex
 have hDW : Kp (∀ W, Below W0.heap.size W0 W → ∀ i (hi : i < args.length), Calls Tryz.prog 144 #[.agg #[vg, vf], .agg #[.int .i64 args[i].k, .int .i64 args[i].t, .int .i64 args[i].i, .int .u64 args[i].w]] W fun e w' => e = .returned (.string (txO gs args[i])) ∧ Below W.heap.size W w') := ⟨fun W hB i hi => fmtOS gs fs vg vf args[i] W ((hM.keep B0).keep hB) (hb _ (List.getElem_mem hi)) hm⟩
 obtain ⟨T, hT⟩ : ∃ T, T = args.map (txO gs) := ⟨_, rfl⟩
 have hTl : T.length = args.length := by rw [hT]; simp
 have hT1 : Kp (∀ i (hi : i < args.length), T[i]'(by omega) = txO gs args[i]) := ⟨fun i hi => by simp [hT]⟩
 have hTz : Kp (∀ i (hi : i < args.length), (txO gs args[i]).size ≤ 1048676) := ⟨fun i hi => txO_len gs fs _ hm (hb _ (List.getElem_mem hi))⟩
 have hJ : Kp (∀ k, k ≤ T.length → (jn (T.take k) ⟨#[44, 32]⟩).size ≤ 1048678 * k) := ⟨fun k hk => jn_le T ⟨#[44, 32]⟩ 1048676 (fun x hx => by
  rw [hT] at hx
  obtain ⟨q, hq, rfl⟩ := List.mem_map.1 hx
  exact txO_len gs fs q hm (hb q hq)) k hk⟩
 have hJ1 : Kp (∀ k (hk : k < T.length), jn (T.take (k + 1)) ⟨#[44, 32]⟩ = (if k = 0 then jn (T.take k) ⟨#[44, 32]⟩ else jn (T.take k) ⟨#[44, 32]⟩ ++ ⟨#[44, 32]⟩) ++ T[k]) := ⟨fun k hk => jn_step T _ k hk⟩
 rw [← hT]
 replace hq := Kp.mk hq
 replace s2 := Kp.mk s2
 replace hW := Kp.mk hW
 clear h hb hc hT hM
 go_enter Tryz.func114, Tryz.ntmps114
 go_upto_region 1 with fail
 rw [← hW.out]
 clear hW
 go_wp2_with fail
 go_loopw [5, 6] (fun s r wr => ∃ i : Nat, r = .int .i64 i ∧ i ≤ args.length ∧ s = .string (jn (T.take i) ⟨#[44, 32]⟩) ∧ Below W0.heap.size W0 wr) (fun _ r _ => args.length - (RowKit.intOf r).toNat)
 case atStart => exact ⟨0, rfl, Nat.zero_le _, rfl, Below.refl _ _⟩
 case round =>
  obtain ⟨i, rfl, hi, rfl, hB⟩ := hrel
  by_cases hlt : i < args.length
  ·obtain rfl := s2.out (by omega)
   have hlti : (i : Int) < (args.length : Int) := by omega
   obtain ⟨d0, d1, d2, d3⟩ := (hq.out i hlt).keep hB
   have DW := hDW.out
   have hst := hJ1.out i (by omega)
   have hjz := hJ.out i (by omega)
   have hoz := hTz.out i hlt
   rw [hT1.out i hlt] at hst
   obtain ⟨q, hqe⟩ : ∃ q, args[i] = q := ⟨_, rfl⟩
   have C : Kp (∀ d os, Calls Tryz.prog 144 _ (Go.Sort.grow (redrawn wr d) os) _) := ⟨fun d os => Calls.regrown_of (by have := DW (Go.Sort.grow (redrawn wr d) os) (bel_trans hB (below_regrown wr d os)) i hlt; rw [hqe] at this; exact this)⟩
   rw [hqe] at d0 d1 d2 d3 hst hoz
   obtain ⟨tq, htq⟩ : ∃ tq, txO gs q = tq := ⟨_, rfl⟩
   rw [htq] at C hst hoz
   obtain ⟨J, hJe⟩ : ∃ J, jn (T.take i) ⟨#[44, 32]⟩ = J := ⟨_, rfl⟩
   rw [hJe] at hst hjz ⊢
   have k0 := cell_regrown d0
   have k1 := cell_regrown d1
   have k2 := cell_regrown d2
   have k3 := cell_regrown d3
   have m0 := cell_regrown (at_keep p0 hB)
   have m1 := cell_regrown (at_keep p1 hB)
   by_cases hz : i = 0
   ·rw [if_pos hz] at hst
    have hpos : ¬ ((0 : Int) < i) := by omega
    clear hz
    exact tl46
   ·rw [if_neg hz] at hst
    have hpos : (0 : Int) < i := by omega
    exact tl46
  ·obtain rfl : i = args.length := by omega
   rw [← hTl, List.take_length]
   go_wp2_with fail
   go_ret
   exact ⟨rfl, bel_trans B0 hB⟩
end Go.Proofs.YtgdcgjlmkmdklaaGreatDoor

namespace Go.Proofs.YtgdcgjlmkmdklaaGreatDoor
open Go.ChangeShapes Go.WideShapes Go.ChangeAt Go.RowKit
open Go.Lib
set_option linter.unusedVariables false
set_option linter.unusedSimpArgs false
theorem nmTy_len (c : Int) : (nmOf typesL c).size ≤ 100 := by
 by_cases h : ∃ p ∈ typesL, p.2 = c
 ·obtain ⟨p, hp, rfl⟩ := h
  have q : ∀ p ∈ typesL, (nmOf typesL p.2).size ≤ 100 := by decide +kernel
  exact q p hp
 ·have : nmOf typesL c = ByteArray.empty := nm_none (List.all_eq_true.2 fun p hp => by
   have : p.2 ≠ c := fun e => h ⟨p, hp, e⟩
   simp [this])
  rw [this]; decide
def phL (gs : List GlD) (x : InD) : List ByteArray := srL (x.args.map (txO gs)) x.bl x.args.length
theorem phL_len (gs : List GlD) (x : InD) : (phL gs x).length = x.args.length := srL_len _ _ _
theorem phL_at (gs : List GlD) (x : InD) (k : Nat) (hk : k < x.args.length) (hb : k < x.bl.length) : (phL gs x)[k]'(by rw [phL_len]; exact hk) = srT (txO gs x.args[k]) x.bl[k] := by
 simp [phL, srL, List.getD_eq_getElem?_getD, hk, hb]
set_option maxRecDepth 100000 in
set_option maxHeartbeats 1000000 in
theorem l3PhiS (gs : List GlD) (fs : List FnD) (vg vf : Value) (x : InD) (va vb vw : Value) (w : World) {lo l2 : Nat} (hM : MoAt l2 w gs fs vg vf) (h : Ops lo w va x.args) (hI : Ints lo .i64 w vb x.bl) (hb : ∀ q ∈ x.args, OpB q) (hbl : ∀ n ∈ x.bl, -9223372036854775808 ≤ n ∧ n ≤ 9223372036854775807) (hn : x.args.length ≤ 1048576) (hl : x.args.length ≤ x.bl.length) (hm : moN gs fs ≤ 1048576) :
  Calls Tryz.prog 116 #[.agg #[vg, vf], inVal x va vb vw] w fun e w' => e = .returned (.string ((⟨#[112, 104, 105, 32]⟩ ++ nmOf typesL x.ty ++ ⟨#[32]⟩) ++ jn (phL gs x) ⟨#[44, 32]⟩)) ∧ Below w.heap.size w w' := by
 have hph := phL_at gs x
 obtain ⟨T, hT⟩ : ∃ T, T = phL gs x := ⟨_, rfl⟩
 have hTl : T.length = x.args.length := by rw [hT]; exact phL_len gs x
 rw [← hT]
 obtain ⟨op, ty, fl, pr, ca, sz, args, bl, ws⟩ := x
 dsimp only at *
 obtain ⟨W0, hW⟩ : ∃ W0, W0 = (w.alloc (Go.Obj.cells #[vg, vf] 33)).alloc (Go.Obj.cells #[.int .i64 op, .int .i64 ty, .int .i64 fl, .int .i64 pr, .int .i64 ca, .int .i64 sz, va, vb, vw] 73) := ⟨_, rfl⟩
 obtain ⟨B0, hx, hy⟩ := two w _ _ _ _ hW
 have p0 : At W0 w.heap.size 0 vg := hx 0 _ rfl
 have p1 : At W0 w.heap.size 1 vf := hx 1 _ rfl
 have c1 : At W0 (w.heap.size + 1) 1 (.int .i64 ty) := hy 1 _ rfl
 have c6 : At W0 (w.heap.size + 1) 6 va := hy 6 _ rfl
 have c7 : At W0 (w.heap.size + 1) 7 vb := hy 7 _ rfl
 obtain ⟨b, o, ⟨⟨a, cap, rfl, s1, s2⟩, s3⟩, -, hq⟩ := (h.keep B0).ex
 obtain ⟨b2, o2, ⟨⟨a2, cap2, rfl, t1, t2⟩, t3⟩, -, hq2⟩ := (hI.keep B0).ex
 have hDW : Kp (∀ W, Below W0.heap.size W0 W → ∀ i (hi : i < args.length), Calls Tryz.prog 144 #[.agg #[vg, vf], .agg #[.int .i64 args[i].k, .int .i64 args[i].t, .int .i64 args[i].i, .int .u64 args[i].w]] W fun e w' => e = .returned (.string (txO gs args[i])) ∧ Below W.heap.size W w') := ⟨fun W hB i hi => fmtOS gs fs vg vf args[i] W ((hM.keep B0).keep hB) (hb _ (List.getElem_mem hi)) hm⟩
 have hEW : Kp (∀ W i (hi : i < bl.length), Calls Tryz.prog 37 #[.int .i64 bl[i]] W fun e w' => e = .returned (.string (dTx bl[i])) ∧ Below W.heap.size W w') := ⟨fun W i hi => l3I _ W (hbl _ (List.getElem_mem hi)).1 (hbl _ (List.getElem_mem hi)).2⟩
 have hTz : Kp (∀ i (hi : i < args.length), (txO gs args[i]).size ≤ 1048676) := ⟨fun i hi => txO_len gs fs _ hm (hb _ (List.getElem_mem hi))⟩
 have hDz : Kp (∀ i (hi : i < bl.length), (dTx bl[i]).size ≤ 100) := ⟨fun i hi => dTx_len _ (hbl _ (List.getElem_mem hi)).1 (hbl _ (List.getElem_mem hi)).2⟩
 have hph' : Kp (∀ i (hi : i < args.length), T[i]'(by omega) = srT (txO gs args[i]) (bl[i]'(by omega))) := ⟨fun i hi => by have := hph i hi (by omega); simp only [hT]; exact this⟩
 have hSz : Kp (∀ i (hi : i < T.length), T[i].size ≤ 1050000) := ⟨fun i hi => by
  rw [hph'.out i (by omega)]
  have z1 := hTz.out i (by omega)
  have z2 := hDz.out i (by omega)
  exact tl90⟩
 have hJ : Kp (∀ k, k ≤ T.length → (jn (T.take k) ⟨#[44, 32]⟩).size ≤ 1050002 * k) := ⟨fun k hk => jn_le T ⟨#[44, 32]⟩ 1050000 (fun x hx => by
  obtain ⟨i, hi, rfl⟩ := List.getElem_of_mem hx
  exact hSz.out i hi) k hk⟩
 have hJ1 : Kp (∀ k (hk : k < T.length), jn (T.take (k + 1)) ⟨#[44, 32]⟩ = (if k = 0 then jn (T.take k) ⟨#[44, 32]⟩ else jn (T.take k) ⟨#[44, 32]⟩ ++ ⟨#[44, 32]⟩) ++ T[k]) := ⟨fun k hk => jn_step T _ k hk⟩
 have CT := Kp.mk (TypeNameS ty W0)
 have tz := nmTy_len ty
 obtain ⟨tn, htn⟩ : ∃ tn, nmOf typesL ty = tn := ⟨_, rfl⟩
 rw [htn] at CT tz ⊢
 replace hq := Kp.mk hq
 replace hq2 := Kp.mk hq2
 replace s2 := Kp.mk s2
 replace t2 := Kp.mk t2
 replace hW := Kp.mk hW
 clear h hb hx hy hT hM hI hbl hph hSz htn
 go_enter Tryz.func116, Tryz.ntmps116
 go_upto_region 1 with fail
 rw [← hW.out]
 clear hW
 go_wp2_with fail
 refine CT.out.mono ?_
 rintro e w1 ⟨rfl, hb1⟩
 go_wp2_with fail
 obtain ⟨P, hP⟩ : ∃ P, (⟨#[112, 104, 105, 32]⟩ : ByteArray) ++ tn ++ ⟨#[32]⟩ = P := ⟨_, rfl⟩
 have hPz : P.size ≤ 105 := by
  rw [← hP, ByteArray.size_append, ByteArray.size_append]
  have e1 : (⟨#[112, 104, 105, 32]⟩ : ByteArray).size = 4 := rfl
  have e2 : (⟨#[32]⟩ : ByteArray).size = 1 := rfl
  omega
 rw [hP]
 go_loopw [5, 6] (fun s r wr => ∃ i : Nat, r = .int .i64 i ∧ i ≤ args.length ∧ s = .string (P ++ jn (T.take i) ⟨#[44, 32]⟩) ∧ Below W0.heap.size W0 wr) (fun _ r _ => args.length - (RowKit.intOf r).toNat)
 case atStart => exact ⟨0, rfl, Nat.zero_le _, by rw [List.take_zero, jn_nil]; exact congrArg _ (ByteArray.append_empty).symm, hb1⟩
 case round =>
  obtain ⟨i, rfl, hi, rfl, hB⟩ := hrel
  have c62 := at_keep c6 hB
  have c72 := at_keep c7 hB
  by_cases hlt : i < args.length
  ·obtain rfl := s2.out (by omega)
   obtain rfl := t2.out (by omega)
   have hlb : i < bl.length := by omega
   have hlti : (i : Int) < (args.length : Int) := by omega
   have hlbi : (i : Int) < (bl.length : Int) := by omega
   obtain ⟨d0, d1, d2, d3⟩ := (hq.out i hlt).keep hB
   have n0 := at_keep (hq2.out i hlb) hB
   have DW := hDW.out
   have EW := hEW.out
   have hst := hJ1.out i (by omega)
   have hjz := hJ.out i (by omega)
   have hoz := hTz.out i hlt
   have hdz := hDz.out i hlb
   rw [hph'.out i hlt] at hst
   obtain ⟨q, hqe⟩ : ∃ q, args[i] = q := ⟨_, rfl⟩
   obtain ⟨nb, hne⟩ : ∃ nb, bl[i] = nb := ⟨_, rfl⟩
   have C : Kp (∀ d os, Calls Tryz.prog 144 _ (Go.Sort.grow (redrawn wr d) os) _) := ⟨fun d os => Calls.regrown_of (by have := DW (Go.Sort.grow (redrawn wr d) os) (bel_trans hB (below_regrown wr d os)) i hlt; rw [hqe] at this; exact this)⟩
   have D : Kp (∀ d os, Calls Tryz.prog 37 _ (Go.Sort.grow (redrawn wr d) os) _) := ⟨fun d os => Calls.regrown_of (by have := EW (Go.Sort.grow (redrawn wr d) os) i hlb; rw [hne] at this; exact this)⟩
   rw [hqe] at d0 d1 d2 d3 hst hoz
   rw [hne] at n0 hst hdz
   obtain ⟨tq, htq⟩ : ∃ tq, txO gs q = tq := ⟨_, rfl⟩
   rw [htq] at C hst hoz
   obtain ⟨td, hde⟩ : ∃ td, dTx nb = td := ⟨_, rfl⟩
   rw [hde] at D hdz
   obtain ⟨J, hJe⟩ : ∃ J, jn (T.take i) ⟨#[44, 32]⟩ = J := ⟨_, rfl⟩
   rw [hJe] at hst hjz ⊢
   have k0 := cell_regrown d0
   have k1 := cell_regrown d1
   have k2 := cell_regrown d2
   have k3 := cell_regrown d3
   have k4 := cell_regrown n0
   have m0 := cell_regrown (at_keep p0 hB)
   have m1 := cell_regrown (at_keep p1 hB)
   have m6 := cell_regrown c62
   have m7 := cell_regrown c72
   clear hqe hne htq hJe DW EW hDW hEW CT
   by_cases hz : i = 0
   ·rw [if_pos hz] at hst
    have hpos : ¬ ((0 : Int) < i) := by omega
    clear hz
    exact tl34
   ·rw [if_neg hz] at hst
    have hpos : (0 : Int) < i := by omega
    exact tl34
  ·obtain rfl : i = args.length := by omega
   rw [← hTl, List.take_length]
   go_wp2_with fail
   go_ret
   exact ⟨by rw [hP]; rfl, bel_trans B0 hB⟩
end Go.Proofs.YtgdcgjlmkmdklaaGreatDoor

namespace Go.Proofs.YtgdcgjlmkmdklaaGreatDoor
open Go.ChangeShapes Go.WideShapes Go.ChangeAt Go.RowKit
open Go.Lib
set_option linter.unusedVariables false
set_option linter.unusedSimpArgs false
def csT (t v n : Int) : ByteArray := ((⟨(fmtW t v).toArray⟩ : ByteArray) ++ ⟨#[58, 32]⟩) ++ dTx n
def swL (t : Int) (bl ws : List Int) (k : Nat) : List ByteArray := dTx (bl.getD 0 0) :: (List.range k).map fun i => csT t (ws.getD i 0) (bl.getD (i + 1) 0)
theorem swL_len (t : Int) (bl ws : List Int) (k : Nat) : (swL t bl ws k).length = k + 1 := by simp [swL]
theorem swL_next (t : Int) (bl ws : List Int) (k : Nat) : swL t bl ws (k + 1) = swL t bl ws k ++ [csT t (ws.getD k 0) (bl.getD (k + 1) 0)] := by simp [swL, List.range_succ]
theorem csT_len (t v n : Int) (h0 : -9223372036854775808 ≤ n) (h1 : n ≤ 9223372036854775807) : (csT t v n).size ≤ 300 := by
 unfold csT
 have a := fmtW_len t v
 have b := dTx_len n h0 h1
 simp only [ByteArray.size_append]
 have e1 : (⟨#[58, 32]⟩ : ByteArray).size = 2 := rfl
 have e2 : (⟨(fmtW t v).toArray⟩ : ByteArray).size = (fmtW t v).length := by simp [ByteArray.size]
 omega
theorem swL_sz (t : Int) (bl ws : List Int) (k : Nat) (hb : ∀ n ∈ bl, -9223372036854775808 ≤ n ∧ n ≤ 9223372036854775807) : ∀ a ∈ swL t bl ws k, a.size ≤ 300 := by
 have q : ∀ i, -9223372036854775808 ≤ bl.getD i 0 ∧ bl.getD i 0 ≤ 9223372036854775807 := fun i => by
  rw [List.getD_eq_getElem?_getD]
  cases e : bl[i]? with
  | none => simp
  | some n => exact hb n (List.mem_of_getElem? e)
 intro a ha
 unfold swL at ha
 rcases List.mem_cons.1 ha with rfl | ha
 ·have := dTx_len _ (q 0).1 (q 0).2; omega
 ·obtain ⟨i, -, rfl⟩ := List.mem_map.1 ha
  exact csT_len _ _ _ (q _).1 (q _).2
set_option maxRecDepth 100000 in
set_option maxHeartbeats 2000000 in
theorem l3SwitchS (gs : List GlD) (fs : List FnD) (vg vf : Value) (x : InD) (va vb vw : Value) (w : World) {lo l2 : Nat} (hM : MoAt l2 w gs fs vg vf) (h : Ops lo w va x.args) (hI : Ints lo .i64 w vb x.bl) (hJ : Ints lo .u64 w vw x.ws) (h0 : 0 < x.args.length) (hb : ∀ q ∈ x.args, OpB q) (hbl : ∀ n ∈ x.bl, -9223372036854775808 ≤ n ∧ n ≤ 9223372036854775807) (hws : ∀ n ∈ x.ws, 0 ≤ n ∧ n ≤ 18446744073709551615) (hn : x.args.length ≤ 1048576) (hn2 : x.ws.length ≤ 1048576) (hl : x.ws.length + 1 ≤ x.bl.length) (hm : moN gs fs ≤ 1048576) :
  Calls Tryz.prog 117 #[.agg #[vg, vf], inVal x va vb vw] w fun e w' => e = .returned (.string ((⟨#[115, 119, 105, 116, 99, 104, 32]⟩ ++ nmOf typesL x.args[0].t ++ ⟨#[32]⟩ ++ txO gs x.args[0] ++ ⟨#[44, 32]⟩) ++ jn (swL x.args[0].t x.bl x.ws x.ws.length) ⟨#[44, 32]⟩)) ∧ Below w.heap.size w w' := by
 obtain ⟨op, ty, fl, pr, ca, sz, args, bl, ws⟩ := x
 dsimp only at *
 obtain ⟨W0, hW⟩ : ∃ W0, W0 = (w.alloc (Go.Obj.cells #[vg, vf] 33)).alloc (Go.Obj.cells #[.int .i64 op, .int .i64 ty, .int .i64 fl, .int .i64 pr, .int .i64 ca, .int .i64 sz, va, vb, vw] 73) := ⟨_, rfl⟩
 obtain ⟨B0, hx, hy⟩ := two w _ _ _ _ hW
 have p0 : At W0 w.heap.size 0 vg := hx 0 _ rfl
 have p1 : At W0 w.heap.size 1 vf := hx 1 _ rfl
 have c6 : At W0 (w.heap.size + 1) 6 va := hy 6 _ rfl
 have c7 : At W0 (w.heap.size + 1) 7 vb := hy 7 _ rfl
 have c8 : At W0 (w.heap.size + 1) 8 vw := hy 8 _ rfl
 obtain ⟨b, o, ⟨⟨a, cap, rfl, s1, s2⟩, s3⟩, -, hq⟩ := (h.keep B0).ex
 obtain ⟨b2, o2, ⟨⟨a2, cap2, rfl, t1, t2⟩, t3⟩, -, hq2⟩ := (hI.keep B0).ex
 obtain ⟨b3, o3, ⟨⟨a3, cap3, rfl, u1, u2⟩, u3⟩, -, hq3⟩ := (hJ.keep B0).ex
 obtain rfl := s2 h0
 obtain rfl := t2 (by omega)
 obtain ⟨q, hqe⟩ : ∃ q, args[0] = q := ⟨_, rfl⟩
 have d := hq 0 h0
 have hOB := hb _ (List.getElem_mem h0)
 rw [hqe] at d hOB ⊢
 obtain ⟨d0, d1, d2, d3⟩ := d
 rw [show o + 0 * 4 = o by omega] at d0 d1 d2 d3
 have n0 := hq2 0 (by omega)
 have hbz : bl.getD 0 0 = bl[0]'(by omega) := by simp [List.getD_eq_getElem?_getD, show 0 < bl.length by omega]
 obtain ⟨nb, hnb⟩ : ∃ nb, bl[0]'(by omega) = nb := ⟨_, rfl⟩
 have hbb := hbl _ (List.getElem_mem (show 0 < bl.length by omega))
 rw [hnb] at n0 hbz hbb
 rw [show o2 + 0 = o2 by omega] at n0
 have CT : Kp (∀ d os, Calls Tryz.prog 74 _ (Go.Sort.grow (redrawn W0 d) os) _) := ⟨fun d os => Calls.regrown_of (TypeNameS q.t (Go.Sort.grow (redrawn W0 d) os))⟩
 have CF : Kp (∀ d os, Calls Tryz.prog 144 _ (Go.Sort.grow (redrawn W0 d) os) _) := ⟨fun d os => Calls.regrown_of (fmtOS gs fs vg vf q (Go.Sort.grow (redrawn W0 d) os) ((hM.keep B0).keep (below_regrown W0 d os)) hOB hm)⟩
 have CI : Kp (∀ d os, Calls Tryz.prog 37 _ (Go.Sort.grow (redrawn W0 d) os) _) := ⟨fun d os => Calls.regrown_of (l3I nb (Go.Sort.grow (redrawn W0 d) os) hbb.1 hbb.2)⟩
 have tz := nmTy_len q.t
 have oz := txO_len gs fs q hm hOB
 have iz := dTx_len nb hbb.1 hbb.2
 obtain ⟨tn, htn⟩ : ∃ tn, nmOf typesL q.t = tn := ⟨_, rfl⟩
 rw [htn] at CT tz ⊢
 obtain ⟨tq, htq⟩ : ∃ tq, txO gs q = tq := ⟨_, rfl⟩
 rw [htq] at CF oz ⊢
 have hde : Kp (dTx nb = (⟨(itoa nb).toArray⟩ : ByteArray)) := ⟨rfl⟩
 obtain ⟨ti, hti⟩ : ∃ ti, (⟨(itoa nb).toArray⟩ : ByteArray) = ti := ⟨_, rfl⟩
 rw [hti] at CI hde
 rw [hde.out] at iz
 have k0 := cell_regrown d0
 have k1 := cell_regrown d1
 have k2 := cell_regrown d2
 have k3 := cell_regrown d3
 have k4 := cell_regrown n0
 have m0 := cell_regrown p0
 have m1 := cell_regrown p1
 have m6 := cell_regrown c6
 have m7 := cell_regrown c7
 have h00 : 0 < args.length := h0
 have hlba : (0 : Int) < (args.length : Int) := by omega
 have hlbb : (0 : Int) < (bl.length : Int) := by omega
 replace hW := Kp.mk hW
 go_enter Tryz.func117, Tryz.ntmps117
 go_upto_region 1 with fail
 rw [← hW.out]
 refine wp_region_quiet_below (by kernel_rfl) (by kernel_rfl) ?_
 repeat (go_big_quiet_step (fail))
 go_big_quiet_step (exact CT.out _ _)
 repeat (go_big_quiet_step (fail))
 go_big_quiet_step (exact CF.out _ _)
 repeat (go_big_quiet_step (fail))
 go_big_quiet_step (exact CI.out _ _)
 repeat (go_big_quiet_step (fail))
 refine wpQuiet_nil ?_
 intro _ hw'
 obtain ⟨⟨dq, osq⟩, hw''⟩ := hw'
 subst hw''
 have hB1 := below_regrown W0 dq osq
 generalize Go.Sort.grow (redrawn W0 dq) osq = w1 at *
 obtain ⟨P, hP⟩ : ∃ P, (⟨#[115, 119, 105, 116, 99, 104, 32]⟩ : ByteArray) ++ tn ++ ⟨#[32]⟩ ++ tq ++ ⟨#[44, 32]⟩ = P := ⟨_, rfl⟩
 have hPz : P.size ≤ 1050000 := by
  rw [← hP]
  simp only [ByteArray.size_append]
  have e1 : (⟨#[115, 119, 105, 116, 99, 104, 32]⟩ : ByteArray).size = 7 := rfl
  have e2 : (⟨#[32]⟩ : ByteArray).size = 1 := rfl
  have e3 : (⟨#[44, 32]⟩ : ByteArray).size = 2 := rfl
  omega
 rw [hP]
 have hS0 : jn (swL q.t bl ws 0) ⟨#[44, 32]⟩ = ti := by
  have e : swL q.t bl ws 0 = [dTx (bl.getD 0 0)] := rfl
  rw [e, jn_one, hbz, hde.out]
 have hSn : Kp (∀ i, jn (swL q.t bl ws (i + 1)) ⟨#[44, 32]⟩ = jn (swL q.t bl ws i) ⟨#[44, 32]⟩ ++ ⟨#[44, 32]⟩ ++ csT q.t (ws.getD i 0) (bl.getD (i + 1) 0)) := ⟨fun i => by rw [swL_next]; exact jn_snoc _ _ _ (by simp [swL])⟩
 have hSz : Kp (∀ i, (jn (swL q.t bl ws i) ⟨#[44, 32]⟩).size ≤ 302 * (i + 1)) := ⟨fun i => by
  have := jn_le_all (swL q.t bl ws i) ⟨#[44, 32]⟩ 300 (swL_sz q.t bl ws i hbl)
  rw [swL_len] at this
  exact this⟩
 have hGW : Kp (∀ i (hi : i < ws.length), 0 ≤ ws[i] ∧ ws[i] ≤ 18446744073709551615) := ⟨fun i hi => hws _ (List.getElem_mem hi)⟩
 have hGB : Kp (∀ i (hi : i < bl.length), -9223372036854775808 ≤ bl[i] ∧ bl[i] ≤ 9223372036854775807) := ⟨fun i hi => hbl _ (List.getElem_mem hi)⟩
 obtain ⟨qt, hqt⟩ : ∃ qt, q.t = qt := ⟨_, rfl⟩
 rw [hqt] at hS0 hSn hSz d1 ⊢
 replace hq2 := Kp.mk hq2
 replace hq3 := Kp.mk hq3
 replace u2 := Kp.mk u2
 clear hqe hx hy h hI hJ hM hb hbl hws CT CF CI k0 k1 k2 k3 k4 m0 m1 m6 m7 d0 d2 d3 n0 hW hbz hnb hbb htn htq hde hti hq hOB p0 p1 s1 s2 h0
 replace hqt := Kp.mk hqt
 go_wp2_with fail
 go_loopw [5, 6] (fun s r wr => ∃ i : Nat, r = .int .i64 i ∧ i ≤ ws.length ∧ s = .string (P ++ jn (swL qt bl ws i) ⟨#[44, 32]⟩) ∧ Below W0.heap.size W0 wr) (fun _ r _ => ws.length - (RowKit.intOf r).toNat)
 case atStart => exact ⟨0, rfl, Nat.zero_le _, by rw [hS0], hB1⟩
 case round =>
  obtain ⟨i, rfl, hi, rfl, hB⟩ := hrel
  have c62 := at_keep c6 hB
  have c72 := at_keep c7 hB
  have c82 := at_keep c8 hB
  by_cases hlt : i < ws.length
  ·obtain rfl := u2.out (by omega)
   have hlb : i + 1 < bl.length := by omega
   have hlti : (i : Int) < (ws.length : Int) := by omega
   have hlbi : (i : Int) + 1 < (bl.length : Int) := by omega
   have n1 := at_keep (hq2.out (i + 1) hlb) hB
   have n2 := at_keep (hq3.out i hlt) hB
   have d12 := at_keep d1 hB
   have hst := hSn.out i
   have hjz := hSz.out i
   have hgw := hGW.out i hlt
   have hgb := hGB.out (i + 1) hlb
   rw [show ws.getD i 0 = ws[i] by simp [List.getD_eq_getElem?_getD, hlt], show bl.getD (i + 1) 0 = bl[i + 1] by simp [List.getD_eq_getElem?_getD, hlb]] at hst
   obtain ⟨wd, hwd⟩ : ∃ wd, ws[i] = wd := ⟨_, rfl⟩
   obtain ⟨bd, hbd⟩ : ∃ bd, bl[i + 1] = bd := ⟨_, rfl⟩
   rw [hwd] at hst hgw n2
   rw [hbd] at hst hgb n1
   have C : Kp (∀ d os, Calls Tryz.prog 145 _ (Go.Sort.grow (redrawn wr d) os) _) := ⟨fun d os => Calls.regrown_of (fmtS_any qt wd (Go.Sort.grow (redrawn wr d) os) hgw.1 hgw.2)⟩
   have D : Kp (∀ d os, Calls Tryz.prog 37 _ (Go.Sort.grow (redrawn wr d) os) _) := ⟨fun d os => Calls.regrown_of (l3I bd (Go.Sort.grow (redrawn wr d) os) hgb.1 hgb.2)⟩
   have fz := fmtW_len qt wd
   have dz := dTx_len bd hgb.1 hgb.2
   have hcs : csT qt wd bd = ((⟨(fmtW qt wd).toArray⟩ : ByteArray) ++ ⟨#[58, 32]⟩) ++ ⟨(itoa bd).toArray⟩ := rfl
   have fz2 : (⟨(fmtW qt wd).toArray⟩ : ByteArray).size ≤ 100 := by simpa [ByteArray.size] using fz
   have dz2 : (⟨(itoa bd).toArray⟩ : ByteArray).size ≤ 100 := dz
   obtain ⟨tf, htf⟩ : ∃ tf, (⟨(fmtW qt wd).toArray⟩ : ByteArray) = tf := ⟨_, rfl⟩
   obtain ⟨td, htd⟩ : ∃ td, (⟨(itoa bd).toArray⟩ : ByteArray) = td := ⟨_, rfl⟩
   rw [htf] at C hcs fz2
   rw [htd] at D hcs dz2
   obtain ⟨J, hJe⟩ : ∃ J, jn (swL qt bl ws i) ⟨#[44, 32]⟩ = J := ⟨_, rfl⟩
   rw [hJe] at hst hjz ⊢
   have k1 := cell_regrown d12
   have k4 := cell_regrown n1
   have k5 := cell_regrown n2
   have m6 := cell_regrown c62
   have m7 := cell_regrown c72
   have m8 := cell_regrown c82
   clear hwd hbd htf htd hJe fz dz
   go_upto_region 5 with fail
   refine wp_region_quiet_below (by kernel_rfl) (by kernel_rfl) ?_
   repeat (go_big_quiet_step (fail))
   go_big_quiet_step (exact C.out _ _)
   repeat (go_big_quiet_step (fail))
   go_big_quiet_step (exact D.out _ _)
   repeat (go_big_quiet_step (fail))
   refine wpQuiet_nil ?_
   intro _ hw'
   obtain ⟨⟨dq, osq⟩, hw''⟩ := hw'
   subst hw''
   have hB2 := bel_trans hB (below_regrown wr dq osq)
   generalize Go.Sort.grow (redrawn wr dq) osq = V at *
   go_wp2_with fail
   exact ⟨⟨i + 1, by go_num, by omega, by rw [hst, hcs]; simp only [ByteArray.append_assoc], hB2⟩, by simp [RowKit.intOf]; omega⟩
  ·obtain rfl : i = ws.length := by omega
   go_wp2_with fail
   go_ret
   exact ⟨by rw [hP, hqt.out]; rfl, bel_trans B0 hB⟩
end Go.Proofs.YtgdcgjlmkmdklaaGreatDoor
