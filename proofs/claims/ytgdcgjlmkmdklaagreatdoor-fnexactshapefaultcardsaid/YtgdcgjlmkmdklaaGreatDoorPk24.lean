/- Texts of one claim. -/
import Derived.Test.YtgdcgjlmkmdklaaGreatDoorPk0
import Derived.Test.YtgdcgjlmkmdklaaGreatDoorPk23
import Derived.Test.YtgdcgjlmkmdklaaGreatDoorPk14
namespace Go.Proofs.YtgdcgjlmkmdklaaGreatDoor
open Go.ChangeShapes Go.WideShapes Go.ChangeAt Go.RowKit
set_option linter.unusedVariables false
set_option linter.unusedSimpArgs false
def idxW (xs : List Int) (n : Nat) (x : Int) : Int := match (List.range n).find? (fun j => decide (xs.getD j 0 = x)) with | some j => j | none => -1
theorem idxW_hit {xs : List Int} {n i : Nat} {x : Int} (hi : i < n) (h : ∀ j, j < i → xs.getD j 0 ≠ x) (e : xs.getD i 0 = x) : idxW xs n x = i := by
 unfold idxW
 have : (List.range n).find? (fun j => decide (xs.getD j 0 = x)) = some i := by
  rw [List.find?_range_eq_some]
  exact ⟨by simpa using e, by simpa using hi, fun j hj => by simpa using h j hj⟩
 rw [this]
theorem idxW_miss {xs : List Int} {n : Nat} {x : Int} (h : ∀ j, j < n → xs.getD j 0 ≠ x) : idxW xs n x = -1 := by
 unfold idxW
 have : (List.range n).find? (fun j => decide (xs.getD j 0 = x)) = none := by
  rw [List.find?_range_eq_none]
  exact fun j hj => by simpa using h j hj
 rw [this]
set_option maxRecDepth 100000 in
set_option maxHeartbeats 4000000 in
theorem idxI (a : Option Addr) (n c : Nat) (xs : List Int) (b o : Nat) (x : Int) (w : World) (hn : n ≤ 140737488355328) (ha : 0 < n → a = some ⟨b, o, none⟩) (hc : ∀ j, j < n → At w b (o + j) (.int .u64 (xs.getD j 0))) :
  Calls Tryz.prog 233 #[.slice a n c, .int .u64 x] w fun e w' => e = .returned (.int .i64 (idxW xs n x)) ∧ w' = w := by
 have g1 : (n : Int) ≤ 140737488355328 := by omega
 replace ha := Kp.mk ha
 replace hc := Kp.mk hc
 obtain ⟨R, hR⟩ : ∃ R, R = idxW xs n x := ⟨_, rfl⟩
 have H1 : Kp (∀ i, i < n → (∀ j, j < i → xs.getD j 0 ≠ x) → xs.getD i 0 = x → R = i) := ⟨fun i hi h e => by rw [hR]; exact idxW_hit hi h e⟩
 have H2 : Kp ((∀ j, j < n → xs.getD j 0 ≠ x) → R = -1) := ⟨fun h => by rw [hR]; exact idxW_miss h⟩
 rw [← hR]
 clear hR
 go_enter Tryz.func233, Tryz.ntmps233
 go_wp2_with fail
 go_loopw [8] (fun s wr => wr = w ∧ ∃ i : Nat, i ≤ n ∧ s = .int .i64 i ∧ Kp (∀ j, j < i → xs.getD j 0 ≠ x)) (fun s _ => n - (intOf s).toNat)
 case atStart => exact ⟨rfl, 0, Nat.zero_le _, rfl, ⟨fun j hj => absurd hj (by omega)⟩⟩
 case round =>
  obtain ⟨rfl, i, hi, rfl, hd⟩ := hrel
  by_cases hlt : i < n
  ·obtain rfl := ha.out (by omega)
   have hlt' : (i : Int) < (n : Int) := by omega
   have ci := hc.out i hlt
   by_cases q : xs.getD i 0 = x
   ·have hR := H1.out i hlt hd.out q
    rw [q] at ci
    subst hR
    go_wp2_with fail
    go_ret
    exact ⟨rfl, rfl⟩
   ·have hd' : Kp (∀ j, j < i + 1 → xs.getD j 0 ≠ x) := ⟨fun j hj => by
     exact tl144⟩
    have q2 : ¬ x = xs.getD i 0 := fun h => q h.symm
    have q' := nb q2
    clear q q2 hd
    generalize xs.getD i 0 = u at *
    exact tl148
  ·have hlt' : ¬ (i : Int) < (n : Int) := by omega
   obtain rfl : i = n := by omega
   have hR := H2.out hd.out
   subst hR
   go_wp2_with fail
   go_ret
   exact ⟨rfl, rfl⟩
set_option maxRecDepth 100000 in
set_option maxHeartbeats 4000000 in
theorem conI (a : Option Addr) (n c : Nat) (xs : List Int) (b o : Nat) (x : Int) (w : World) (hn : n ≤ 140737488355328) (ha : 0 < n → a = some ⟨b, o, none⟩) (hc : ∀ j, j < n → At w b (o + j) (.int .u64 (xs.getD j 0))) :
  Calls Tryz.prog 232 #[.slice a n c, .int .u64 x] w fun e w' => e = .returned (.bool (decide (0 ≤ idxW xs n x))) ∧ w' = w := by
 have IX := Kp.mk (idxI a n c xs b o x w hn ha hc)
 generalize idxW xs n x = R at *
 clear ha hc
 go_enter Tryz.func232, Tryz.ntmps232
 go_wp2_with fail
 refine IX.out.mono ?_
 rintro e w1 ⟨rfl, rfl⟩
 go_wp2_with fail
 all_goals
  go_ret
  exact ⟨ret_bool (by first | rfl | (rw [Bool.eq_iff_iff]; simp; done) | simp_all), rfl⟩
theorem idxW_ge {xs : List Int} {n : Nat} {x : Int} : 0 ≤ idxW xs n x ↔ ∃ j, j < n ∧ xs.getD j 0 = x := by
 constructor
 ·intro h
  refine Decidable.byContradiction fun q => ?_
  rw [idxW_miss (fun j hj e => q ⟨j, hj, e⟩)] at h
  omega
 ·rintro ⟨j, hj, e⟩
  unfold idxW
  split
  ·omega
  ·rename_i h
   rw [List.find?_range_eq_none] at h
   exact absurd e (by simpa using h j hj)
def diB (ws : List Int) (m : Nat) : Bool := decide (ws.length ≤ 12) && (decide (m = ws.length + 1) && difB ws)
theorem difB_getD2 (xs : List Int) : difB xs = true ↔ ∀ i j, i < xs.length → j < i → xs.getD i 0 ≠ xs.getD j 0 := by
 exact tl29
set_option maxRecDepth 100000 in
set_option maxHeartbeats 4000000 in
theorem diOwn (op ty : Int) (a b : Option Addr) (n c m d : Nat) (vs : Value) (ws : List Int) (a1 a2 a3 a4 a5 : Option Addr) (n1 n2 n3 n4 n5 c1 c2 c3 c4 c5 : Nat) (name : ByteArray) (link res bk : Int) (w : World) {lo : Nat} (h : Ints lo .u64 w vs ws) (hm : m ≤ 140737488355328) :
  Calls Tryz.prog 230 #[.agg #[.int .i64 op, .int .i64 ty, .slice a n c, .slice b m d, vs], scV (.slice a1 n1 c1) (.slice a2 n2 c2) name link (.slice a3 n3 c3) res (.slice a4 n4 c4) (.slice a5 n5 c5) bk] w fun e w' => e = .returned (.bool (diB ws m)) ∧ Below w.heap.size w w' := by
 obtain ⟨bw, ow, ⟨⟨aw, cw, rfl, s1, s2⟩, s3⟩, -, hc⟩ := h.ex
 have g1 : (ws.length : Int) ≤ 140737488355328 := by omega
 have g2 : (m : Int) ≤ 140737488355328 := by omega
 obtain ⟨W0, hW⟩ : ∃ W0, W0 = (w.alloc (Go.Obj.cells #[.int .i64 op, .int .i64 ty, .slice a n c, .slice b m d, .slice aw ws.length cw] 189)).alloc (scC (.slice a1 n1 c1) (.slice a2 n2 c2) name link (.slice a3 n3 c3) res (.slice a4 n4 c4) (.slice a5 n5 c5) bk) := ⟨_, rfl⟩
 have BB : Below w.heap.size w W0 := by rw [hW]; exact bel_trans (bel_alloc w _) (bel_alloc _ _)
 have x1 : W0.heap[w.heap.size]? = some (Go.Obj.cells #[.int .i64 op, .int .i64 ty, .slice a n c, .slice b m d, .slice aw ws.length cw] 189) := by rw [hW]; exact kept_at (new_at w _) (bel_alloc _ _)
 have j3 : At W0 w.heap.size 3 _ := cells_at x1 rfl
 have j4 : At W0 w.heap.size 4 _ := cells_at x1 rfl
 have hWs : Kp (∀ i (h : i < ws.length), At W0 bw (ow + i) (.int .u64 (ws.getD i 0))) := ⟨fun i h => by
  have := at_keep (hc i h) BB
  rwa [show ws.getD i 0 = ws[i] by simp [List.getD_eq_getElem?_getD, h]]⟩
 have dif := Kp.mk (difB_getD2 ws)
 clear hc h x1
 replace hW := Kp.mk hW
 replace s2 := Kp.mk s2
 by_cases h12 : ws.length ≤ 12
 ·by_cases hm2 : m = ws.length + 1
  ·subst hm2
   have G : Kp (diB ws (ws.length + 1) = difB ws) := ⟨by simp [diB, h12]⟩
   rw [G.out]
   have h12' : ¬ (12 : Int) < (ws.length : Int) := by omega
   have CO : Kp (∀ i (hi : i < ws.length), Calls Tryz.prog 232 #[.slice aw i cw, .int .u64 (ws.getD i 0)] W0 fun e w' => e = .returned (.bool (decide (0 ≤ idxW ws i (ws.getD i 0)))) ∧ w' = W0) := ⟨fun i hi => conI aw i cw ws bw ow _ W0 (by omega) (fun h => s2.out (by omega)) (fun j hj => hWs.out j (by omega))⟩
   go_enter Tryz.func230, Tryz.ntmps230
   go_upto_region 1 with fail
   rw [← hW.out]
   go_wp2_with fail
   go_loopw [25] (fun s wr => wr = W0 ∧ ∃ i : Nat, i ≤ ws.length ∧ s = .int .i64 i ∧ Kp (∀ p q, p < i → q < p → ws.getD p 0 ≠ ws.getD q 0)) (fun s _ => ws.length - (intOf s).toNat)
   case atStart => exact ⟨rfl, 0, Nat.zero_le _, rfl, ⟨fun j q hj => absurd hj (by omega)⟩⟩
   case round =>
    obtain ⟨rfl, i, hi, rfl, hd⟩ := hrel
    by_cases hlt : i < ws.length
    ·obtain rfl := s2.out (by omega)
     have hlt' : (i : Int) < (ws.length : Int) := by omega
     have hcap : (i : Int) ≤ (cw : Int) := by omega
     have ci := hWs.out i hlt
     have Ci := Kp.mk (CO.out i hlt)
     have hge := Kp.mk (@idxW_ge ws i (ws.getD i 0))
     generalize hu : ws.getD i 0 = u at *
     generalize idxW ws i u = R at *
     replace hu := Kp.mk hu
     by_cases q : 0 ≤ R
     ·have hf : Kp (difB ws = false) := ⟨by
       obtain ⟨j, hj, e⟩ := hge.out.1 q
       rw [Bool.eq_false_iff]
       intro t
       exact dif.out.1 t i j hlt hj (hu.out.trans e.symm)⟩
      have Q : Kp (decide (0 ≤ R) = true) := ⟨decide_eq_true q⟩
      rw [Q.out] at Ci
      clear q Q hge
      go_wp2_with fail
      refine Ci.out.mono ?_
      rintro e w1 ⟨rfl, rfl⟩
      go_wp2_with fail
      go_ret
      exact ⟨ret_bool (by rw [hf.out]), BB⟩
     ·have hd' : Kp (∀ p q, p < i + 1 → q < p → ws.getD p 0 ≠ ws.getD q 0) := ⟨fun p r hp hr => by
       by_cases e : p = i
       ·subst e
        intro e2
        exact q (hge.out.2 ⟨r, hr, e2.symm.trans hu.out⟩)
       ·exact hd.out p r (by omega) hr⟩
      have Q : Kp (decide (0 ≤ R) = false) := ⟨decide_eq_false q⟩
      rw [Q.out] at Ci
      clear q Q hge hd
      go_wp2_with fail
      refine Ci.out.mono ?_
      rintro e w1 ⟨rfl, rfl⟩
      exact tl148
    ·have hlt' : ¬ (i : Int) < (ws.length : Int) := by omega
     obtain rfl : i = ws.length := by omega
     have ht : Kp (difB ws = true) := ⟨dif.out.2 (fun i j hi hj => hd.out i j hi hj)⟩
     go_wp2_with fail
     go_ret
     exact ⟨ret_bool (by rw [ht.out]), BB⟩
  ·have G : Kp (diB ws m = false) := ⟨by simp [diB, hm2]⟩
   rw [G.out]
   have h12' : ¬ (12 : Int) < (ws.length : Int) := by omega
   have hm3 := nb (x := (m : Int)) (k := (ws.length : Int) + 1) (by omega)
   have hm4 := nbT (x := (m : Int)) (k := (ws.length : Int) + 1) (by omega)
   clear dif hm2 h12
   exact tl112
 ·have G : Kp (diB ws m = false) := ⟨by simp [diB, h12]⟩
  rw [G.out]
  have h12' : (12 : Int) < (ws.length : Int) := by omega
  clear dif h12
  exact tl112
set_option maxRecDepth 100000 in
set_option maxHeartbeats 4000000 in
theorem diCas (op ty : Int) (va : Value) (args : List OpD) (b : Option Addr) (m d : Nat) (vs : Value) (ws : List Int) (w : World) {lo : Nat} (ha : Ops lo w va args) (h : Ints lo .u64 w vs ws) (hb : ∀ z ∈ ws, 0 ≤ z ∧ z ≤ 18446744073709551615) (hw : Wid w) :
  Calls Tryz.prog 229 #[.agg #[.int .i64 op, .int .i64 ty, va, .slice b m d, vs]] w fun e w' => e = .returned (.bool (ws.all fun v => isW (fty args) v)) ∧ Below w.heap.size w w' := by
 obtain ⟨bw, ow, ⟨⟨aw, cw, rfl, s1, s2⟩, s3⟩, -, hc⟩ := h.ex
 obtain ⟨aa, ca, rfl⟩ : ∃ a c, va = .slice a args.length c := by
  obtain ⟨_, _, ⟨⟨a, c, e, _⟩, _⟩, _⟩ := ha.ex
  exact ⟨a, c, e⟩
 have g1 : (ws.length : Int) ≤ 140737488355328 := by omega
 obtain ⟨W0, hW⟩ : ∃ W0, W0 = w.alloc (Go.Obj.cells #[.int .i64 op, .int .i64 ty, .slice aa args.length ca, .slice b m d, .slice aw ws.length cw] 189) := ⟨_, rfl⟩
 have BB : Below w.heap.size w W0 := by rw [hW]; exact bel_alloc w _
 have x1 := new_at w (Go.Obj.cells #[.int .i64 op, .int .i64 ty, .slice aa args.length ca, .slice b m d, .slice aw ws.length cw] 189)
 rw [← hW] at x1
 have j4 : At W0 w.heap.size 4 _ := cells_at x1 rfl
 have hX : Kp (∀ W, Below W0.heap.size W0 W → W.heap[w.heap.size]? = some (Go.Obj.cells #[.int .i64 op, .int .i64 ty, .slice aa args.length ca, .slice b m d, .slice aw ws.length cw] 189)) := ⟨fun W hB => kept_at x1 hB⟩
 have hWs : Kp (∀ W, Below W0.heap.size W0 W → ∀ i (h : i < ws.length), At W bw (ow + i) (.int .u64 (ws.getD i 0))) := ⟨fun W hB i h => by
  have := at_keep (hc i h) (bel_trans BB hB)
  rwa [show ws.getD i 0 = ws[i] by simp [List.getD_eq_getElem?_getD, h]]⟩
 have FT : Kp (∀ W, Below W0.heap.size W0 W → Calls Tryz.prog 212 #[hdV op ty (.slice aa args.length ca)] W fun e w' => e = .returned (.int .i64 (fty args)) ∧ Below W.heap.size W w') := ⟨fun W hB => hdFty op ty _ args W (ha.keep (bel_trans BB hB)) (hw.below (bel_trans BB hB))⟩
 have IW : Kp (∀ W, Below W0.heap.size W0 W → ∀ i (h : i < ws.length), Calls Tryz.prog 155 #[.int .i64 (fty args), .int .u64 (ws.getD i 0)] W fun e w' => e = .returned (.bool (isW (fty args) (ws.getD i 0))) ∧ w' = W) := ⟨fun W hB i h => by
  have hz : ws.getD i 0 ∈ ws := by
   rw [show ws.getD i 0 = ws[i] by simp [List.getD_eq_getElem?_getD, h]]
   exact List.getElem_mem _
  exact isWord_any _ _ W (hw.below (bel_trans BB hB)) (hb _ hz).1 (hb _ hz).2⟩
 have all := Kp.mk (show (ws.all fun v => isW (fty args) v) = true ↔ ∀ i, i < ws.length → isW (fty args) (ws.getD i 0) = true by
  rw [List.all_eq_true]
  constructor
  ·intro h i hi
   rw [show ws.getD i 0 = ws[i] by simp [List.getD_eq_getElem?_getD, hi]]
   exact h _ (List.getElem_mem _)
  ·intro h z hz
   obtain ⟨i, hi, rfl⟩ := List.getElem_of_mem hz
   have := h i hi
   rwa [show ws.getD i 0 = ws[i] by simp [List.getD_eq_getElem?_getD, hi]] at this)
 clear hc h x1 ha hw hb
 generalize fty args = T at *
 generalize args.length = AL at *
 replace hW := Kp.mk hW
 replace s2 := Kp.mk s2
 go_enter Tryz.func229, Tryz.ntmps229
 go_upto_region 1 with fail
 rw [← hW.out]
 go_wp2_with fail
 go_loopw [8] (fun s wr => ∃ i : Nat, i ≤ ws.length ∧ s = .int .i64 i ∧ Kp (∀ p, p < i → isW T (ws.getD p 0) = true) ∧ Below W0.heap.size W0 wr) (fun s _ => ws.length - (intOf s).toNat)
 case atStart => exact ⟨0, Nat.zero_le _, rfl, ⟨fun j hj => absurd hj (by omega)⟩, Below.refl _ _⟩
 case round =>
  clear j4
  obtain ⟨i, hi, rfl, hd, hB⟩ := hrel
  have x1 := hX.out _ hB
  have j0 : At wr w.heap.size 0 _ := cells_at x1 rfl
  have j1 : At wr w.heap.size 1 _ := cells_at x1 rfl
  have j2 : At wr w.heap.size 2 _ := cells_at x1 rfl
  have j4 : At wr w.heap.size 4 _ := cells_at x1 rfl
  by_cases hlt : i < ws.length
  ·obtain rfl := s2.out (by omega)
   have hlt' : (i : Int) < (ws.length : Int) := by omega
   have ci := hWs.out _ hB i hlt
   have Fi := Kp.mk (FT.out _ hB)
   have Ii : Kp (∀ W, Below W0.heap.size W0 W → Calls Tryz.prog 155 #[.int .i64 T, .int .u64 (ws.getD i 0)] W fun e w' => e = .returned (.bool (isW T (ws.getD i 0))) ∧ w' = W) := ⟨fun W hB => IW.out W hB i hlt⟩
   cases hq : isW T (ws.getD i 0) with
   | true =>
    rw [hq] at Ii
    have hd' : Kp (∀ p, p < i + 1 → isW T (ws.getD p 0) = true) := ⟨fun p hp => by
     by_cases e : p = i
     ·subst e; exact hq
     ·exact hd.out p (by omega)⟩
    clear hq hd x1
    generalize ws.getD i 0 = u at *
    go_wp2_with fail
    refine Fi.out.mono ?_
    rintro e w1 ⟨rfl, hb1⟩
    have hB1 := bel_trans hB hb1
    go_wp2_with fail
    refine (Ii.out _ hB1).mono ?_
    rintro e w2 ⟨rfl, rfl⟩
    go_wp2_with fail
    exact ⟨⟨i + 1, by omega, by go_num, hd', hB1⟩, by simp [intOf]; omega⟩
   | false =>
    rw [hq] at Ii
    have hf : Kp ((ws.all fun v => isW T v) = false) := ⟨by
     rw [Bool.eq_false_iff]
     intro t
     rw [all.out.1 t i hlt] at hq
     cases hq⟩
    clear hq hd x1
    generalize ws.getD i 0 = u at *
    go_wp2_with fail
    refine Fi.out.mono ?_
    rintro e w1 ⟨rfl, hb1⟩
    have hB1 := bel_trans hB hb1
    go_wp2_with fail
    refine (Ii.out _ hB1).mono ?_
    rintro e w2 ⟨rfl, rfl⟩
    go_wp2_with fail
    go_ret
    exact ⟨ret_bool (by rw [hf.out]), bel_trans BB hB1⟩
  ·have hlt' : ¬ (i : Int) < (ws.length : Int) := by omega
   obtain rfl : i = ws.length := by omega
   have ht : Kp ((ws.all fun v => isW T v) = true) := ⟨all.out.2 hd.out⟩
   go_wp2_with fail
   go_ret
   exact ⟨ret_bool (by rw [ht.out]), bel_trans BB hB⟩
end Go.Proofs.YtgdcgjlmkmdklaaGreatDoor
