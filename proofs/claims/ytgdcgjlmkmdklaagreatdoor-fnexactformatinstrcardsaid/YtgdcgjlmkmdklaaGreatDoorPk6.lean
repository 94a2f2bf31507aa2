/- Texts of one claim. -/
import Derived.Test.YtgdcgjlmkmdklaaGreatDoorPk5
import Derived.Test.YtgdcgjlmkmdklaaGreatDoorPk0
import Derived.Maps.AppendAt
import Derived.OwnWalk
namespace Go.Proofs.YtgdcgjlmkmdklaaGreatDoor
open Go.ChangeShapes Go.WideShapes Go.ChangeAt Go.RowKit
attribute [local go_sem] Oper.semAt_some
set_option linter.unusedVariables false
set_option linter.unusedSimpArgs false
abbrev trip (y : ItD) : Nat × Nat × Int := (y.b, y.i, y.d.ty)
theorem inPl_trip (b : Nat) : ∀ (ys : List ItD) (i0 : Nat), (∀ j (h : j < ys.length), ys[j].b = b ∧ ys[j].i = i0 + j) → inPl b i0 (ys.map (·.d)) = ys.map trip
 | [], _, _ => rfl
 | y :: r, i0, h => by
  have h0 := h 0 (by simp)
  simp only [List.getElem_cons_zero, Nat.add_zero] at h0
  have := inPl_trip b r (i0 + 1) (fun j hj => by
   have := h (j + 1) (by simpa using hj)
   simp only [List.getElem_cons_succ] at this
   exact ⟨this.1, by omega⟩)
  simp only [List.map_cons, inPl, this, trip, h0.1, h0.2]
theorem blPl_trip : ∀ (Y : List (List ItD)) (b0 : Nat), (∀ k (h : k < Y.length) j (hj : j < Y[k].length), Y[k][j].b = b0 + k ∧ Y[k][j].i = j) → blPl b0 (Y.map (·.map (·.d))) = Y.flatten.map trip
 | [], _, _ => rfl
 | ys :: R, b0, h => by
  have h0 := inPl_trip b0 ys 0 (fun j hj => by
   have := h 0 (by simp) j (by simpa using hj)
   simpa using this)
  have := blPl_trip R (b0 + 1) (fun k hk j hj => by
   have := h (k + 1) (by simpa using hk) j (by simpa using hj)
   simp only [List.getElem_cons_succ] at this
   exact ⟨by omega, this.2⟩)
  simp only [List.map_cons, blPl, List.flatten_cons, List.map_append, h0, this]
theorem defL_mem {n : Int} {L : List ItD} {x : Int × Nat × Nat} (h : x ∈ defL n L) : ∃ y, y ∈ L ∧ y.d.ty ≠ 0 ∧ x.2 = (y.b, y.i) := by
 induction L generalizing n with
 | nil => simp [defL] at h
 | cons y r ih =>
  by_cases q : y.d.ty = 0
  ·simp only [defL, q, if_true] at h
   obtain ⟨z, h1, h2⟩ := ih h
   exact ⟨z, by simp [h1], h2⟩
  ·simp only [defL, q, if_false, List.mem_cons] at h
   rcases h with rfl | h
   ·exact ⟨y, by simp, q, rfl⟩
   ·obtain ⟨z, h1, h2⟩ := ih h
    exact ⟨z, by simp [h1], h2⟩
theorem mem_defL {n : Int} {L : List ItD} {y : ItD} (h : y ∈ L) (q : y.d.ty ≠ 0) : ∃ x, x ∈ defL n L ∧ x.2 = (y.b, y.i) := by
 induction L generalizing n with
 | nil => simp at h
 | cons z r ih =>
  rcases List.mem_cons.1 h with rfl | h
  ·exact ⟨_, by simp [defL, q]; exact .inl rfl, rfl⟩
  ·by_cases qz : z.d.ty = 0
   ·obtain ⟨x, h1, h2⟩ := ih (n := n) h
    exact ⟨x, by simpa [defL, qz] using h1, h2⟩
   ·obtain ⟨x, h1, h2⟩ := ih (n := n + 1) h
    exact ⟨x, by simp only [defL, qz, if_false, List.mem_cons]; exact .inr h1, h2⟩
theorem dAt_none (v n : Int) (L : List ItD) (h : ∀ k (hk : k < (defL n L).length), (defL n L)[k].1 ≠ v) : dAt v n (L.map trip) = (-1, -1) := by
 induction L generalizing n with
 | nil => rfl
 | cons y r ih =>
  by_cases q : y.d.ty = 0
  ·simp only [List.map_cons, trip, dAt, q, if_true]
   simp only [defL, q, if_true] at h
   exact ih n h
  ·simp only [List.map_cons, trip, dAt, q, if_false]
   simp only [defL, q, if_false] at h
   have h0 := h 0 (by simp)
   simp only [List.getElem_cons_zero] at h0
   rw [if_neg h0]
   refine ih (n + 1) fun k hk => ?_
   have := h (k + 1) (by simpa using hk)
   simpa using this
theorem dAt_hit (v n : Int) (L : List ItD) (k : Nat) (hk : k < (defL n L).length) (hv : (defL n L)[k].1 = v) (h : ∀ j (hj : j < k), (defL n L)[j].1 ≠ v) : dAt v n (L.map trip) = (((defL n L)[k].2.1 : Int), ((defL n L)[k].2.2 : Int)) := by
 induction L generalizing n k with
 | nil => simp [defL] at hk
 | cons y r ih =>
  by_cases q : y.d.ty = 0
  ·simp only [List.map_cons, trip, dAt, q, if_true]
   simp only [defL, q, if_true] at h hk hv ⊢
   exact ih n k hk hv h
  ·simp only [List.map_cons, trip, dAt, q, if_false]
   simp only [defL, q, if_false] at h hk hv ⊢
   cases k with
   | zero =>
    simp only [List.getElem_cons_zero] at hv ⊢
    rw [if_pos hv]
   | succ k =>
    have h0 := h 0 (by omega)
    simp only [List.getElem_cons_zero] at h0
    rw [if_neg h0]
    simp only [List.getElem_cons_succ] at hv ⊢
    refine ih (n + 1) k (by simpa using hk) hv fun j hj => ?_
    have := h (j + 1) (by omega)
    simpa using this
theorem rOf_hit (B I n : Int) (L : List ItD) (hp : L.Pairwise fun x y => ¬ (x.b = y.b ∧ x.i = y.i)) (k : Nat) (hk : k < (defL n L).length) (hb : ((defL n L)[k].2.1 : Int) = B) (hi : ((defL n L)[k].2.2 : Int) = I) : rOf B I n (L.map trip) = (defL n L)[k].1 := by
 induction L generalizing n k with
 | nil => simp [defL] at hk
 | cons y r ih =>
  obtain ⟨p1, p2⟩ := List.pairwise_cons.1 hp
  by_cases q : y.d.ty = 0
  ·simp only [defL, q, if_true] at hk hb hi ⊢
   have hne : ¬ ((y.b : Int) = B ∧ (y.i : Int) = I) := by
    rintro ⟨e1, e2⟩
    obtain ⟨z, hz, -, hz2⟩ := defL_mem (List.getElem_mem hk)
    rw [hz2] at hb hi
    exact p1 z hz ⟨by simp at hb; omega, by simp at hi; omega⟩
   simp only [List.map_cons, trip, rOf, hne, q, if_true, if_false]
   exact ih n p2 k hk hb hi
  ·simp only [defL, q, if_false] at hk hb hi ⊢
   cases k with
   | zero =>
    simp only [List.getElem_cons_zero] at hb hi ⊢
    simp [List.map_cons, trip, rOf, hb, hi, q]
   | succ k =>
    simp only [List.getElem_cons_succ] at hb hi ⊢
    have hk' : k < (defL (n + 1) r).length := by simpa using hk
    have hne : ¬ ((y.b : Int) = B ∧ (y.i : Int) = I) := by
     rintro ⟨e1, e2⟩
     obtain ⟨z, hz, -, hz2⟩ := defL_mem (List.getElem_mem hk')
     rw [hz2] at hb hi
     exact p1 z hz ⟨by simp at hb; omega, by simp at hi; omega⟩
    simp only [List.map_cons, trip, rOf, hne, q, if_false]
    exact ih (n + 1) p2 k hk' hb hi
theorem rOf_miss (B I n : Int) (L : List ItD) (h : ∀ k (hk : k < (defL n L).length), ¬ (((defL n L)[k].2.1 : Int) = B ∧ ((defL n L)[k].2.2 : Int) = I)) : rOf B I n (L.map trip) = -1 := by
 refine rOf_none B I _ n fun e he e1 e2 => ?_
 obtain ⟨y, hy, rfl⟩ := List.mem_map.1 he
 by_cases q : y.d.ty = 0
 ·exact q
 ·obtain ⟨x, hx, hx2⟩ := mem_defL (n := n) hy q
  obtain ⟨k, hk, rfl⟩ := List.mem_iff_getElem.1 hx
  refine absurd ?_ (h k hk)
  rw [hx2]
  exact ⟨e1, e2⟩
theorem apart_flat (Y : List (List ItD)) (h : ∀ k (h : k < Y.length) j (hj : j < Y[k].length), Y[k][j].b = k ∧ Y[k][j].i = j) : Y.flatten.Pairwise fun x y => ¬ (x.b = y.b ∧ x.i = y.i) := by
 rw [List.pairwise_flatten]
 refine ⟨fun l hl => ?_, ?_⟩
 ·obtain ⟨k, hk, rfl⟩ := List.mem_iff_getElem.1 hl
  rw [List.pairwise_iff_getElem]
  intro i j hi hj hij hh
  have := (h k hk i hi).2
  have := (h k hk j hj).2
  omega
 ·rw [List.pairwise_iff_getElem]
  intro i j hi hj hij x hx y hy hh
  obtain ⟨p, hp, rfl⟩ := List.mem_iff_getElem.1 hx
  obtain ⟨q, hq, rfl⟩ := List.mem_iff_getElem.1 hy
  have := (h i hi p hp).1
  have := (h j hj q hq).1
  omega
theorem defL_bd (n : Int) (L : List ItD) : (defL n L).length ≤ L.length := by
 rw [defL_len]
 have := cnt_le L L.length
 rwa [List.take_length] at this
end Go.Proofs.YtgdcgjlmkmdklaaGreatDoor

namespace Go.Proofs.YtgdcgjlmkmdklaaGreatDoor
open Go.ChangeShapes Go.WideShapes Go.ChangeAt Go.RowKit
attribute [local go_sem] Oper.semAt_some
set_option linter.unusedVariables false
set_option linter.unusedSimpArgs false
theorem four_at {w W : World} {o1 o2 o3 o4 : Obj} (h : W = (((w.alloc o1).alloc o2).alloc o3).alloc o4) :
  W.heap.size = w.heap.size + 4 ∧ Below w.heap.size w W ∧ W.heap[w.heap.size]? = some o1 ∧ W.heap[w.heap.size + 1]? = some o2 ∧ W.heap[w.heap.size + 1 + 1]? = some o3 ∧ W.heap[w.heap.size + 1 + 1 + 1]? = some o4 := by
 subst h
 refine ⟨by simp, bel_trans (bel_trans (bel_trans (bel_alloc _ _) (bel_alloc _ _)) (bel_alloc _ _)) (bel_alloc _ _), ?_, ?_, ?_, ?_⟩
 ·rw [(MapKept.heap_alloc _ _).2 _ (by simp <;> omega), (MapKept.heap_alloc _ _).2 _ (by simp <;> omega), (MapKept.heap_alloc _ _).2 _ (by simp)]; exact (MapKept.heap_alloc w _).1
 ·rw [(MapKept.heap_alloc _ _).2 _ (by simp <;> omega), (MapKept.heap_alloc _ _).2 _ (by simp)]
  have := (MapKept.heap_alloc (w.alloc o1) o2).1
  rwa [World.size_alloc] at this
 ·rw [(MapKept.heap_alloc _ _).2 _ (by simp)]
  have := (MapKept.heap_alloc ((w.alloc o1).alloc o2) o3).1
  rwa [World.size_alloc, World.size_alloc] at this
 ·have := (MapKept.heap_alloc (((w.alloc o1).alloc o2).alloc o3) o4).1
  rwa [World.size_alloc, World.size_alloc, World.size_alloc] at this
theorem at_cells {w : World} {b : Nat} {arr : Array Value} {t : TypeId} (h : w.heap[b]? = some (Go.Obj.cells arr t (0, 0))) {j : Nat} {v : Value} (hj : arr[j]? = some v) : At w b j v := by
 show World.cell? _ _ = _
 simp [World.cell?, h, hj]
theorem rw_cells {w : World} {b : Nat} {arr : Array Value} {t : TypeId} (h : w.heap[b]? = some (Go.Obj.cells arr t (0, 0))) : ∀ j, w.frozen? ⟨b, j, none⟩ = false := fun j => by simp [World.frozen?, h]
theorem set_one {w : World} {b : Nat} {u : Value} {t : TypeId} (h : w.heap[b]? = some (Go.Obj.cells #[u] t (0, 0))) (x : Value) : (w.setCell ⟨b, 0, none⟩ x).heap[b]? = some (Go.Obj.cells #[x] t (0, 0)) := Boxed.set x h
theorem set_cells {w : World} {b : Nat} {arr : Array Value} {t : TypeId} (h : w.heap[b]? = some (Go.Obj.cells arr t (0, 0))) (j : Nat) (x : Value) : (w.setCell ⟨b, j, none⟩ x).heap[b]? = some (Go.Obj.cells (arr.setIfInBounds j x) t (0, 0)) := by
 obtain ⟨hlt, hk⟩ := Array.getElem?_eq_some_iff.1 h
 show (w.heap.modify b _)[b]? = _
 rw [Array.getElem?_eq_getElem (by rw [Array.size_modify]; exact hlt), Array.getElem_modify_self, hk]
 rfl
theorem set_two {w : World} {b : Nat} {u0 u1 : Value} {t : TypeId} (h : w.heap[b]? = some (Go.Obj.cells #[u0, u1] t (0, 0))) (x y : Value) : ((w.setCell ⟨b, 0, none⟩ x).setCell ⟨b, 1, none⟩ y).heap[b]? = some (Go.Obj.cells #[x, y] t (0, 0)) :=
 set_cells (set_cells h 0 x) 1 y
end Go.Proofs.YtgdcgjlmkmdklaaGreatDoor

namespace Go.Proofs.YtgdcgjlmkmdklaaGreatDoor
open Go.ChangeShapes Go.WideShapes Go.ChangeAt Go.RowKit
attribute [local go_sem] Oper.semAt_some
set_option linter.unusedVariables false
set_option linter.unusedSimpArgs false
theorem five_at {w W : World} {o1 o2 o3 o4 o5 : Obj} (h : W = ((((w.alloc o1).alloc o2).alloc o3).alloc o4).alloc o5) :
  W.heap.size = w.heap.size + 5 ∧ Below w.heap.size w W ∧ W.heap[w.heap.size]? = some o1 ∧ W.heap[w.heap.size + 1]? = some o2 ∧ W.heap[w.heap.size + 1 + 1]? = some o3 ∧ W.heap[w.heap.size + 1 + 1 + 1]? = some o4 ∧ W.heap[w.heap.size + 1 + 1 + 1 + 1]? = some o5 := by
 obtain ⟨z, b, h1, h2, h3, h4⟩ := four_at (w := w) (W := (((w.alloc o1).alloc o2).alloc o3).alloc o4) rfl
 subst h
 refine ⟨by simp, bel_trans b (bel_alloc _ _), ?_, ?_, ?_, ?_, ?_⟩
 ·rw [(MapKept.heap_alloc _ _).2 _ (by omega)]; exact h1
 ·rw [(MapKept.heap_alloc _ _).2 _ (by omega)]; exact h2
 ·rw [(MapKept.heap_alloc _ _).2 _ (by omega)]; exact h3
 ·rw [(MapKept.heap_alloc _ _).2 _ (by omega)]; exact h4
 ·have := (MapKept.heap_alloc ((((w.alloc o1).alloc o2).alloc o3).alloc o4) o5).1
  rwa [z] at this
set_option maxRecDepth 100000 in
set_option maxHeartbeats 2000000 in
theorem resOfI (d : FnD) (vp vb : Value) (B I : Int) (w : World) {lo : Nat} (h : FnAt lo w d vp vb) (hn : fnN d ≤ 1048576) :
  Calls Tryz.prog 34 #[fnV d vp vb, .int .i64 B, .int .i64 I] w fun e w' => e = .returned (.int .i64 (rOf B I d.params.length (blPl 0 d.blocks))) ∧ Below w.heap.size w w' := by
 unfold fnN at hn
 obtain ⟨name, link, params, res, blocks⟩ := d
 obtain ⟨-, hp, hb⟩ := h
 dsimp only [fnV] at *
 have nn := blsN_nn blocks
 obtain ⟨a1, k1, rfl⟩ := hp.shape
 obtain ⟨Y, hY, hYd, hYi⟩ := itBls_of hb
 obtain ⟨a2, k2, rfl⟩ := hb.shape
 have hpl : blPl 0 blocks = Y.flatten.map trip := by
  rw [← hYd]
  exact blPl_trip Y 0 (fun k hk j hj => by simpa using hY.ix k hk j hj)
 have hbd : params.length + Y.flatten.length ≤ 1099511627776 := by
  have := blPl_len 0 blocks
  rw [hpl, List.length_map] at this
  omega
 have hDL := defL_bd params.length Y.flatten
 rw [hpl]
 clear hYd hYi hb hp hpl nn hn
 replace hY := Kp.mk hY
 obtain ⟨DL, hDLe⟩ : ∃ DL, DL = defL params.length Y.flatten := ⟨_, rfl⟩
 obtain ⟨R, hRe⟩ : ∃ R, R = rOf B I params.length (Y.flatten.map trip) := ⟨_, rfl⟩
 have hap := apart_flat Y hY.out.ix
 have A1 : Kp ((∀ k (hk : k < DL.length), ¬ ((DL[k].2.1 : Int) = B ∧ (DL[k].2.2 : Int) = I)) → R = -1) := ⟨by rw [hRe, hDLe]; exact rOf_miss B I params.length Y.flatten⟩
 have A2 : Kp (∀ k (hk : k < DL.length), (DL[k].2.1 : Int) = B → (DL[k].2.2 : Int) = I → R = DL[k].1) :=
  ⟨by subst hRe hDLe; exact fun k hk h1 h2 => rOf_hit B I params.length Y.flatten hap k hk h1 h2⟩
 have hseq : Kp (∀ (S : Nat → Prop) (n0 Bf : Nat) (w0 : World) (_ : ItBls n0 w0 (.slice a2 blocks.length k2) Y) (_ : At w0 Bf 0 (.string name)) (_ : At w0 Bf 1 (.int .i64 link)) (_ : At w0 Bf 2 (.slice a1 params.length k1)) (_ : At w0 Bf 3 (.int .i64 res)) (_ : At w0 Bf 4 (.slice a2 blocks.length k2)) (_ : ∀ k, k < n0 → S k) (_ : S Bf) (_ : ∀ k, S k → k < w0.heap.size),
   SeqL Fence.wide (12 - 1) Tryz.prog 126 #[.pointer (some ⟨Bf, 0, none⟩)] dfE S DL w0) :=
  ⟨by subst hDLe; exact fun S n0 Bf w0 hY h0 h1 h2 h3 h4 hS hB hSw => defs_seq _ S n0 Bf w0 name link res _ _ params.length ⟨_, _, rfl⟩ ⟨_, _, _, rfl⟩ Y hY (Below.refl _ _) h0 h1 h2 h3 h4 hS hB hSw hbd⟩
 rw [← hRe]
 clear hbd hDL hDLe hRe hap
 have C : Kp (∀ w, CallsIn Fence.wide 11 Tryz.prog _ _ w _) := ⟨fun w => callsIn_wide.2 (definitionsOf_c name link res (.slice a1 params.length k1) (.slice a2 blocks.length k2) ⟨_, _, _, rfl⟩ ⟨_, _, _, rfl⟩ w)⟩
 refine (callsIn_wide (n := 12)).1 ?_
 refine callsIn_of_wp_marks Tryz.func34 rfl trivial ?_ rfl
 simp only [Tryz.ntmps34, List.size_toArray, List.length_cons, List.length_nil, Nat.reduceAdd, Nat.reduceSub, Array.replicate_succ, Array.replicate_zero, List.push_toArray, List.append_toArray, List.nil_append, List.cons_append]
 gi_wp2
 refine ⟨trivial, ?_⟩
 refine (C.out _).mono ?_
 rintro e w' ⟨rfl, rfl⟩
 obtain ⟨W4, hW4⟩ : ∃ W4, W4 = ((((w.alloc (Go.Obj.cells #[.string name, .int .i64 link, .slice a1 params.length k1, .int .i64 res, .slice a2 blocks.length k2] 53)).alloc (Go.Obj.cells #[.int .i64 B] 2)).alloc (Go.Obj.cells #[.int .i64 I] 2)).alloc (Go.Obj.cells #[.int .i64 0] 2)).alloc (Go.Obj.cells #[.string name, .int .i64 link, .slice a1 params.length k1, .int .i64 res, .slice a2 blocks.length k2] 53) := ⟨_, rfl⟩
 gi_wp2
 rw [← hW4]
 obtain ⟨hz, hB4, g1, g2, g3, g4, g5⟩ := five_at hW4
 clear hW4 C
 obtain ⟨S, hS⟩ : ∃ S : Nat → Prop, S = fun k => k < w.heap.size ∨ k = w.heap.size + 1 + 1 + 1 + 1 := ⟨_, rfl⟩
 have hs : ∀ k, S k → k < W4.heap.size := fun k hk => by
  rw [hS] at hk
  rcases hk with hk | hk <;> omega
 have hns : ¬ S (w.heap.size + 1 + 1 + 1) := fun hk => by
  rw [hS] at hk
  rcases hk with hk | hk <;> omega
 replace hS := Kp.mk hS
 have hY4 : ItBls w.heap.size W4 (.slice a2 blocks.length k2) Y := hY.out.kq (Kq.below (S := fun k => k < w.heap.size) hB4 (fun _ h => h)) (fun _ h => h)
 refine wpIn_rangeL rfl (by decide) (gf := 126) (lb := #[.pointer (some ⟨w.heap.size + 1 + 1 + 1 + 1, 0, none⟩)]) rfl trivial (enters_of Tryz.func126 (by kernel_rfl) rfl)
  (hseq.out S w.heap.size (w.heap.size + 1 + 1 + 1 + 1) W4 hY4 (at_cells g5 rfl) (at_cells g5 rfl) (at_cells g5 rfl) (at_cells g5 rfl) (at_cells g5 rfl) (fun k hk => by rw [hS.out]; exact .inl hk) (by rw [hS.out]; exact .inr rfl) hs) (Below.refl _ _) hs (fun _ => rfl)
  (fun k X => (∀ j (hj : j < DL.length), j < k → ¬ ((DL[j].2.1 : Int) = B ∧ (DL[j].2.2 : Int) = I)) ∧ X.heap[w.heap.size + 1]? = some (Go.Obj.cells #[.int .i64 B] 2 (0, 0)) ∧ X.heap[w.heap.size + 1 + 1]? = some (Go.Obj.cells #[.int .i64 I] 2 (0, 0)) ∧ X.heap[w.heap.size + 1 + 1 + 1]? = some (Go.Obj.cells #[.int .i64 0] 2 (0, 0)) ∧ Below w.heap.size w X)
  (fun c k X => c = .ret ∧ At X (w.heap.size + 1 + 1 + 1) 0 (.int .i64 R) ∧ Below w.heap.size w X) ?hI ?hIx ?h0
  (fun x a' X => ∃ B1, W4.heap.size ≤ B1 ∧ X.heap[B1]? = some (Go.Obj.cells #[.int .i64 x.2.1, .int .i64 x.2.2] 116 (0, 0)) ∧ ∃ u9 u10,
   a' = { tmps := #[.agg #[.string name, .int .i64 link, .slice a1 params.length k1, .int .i64 res, .slice a2 blocks.length k2], .int .i64 B, .int .i64 I, .pointer (some ⟨w.heap.size, 0, none⟩), .pointer (some ⟨w.heap.size + 1, 0, none⟩), .pointer (some ⟨w.heap.size + 1 + 1, 0, none⟩), .pointer (some ⟨w.heap.size + 1 + 1 + 1, 0, none⟩), .int .i64 x.1, .pointer (some ⟨B1, 0, none⟩),
    .agg #[.string name, .int .i64 link, .slice a1 params.length k1, .int .i64 res, .slice a2 blocks.length k2], .func (.func 126) #[] #[.pointer (some ⟨w.heap.size + 1 + 1 + 1 + 1, 0, none⟩)], u9, u10, undef, undef, undef, undef, undef, undef], defers := [] }) ?hAx ?assign ?body ?done ?stop
 case hI =>
  rintro k A E ⟨s1, s2, s2b, s3, s4⟩ hA hB
  exact ⟨s1, (hB.block _ (by omega)).trans s2, (hB.block _ (by omega)).trans s2b, (hB.block _ (by omega)).trans s3, s4.trans (hB.mono (by omega))⟩
 case hIx =>
  rintro c k A E ⟨s1, s2, s4⟩ hA hB
  exact ⟨s1, (hB.cell (p := ⟨_, _, none⟩) (show w.heap.size + 1 + 1 + 1 < W4.heap.size by omega)).trans s2, s4.trans (hB.mono (by omega))⟩
 case h0 => exact ⟨fun j hj h => absurd h (by omega), g2, g3, g4, hB4⟩
 case hAx =>
  rintro x a' u A E row ⟨B1, b1, p1, p3⟩ hg hr
  refine ⟨B1, b1, (hg.block B1 (Array.getElem?_eq_some_iff.1 p1).1 (fun e => ?_)).trans p1, p3⟩
  exact tl111
 case assign =>
  intro lr k hk X K hi hX hK
  clear hi
  generalize DL[k] = y at *
  obtain ⟨y1, y2, y3⟩ := y
  simp only [dfE, List.zip_toArray, List.zip_cons_cons, List.zip_nil_right, List.foldl_toArray', List.foldl_cons, List.foldl_nil, List.setIfInBounds_toArray, List.set_cons_succ, List.set_cons_zero, Array.zip, List.toList_toArray]
  gi_wp2
  exact hK _ _ (bel_alloc _ _) ⟨X.heap.size, hX, (MapKept.heap_alloc X _).1, _, _, rfl⟩
 case body =>
  rintro lr k hk a' X hX ⟨i1, i2, i2b, i3, i4⟩ ⟨B1, b1, p1, u9, u10, rfl⟩
  have hcB : X.cell? ⟨w.heap.size + 1, 0, none⟩ = some (.int .i64 B) := at_cells i2 rfl
  have hcI : X.cell? ⟨w.heap.size + 1 + 1, 0, none⟩ = some (.int .i64 I) := at_cells i2b rfl
  have hp0 : X.cell? ⟨B1, 0, none⟩ = some (.int .i64 DL[k].2.1) := at_cells p1 rfl
  have hp1 : X.cell? ⟨B1, 1, none⟩ = some (.int .i64 DL[k].2.2) := at_cells p1 rfl
  have hr0 : X.cell? ⟨w.heap.size + 1 + 1 + 1, 0, none⟩ = some (.int .i64 0) := at_cells i3 rfl
  have hf0 := rw_cells i3 0
  by_cases hv : (DL[k].2.1 : Int) = B ∧ (DL[k].2.2 : Int) = I
  ·have hR := A2.out k hk hv.1 hv.2
   obtain ⟨v1, v2⟩ := hv
   clear i1
   generalize DL[k] = y at *
   obtain ⟨y1, y2, y3⟩ := y
   dsimp only at v1 v2 hp0 hp1 hR
   subst v1 v2
   have c3 := set_one i3 (.int .i64 y1)
   have hk1 : Kd S W4.heap.size X (X.setCell ⟨w.heap.size + 1 + 1 + 1, 0, none⟩ (.int .i64 y1)) :=
    (Kd.refl _ _ _).setCell (p := ⟨w.heap.size + 1 + 1 + 1, 0, none⟩) hns (show w.heap.size + 1 + 1 + 1 < W4.heap.size by omega) _
   rw [hR]
   gi_wp2
   exact ⟨by rw [← hz]; exact hk1, rfl, at_cells c3 rfl, bel_set i4 (by omega) _⟩
  ·have i1' : Kp (∀ j (hj : j < DL.length), j < k + 1 → ¬ ((DL[j].2.1 : Int) = B ∧ (DL[j].2.2 : Int) = I)) := ⟨fun j hj h => by
    by_cases e : j = k
    ·subst e; exact hv
    ·exact i1 j hj (by omega)⟩
   clear i1
   generalize DL[k] = y at *
   obtain ⟨y1, y2, y3⟩ := y
   dsimp only at hv hp0 hp1
   gi_wp2
   all_goals exact ⟨Kd.refl _ _ _, fun j hj h e1 e2 => i1'.out j hj h ⟨e1, e2⟩, i2, i2b, i3, i4⟩
 case done =>
  rintro D X hD ⟨i1, i2, i2b, i3, i4⟩ hK
  have hR := A1.out (fun k hk => i1 k hk hk)
  have hr0 : X.cell? ⟨w.heap.size + 1 + 1 + 1, 0, none⟩ = some (.int .i64 0) := at_cells i3 rfl
  have hf0 := rw_cells i3 0
  have c3 := set_one i3 (.int .i64 (-1))
  have hK2 := (KeepsOthers.setCell X ⟨w.heap.size + 1 + 1 + 1, 0, none⟩ (.int .i64 (-1))).same D _ hK rfl
  have hB2 : Below w.heap.size w (X.setCell ⟨w.heap.size + 1 + 1 + 1, 0, none⟩ (.int .i64 (-1))) := bel_set i4 (by omega) _
  gi_wp2
  rw [hR]
  generalize X.setCell ⟨w.heap.size + 1 + 1 + 1, 0, none⟩ (.int .i64 (-1)) = X2 at *
  refine ⟨by simp, .inl ⟨_, _, rfl, run_takeDeferred hK2, ?_⟩⟩
  have c4 : (X2.putObj D (.deferred none)).heap[w.heap.size + 1 + 1 + 1]? = _ := (World.putObj_heap_other (by omega)).trans c3
  have d0 := at_cells c4 (j := 0) rfl
  refine ⟨.int .i64 (-1), ?_, rfl, hB2.grown (grownBy_putObj' _ _ _) hB2.size (fun k e => by cases e; omega)⟩
  simp [results, Tryz.results34, go_sem, d0]
 case stop =>
  rintro D c k X hD hk ⟨rfl, i1, i3⟩ hK
  gi_wp2
  refine ⟨by simp, .inl ⟨_, _, rfl, run_takeDeferred hK, ?_⟩⟩
  have hoth : (X.putObj D (.deferred none)).heap[w.heap.size + 1 + 1 + 1]? = X.heap[w.heap.size + 1 + 1 + 1]? := World.putObj_heap_other (by omega)
  have d0 : At (X.putObj D (.deferred none)) (w.heap.size + 1 + 1 + 1) 0 (.int .i64 R) := (World.cell?_of_block (a := ⟨w.heap.size + 1 + 1 + 1, 0, none⟩) hoth).trans i1
  refine ⟨.int .i64 R, ?_, rfl, i3.grown (grownBy_putObj' _ _ _) i3.size (fun k e => by cases e; omega)⟩
  simp [results, Tryz.results34, go_sem, d0]
end Go.Proofs.YtgdcgjlmkmdklaaGreatDoor

namespace Go.Proofs.YtgdcgjlmkmdklaaGreatDoor
open Go.ChangeShapes Go.WideShapes Go.ChangeAt Go.RowKit
set_option linter.unusedVariables false
set_option linter.unusedSimpArgs false
theorem run_append_none {P : Program} (w : World) (base : Nat) (t ty e : TypeId) (i : TypeInfo) (size : Nat) (ht : P.underlying t = some (.slice e)) (hi : P.info? e = some i) (hsize : i.size = size)
  (v : Value) (n : Nat) (xs : List Value) (hown : w.ownsRow base e size v n xs) (c : Nat) :
  (Builtin.append_ #[t, t] ty #[v, .slice none 0 c]).run P w = .ok v w := by
 rcases hown.2 with ⟨rfl, rfl⟩ | ⟨g, cap, cur, rfl, hbg, hg, hnc, hcm, hcs, htake⟩
 ·simp [Builtin.append_, run_underlying ht, sizeOf, typeInfo, hi, Builtin.lenOf, Builtin.firstCells, loadCells, loadCellsFrom]
 ·simp [Builtin.append_, run_underlying ht, sizeOf, typeInfo, hi, Builtin.lenOf, Builtin.firstCells, loadCells, loadCellsFrom, hnc]
  simp [storeCells, Result.andThen]
theorem run_append_vals {P : Program} (w : World) (base : Nat) (t ty e : TypeId) (i : TypeInfo) (z : Value) (size bytes : Nat) (ht : P.underlying t = some (.slice e)) (hi : P.info? e = some i) (hz : i.zero = some z)
  (hsize : i.size = size) (hby : i.bytes = bytes) (hzs : z.cells.size = size) (hsz : 0 < size)
  (v : Value) (n : Nat) (xs : List Value) (hown : w.ownsRow base e size v n xs)
  (a : Option Addr) (b o m c : Nat) (news : List Value) (ha : 0 < m → a = some ⟨b, o, none⟩) (hl : news.length = m * size) (hnews : ∀ j (hj : j < news.length), At w b (o + j) news[j]) (h1 : ∀ u ∈ news, u.oneCell' = true)
  (h63 : n + m ≤ maxLen) (hbytes : (n + m) * bytes ≤ 140737488355328) (hbase : base ≤ w.heap.size) :
  ∃ v' w', (Builtin.append_ #[t, t] ty #[v, .slice a m c]).run P w = .ok v' w' ∧ w'.ownsRow base e size v' (n + m) (xs ++ news) ∧ w.grownBy w' v.ownBlock := by
 cases a with
 | none =>
  obtain rfl : m = 0 := by
   rcases Nat.eq_zero_or_pos m with h | h
   ·exact h
   ·cases ha h
  obtain rfl : news = [] := List.eq_nil_of_length_eq_zero (by simpa using hl)
  exact ⟨v, w, run_append_none w base t ty e i size ht hi hsize v n xs hown c, by simpa using hown, ⟨rfl, rfl, rfl, Nat.le_refl _, fun _ _ _ => rfl⟩⟩
 | some ad =>
  obtain ⟨v', w', h1, h2, h3, -⟩ := run_append_own w base t ty e i z size bytes ht hi hz hsize hby hzs hsz v n xs hown ad m c news hl (fun j u hj => by
   obtain ⟨hlt, rfl⟩ := List.getElem?_eq_some_iff.1 hj
   have hm : 0 < m := by
    rcases Nat.eq_zero_or_pos m with h | h
    ·subst h; simp at hl; rw [hl] at hlt; simp at hlt
    ·exact h
   have := ha hm
   cases this
   rw [Go.WideShapes.add_plain]
   exact hnews j hlt) h1 h63 hbytes hbase
  exact ⟨v', w', h1, h2, h3⟩
theorem wpList_append_vals {P : Program} (w : World) {ops : Array Oper} {rest : List Oper} {op : Oper} {ac : Act} {Q : Exit → Act → World → Prop} (hgd : op.guard = none) (s x : Operand) (t : TypeId)
  (ho : op.op = .call { callee := .builtin .append, args := #[s, x], argTypes := #[t, t] })
  (base : Nat) (e : TypeId) (i : TypeInfo) (z : Value) (size bytes : Nat) (ht : P.underlying t = some (.slice e)) (hi : P.info? e = some i) (hz : i.zero = some z)
  (hsize : i.size = size) (hby : i.bytes = bytes) (hzs : z.cells.size = size) (hsz : 0 < size)
  (v : Value) (n : Nat) (xs : List Value) (hs : ac.eval s = v) (hown : w.ownsRow base e size v n xs)
  (a : Option Addr) (b o m c : Nat) (news : List Value) (hx : ac.eval x = .slice a m c) (ha : 0 < m → a = some ⟨b, o, none⟩) (hl : news.length = m * size) (hnews : ∀ j (hj : j < news.length), At w b (o + j) news[j]) (h1 : ∀ u ∈ news, u.oneCell' = true)
  (h63 : n + m ≤ maxLen) (hbytes : (n + m) * bytes ≤ 140737488355328) (hbase : base ≤ w.heap.size)
  (h : ∀ v' w', w'.ownsRow base e size v' (n + m) (xs ++ news) → w.grownBy w' v.ownBlock → wpList P ops Q rest (ac.put op.dst v') w') : wpList P ops Q (op :: rest) ac w := by
 refine wpList_plain hgd fun K hK => ?_
 obtain ⟨v', w', hr, h2, h3⟩ := run_append_vals w base t op.type e i z size bytes ht hi hz hsize hby hzs hsz v n xs hown a b o m c news ha hl hnews h1 h63 hbytes hbase
 unfold Oper.wp execOp
 simp only [ho, resolve, invoke, builtin, Sem.run_bind, Sem.run_pure, Result.andThen_ok, List.map_toArray, List.map_cons, List.map_nil, hs, hx, hr]
 exact hK _ _ (h v' w' h2 h3)
theorem one_new (w : World) (x : Value) (T : TypeId) : ∀ j (hj : j < [x].length), At (w.alloc (Go.Obj.cells #[x] T)) w.heap.size (0 + j) [x][j] := fun j hj => by
 obtain rfl : j = 0 := by simpa using hj
 exact at_cells (MapKept.heap_alloc w _).1 rfl
theorem one_cell {k : IntKind} {t : Int} : ∀ u ∈ [Value.int k t], u.oneCell' = true := fun u hu => by
 obtain rfl : u = .int k t := by simpa using hu
 rfl
theorem own_bel {base : Nat} {e : TypeId} {size : Nat} {v : Value} {n : Nat} {xs : List Value} {w0 w w' : World} (hB : Below base w0 w) (hown : w.ownsRow base e size v n xs) (hg : w.grownBy w' v.ownBlock) (hb : base ≤ w.heap.size) : Below base w0 w' :=
 hB.grown hg hb (fun k hk => (hown.lt k hk).1)
end Go.Proofs.YtgdcgjlmkmdklaaGreatDoor

namespace Go.Proofs.YtgdcgjlmkmdklaaGreatDoor
open Go.ChangeShapes Go.WideShapes Go.ChangeAt Go.RowKit
set_option linter.unusedVariables false
set_option linter.unusedSimpArgs false
def tysOf : List (Nat × Nat × Int) → List Int
 | [] => []
 | (_, _, t) :: r => if t = 0 then tysOf r else t :: tysOf r
theorem tysOf_app (a b : List (Nat × Nat × Int)) : tysOf (a ++ b) = tysOf a ++ tysOf b := by
 induction a with
 | nil => rfl
 | cons x r ih =>
  obtain ⟨p, q, t⟩ := x
  simp only [List.cons_append, tysOf, ih]
  split <;> rfl
theorem tysOf_len (a : List (Nat × Nat × Int)) : (tysOf a).length ≤ a.length := by
 induction a with
 | nil => exact Nat.le_refl _
 | cons x r ih =>
  obtain ⟨p, q, t⟩ := x
  simp only [tysOf]
  split <;> simp only [List.length_cons] <;> omega
theorem info64 : (Tryz.prog.info? 2).map (fun i => (i.zero, i.size, i.bytes)) = some (some (.int .i64 0), 1, 8) := by kernel_rfl
structure OwnI (w : World) (base : Nat) (v : Value) (xs : List Int) : Prop where
 r : w.ownsRow base 2 1 v xs.length (xs.map (Value.int .i64))
theorem OwnI.ints {w : World} {base : Nat} {v : Value} {xs : List Int} (h : OwnI w base v xs) (hn : xs.length ≤ 1048576) : Ints base .i64 w v xs := by
 obtain ⟨hl, h0 | ⟨g, cap, cur, rfl, hb, hg, h1, h2, h3, h4⟩⟩ := h.r
 ·exact tl62
 ·refine ⟨g, 0, ⟨⟨_, _, rfl, h1, fun _ => rfl⟩, by omega⟩, hb, fun i hi => ?_⟩
  refine at_cells hg ?_
  have : (cur.toList.take (xs.length * 1))[i]? = some (.int .i64 xs[i]) := by rw [h4]; simp [hi]
  exact tl98
theorem OwnI.keep {w w' : World} {base : Nat} {v : Value} {xs : List Int} (h : OwnI w base v xs) (hb : Below w.heap.size w w') : OwnI w' base v xs := by
 refine ⟨h.r.1, ?_⟩
 rcases h.r.2 with h0 | ⟨g, cap, cur, rfl, hb1, hg, rest⟩
 ·exact .inl h0
 ·exact .inr ⟨g, cap, cur, rfl, hb1, keep_cells' hg hb, rest⟩
where keep_cells' {w w' : World} {b : Nat} {o : Obj} (h : w.heap[b]? = some o) (hb : Below w.heap.size w w') : w'.heap[b]? = some o := (hb.block b (Array.getElem?_eq_some_iff.1 h).1).trans h
theorem Joins_le {w : World} {base size n : Nat} {e : TypeId} {v : Value} {xs : List Value} (h : w.ownsRow (base + 1) e size v n xs) : w.ownsRow base e size v n xs :=
 ⟨h.1, h.2.elim Or.inl (fun ⟨g, cap, cur, hv, hg, r⟩ => Or.inr ⟨g, cap, cur, hv, by omega, r⟩)⟩
theorem OwnI.own {w : World} {base : Nat} {v : Value} {xs : List Int} (h : OwnI w base v xs) (hn : xs.length ≤ 1048576) (h0 : 0 < xs.length) : ∃ B, Own64 w v xs.length B 0 ∧ base ≤ B := by
 obtain ⟨hl, q | ⟨g, cap, cur, rfl, hb, hg, h1, h2, h3, h4⟩⟩ := h.r
 ·omega
 ·exact ⟨g, ⟨⟨⟨_, _, rfl, h1, fun _ => rfl⟩, by omega⟩, cap * 1, ⟨2, fun j => cur.getD j undef, cur, hg, h3, fun i hi => by simp [Array.getD, show i < cur.size by omega]⟩, by omega⟩, hb⟩
set_option maxRecDepth 100000 in
set_option maxHeartbeats 2000000 in
theorem valTyS (d : FnD) (vp vb : Value) (w : World) {lo : Nat} (h : FnAt lo w d vp vb) (hn : fnN d ≤ 1048576) :
  Calls Tryz.prog 48 #[fnV d vp vb] w fun e w' => ∃ v, e = .returned v ∧ OwnI w' w.heap.size v (d.params ++ tysOf (blPl 0 d.blocks)) ∧ Below w.heap.size w w' := by
 unfold fnN at hn
 obtain ⟨name, link, params, res, blocks⟩ := d
 obtain ⟨-, hp, hb⟩ := h
 dsimp only [fnV] at *
 have nn := blsN_nn blocks
 have n1 : (params.length : Int) ≤ 1048576 := by omega
 have n2 : (blocks.length : Int) ≤ 1048576 := by omega
 obtain ⟨b0, o0, ⟨⟨a1, k1, rfl, s1, s2⟩, s3⟩, -, pc⟩ := hp.ex
 obtain ⟨b, o, ⟨⟨a2, k2, rfl, h1, h2⟩, h3⟩, -, hc⟩ := hb.ex
 obtain ⟨i0, hi0, hz0, hz1, hz2⟩ := info_parts info64
 replace hp := Kp.mk hp
 replace hb := Kp.mk hb
 replace hc := Kp.mk hc
 replace h2 := Kp.mk h2
 replace s2 := Kp.mk s2
 have n3 : (params.length : Int) + blsN blocks ≤ 1048576 := by omega
 clear hn nn
 obtain ⟨A, hA⟩ : ∃ A, A = params ++ tysOf (blPl 0 blocks) := ⟨_, rfl⟩
 have hAK := Kp.mk hA
 rw [← hA]
 clear hA
 go_enter Tryz.func48, Tryz.ntmps48
 have hmk : ∀ (W : World) (o : Obj) (H : Nat), H = W.heap.size + 1 → ((W.alloc o).alloc (Go.Obj.cells #[] 2)).ownsRow (W.heap.size + 1) 2 1 (.slice (some ⟨H, 0, none⟩) 0 0) 0 [] := fun W o H h => by
  subst h
  have := World.ownsRow_made (base := W.heap.size + 1) (e := 2) (size := 1) (W.alloc o) #[] 0 (by simp) (Nat.zero_le _) rfl
  rwa [World.size_alloc] at this
 replace hmk := Kp.mk hmk
 go_wp2_with (at_builtin; refine wpList_append_vals _ rfl _ _ 50 rfl (w.heap.size + 1) 2 i0 (.int .i64 0) 1 8 Tryz.underlying50 hi0 hz0 hz1 hz2 rfl (by decide) _ _ _ rfl (hmk.out w _ _ rfl) a1 b0 o0 params.length k1 (params.map (Value.int .i64)) rfl s2.out ?qc1 ?qc2 ?qc3 ?qc4 ?qc5 ?qc6 ?_)
 case qc1 => simp
 case qc2 =>
  intro j hj
  rw [List.getElem_map]
  exact at_keep (pc j (by simpa using hj)) (bel_trans (bel_alloc _ _) (bel_alloc _ _))
 case qc3 => intro u hu; obtain ⟨x, _, rfl⟩ := List.mem_map.1 hu; rfl
 case qc4 => unfold maxLen; omega
 case qc5 => omega
 case qc6 => simp
 intro v1 w1 hown hgrow
 obtain ⟨F, hF⟩ : ∃ F, F = Go.Obj.cells #[.string name, .int .i64 link, .slice a1 params.length k1, .int .i64 res, .slice a2 blocks.length k2] 53 (0, 0) := ⟨_, rfl⟩
 have hbx : w1.heap[w.heap.size]? = some F := by
  rw [hF, hgrow.block w.heap.size (by simp; omega) (by simp [Value.ownBlock]), (MapKept.heap_alloc _ _).2 _ (by simp)]
  exact (MapKept.heap_alloc w _).1
 have hB1 : Below w.heap.size w w1 := (bel_trans (bel_alloc w _) (bel_alloc _ _)).grown hgrow (by simp; omega) (fun k hk => by simp [Value.ownBlock] at hk; omega)
 have hsz1 : w.heap.size + 1 ≤ w1.heap.size := by have := hgrow.size; simp at this; omega
 replace hF := Kp.mk hF
 clear hgrow s2 pc s1 hmk
 go_wp2_with fail
 go_loopw [3, 4] (fun s r wr => ∃ (B : Nat) (xs : List Int), B ≤ blocks.length ∧ r = .int .i64 B ∧ wr.ownsRow (w.heap.size + 1) 2 1 s xs.length (xs.map (Value.int .i64)) ∧ Kp (xs ++ tysOf (blPl B (blocks.drop B)) = A) ∧ xs.length + (blPl B (blocks.drop B)).length ≤ 2097152 ∧ wr.heap[w.heap.size]? = some F ∧ w.heap.size + 1 ≤ wr.heap.size ∧ Below w.heap.size w wr) (fun _ r _ => blocks.length - (intOf r).toNat)
 case atStart => exact ⟨0, params, Nat.zero_le _, rfl, hown, ⟨hAK.out.symm⟩, by have := blPl_len 0 blocks; simp only [List.drop_zero]; omega, hbx, hsz1, hB1⟩
 case round =>
  clear hown hbx hB1 hsz1 hAK
  obtain ⟨B, xs, hB, rfl, hown, hd, hn1, hbx, hsz, hBl⟩ := hrel
  have x4 : wr.cell? ⟨w.heap.size, 4, none⟩ = some (.slice a2 blocks.length k2) := at_cells (hbx.trans (by rw [hF.out])) rfl
  by_cases hlt : B < blocks.length
  ·obtain rfl := h2.out (by omega)
   obtain ⟨vi, c0, hv⟩ := hc.out B hlt
   obtain ⟨ys, hys⟩ : ∃ ys, Kp (blocks[B] = ys) := ⟨_, ⟨rfl⟩⟩
   rw [hys.out] at hv
   have hdr := Kp.mk (blPl_drop B blocks hlt)
   rw [hys.out] at hdr
   rw [hdr.out] at hn1 hd
   obtain ⟨bi, oi, ⟨⟨ai, ki, rfl, i1, i2⟩, i3⟩, -, ic⟩ := hv.ex
   have C0 : Kp (∀ W, Below w.heap.size w W → At W b (o + B) (.slice ai ys.length ki)) := ⟨fun W h => at_keep c0 h⟩
   replace c0 := at_keep c0 hBl
   have ic' : Kp (∀ W, Below w.heap.size w W → ∀ i (h : i < ys.length), At W bi (oi + i * 9 + 1) (.int .i64 (ys[i]).ty)) := ⟨fun W hW i h => by
    obtain ⟨_, _, _, q⟩ := ic i h
    exact at_keep q.c1 hW⟩
   replace i2 := Kp.mk i2
   have hl := Kp.mk hlt
   clear ic hv hdr
   rw [List.length_append] at hn1
   simp only [List.drop_zero] at hn1 hd
   go_wp2_with fail
   go_loopw [3, 5] (fun s r wq => ∃ (i : Nat) (xs : List Int), i ≤ ys.length ∧ r = .int .i64 i ∧ wq.ownsRow (w.heap.size + 1) 2 1 s xs.length (xs.map (Value.int .i64)) ∧ Kp (xs ++ tysOf (inPl B i (ys.drop i) ++ blPl (B + 1) (blocks.drop (B + 1))) = A) ∧ xs.length + ((inPl B i (ys.drop i)).length + (blPl (B + 1) (blocks.drop (B + 1))).length) ≤ 2097152 ∧ wq.heap[w.heap.size]? = some F ∧ w.heap.size + 1 ≤ wq.heap.size ∧ Below w.heap.size w wq) (fun _ r _ => ys.length - (intOf r).toNat)
   case atStart => exact ⟨0, xs, Nat.zero_le _, rfl, hown, hd, hn1, hbx, hsz, hBl⟩
   case round =>
    clear hd hn1 hown hbx hBl c0 x4 hsz
    obtain ⟨i, xs, hi, rfl, hown, hd, hn1, hbx, hsz, hBl⟩ := hrel
    have x4 : wr.cell? ⟨w.heap.size, 4, none⟩ = some (.slice (some ⟨b, o, none⟩) blocks.length k2) := at_cells (hbx.trans (by rw [hF.out])) rfl
    have c0 := C0.out _ hBl
    by_cases hlt2 : i < ys.length
    ·obtain rfl := i2.out (by omega)
     have c1 := ic'.out _ hBl i hlt2
     have hdr := inPl_drop B i ys hlt2
     rw [hdr, List.cons_append] at hd
     rw [hdr, List.length_cons] at hn1
     obtain ⟨t, ht⟩ : ∃ t, (ys[i]).ty = t := ⟨_, rfl⟩
     rw [ht] at c1 hd
     clear hdr ht
     by_cases ht0 : t = 0
     ·subst ht0
      rw [show tysOf ((B, i, (0 : Int)) :: (inPl B (i + 1) (ys.drop (i + 1)) ++ blPl (B + 1) (blocks.drop (B + 1)))) = tysOf (inPl B (i + 1) (ys.drop (i + 1)) ++ blPl (B + 1) (blocks.drop (B + 1))) by simp [tysOf]] at hd
      go_wp2_with fail
      exact ⟨⟨i + 1, xs, by omega, by go_num, hown, hd, by omega, hbx, hsz, hBl⟩, by simp [intOf]; omega⟩
     ·have tb : (t != 0) = true := bne_iff_ne.2 ht0
      have hd2 : Kp ((xs ++ [t]) ++ tysOf (inPl B (i + 1) (ys.drop (i + 1)) ++ blPl (B + 1) (blocks.drop (B + 1))) = A) := ⟨by
       rw [← hd.out]
       simp [tysOf, ht0]⟩
      replace hn1 := Kp.mk hn1
      have hx1 : xs.length ≤ 2097152 := by have := hn1.out; omega
      clear hd
      go_wp2_with (at_builtin; refine wpList_append_vals _ rfl _ _ 50 rfl (w.heap.size + 1) 2 i0 (.int .i64 0) 1 8 Tryz.underlying50 hi0 hz0 hz1 hz2 rfl (by decide) _ _ _ rfl (hown.alloc _) (some ⟨wr.heap.size, 0, none⟩) wr.heap.size 0 1 1 [.int .i64 t] rfl (fun _ => rfl) rfl (one_new wr _ _) one_cell (by unfold maxLen; omega) (by omega) (by simp; omega) ?_; intro v2 w2 hown2 hgrow2)
      have hB2 := own_bel (hBl.alloc hBl.size _) (Joins_le (hown.alloc _)) hgrow2 (by simp; omega)
      have hbx2 : w2.heap[w.heap.size]? = some F := by
       rw [hgrow2.block w.heap.size (by simp; omega) (fun e => by have := (hown.lt _ e.symm).1; omega), (MapKept.heap_alloc _ _).2 _ (by omega)]
       exact hbx
      have hsz2 : w.heap.size + 1 ≤ w2.heap.size := by have := hgrow2.size; simp at this; omega
      have hown3 : w2.ownsRow (w.heap.size + 1) 2 1 v2 (xs ++ [t]).length ((xs ++ [t]).map (Value.int .i64)) := by simpa using hown2
      clear hown hown2 hgrow2 hBl hbx
      go_wp2_with fail
      exact ⟨⟨i + 1, xs ++ [t], by omega, by go_num, hown3, hd2, by have := hn1.out; simp; omega, hbx2, hsz2, hB2⟩, by simp [intOf]; omega⟩
    ·rw [inPl_end B i ys (by omega), List.nil_append] at hd
     rw [inPl_end B i ys (by omega)] at hn1
     go_wp2_with fail
     exact ⟨⟨B + 1, xs, by omega, by go_num, hown, hd, by simp at hn1; omega, hbx, hsz, hBl⟩, by simp [intOf]; omega⟩
  ·rw [blPl_end B blocks (by omega)] at hd
   have e : xs = A := by rw [← hd.out]; simp [tysOf]
   replace e := Kp.mk e
   replace hown := Kp.mk hown
   go_wp2_with fail
   go_ret
   exact ⟨_, rfl, ⟨by rw [← e.out]; exact Joins_le hown.out⟩, hBl⟩
end Go.Proofs.YtgdcgjlmkmdklaaGreatDoor
