/- Draws: two outcomes. -/
import Derived.Test.YtbacbigcecmfbaaDr3
namespace Go.Proofs.Ytbacbigcecmfbaa
open Go.ChangeShapes Go.WideShapes Go.ChangeAt Go.RowKit
open Go.Sort (grow)
set_option linter.unusedVariables false
set_option linter.unusedSimpArgs false
theorem OwnW.alloc {w : World} {base : Nat} {v : Value} {xs : List Int} (h : OwnW w base v xs) (o : Obj) : OwnW (w.alloc o) base v xs := h.keep (bel_alloc w o)
theorem Below.asdB {B S : Nat} {a w w' : World} (h : Below B a w) (k : Asd S w w') (hS : B ≤ S) (hB : B ≤ w.heap.size) : Below B a w' := Asd.bel h k hS hB
/-- Two outcomes in boxes of their own, two empty ones ahead of them, what they print in rows of the call's own. -/
structure Two (w W : World) (A B : Nat) (e : Int) (b : Bool) (o x : Int) (v : Value) (ys : List Int) (s e' : Int) (b' : Bool) (o' x' : Int) (v' : Value) (ys' : List Int) (s' : Int) : Prop where
  r1 : W.heap[w.heap.size]? = some (Go.Obj.cells #[.int .i64 0, .bool false, .int .i64 0, .int .u64 0, .slice none 0 0, .int .i64 0] 32 (0, 0))
  r2 : W.heap[w.heap.size + 1]? = some (Go.Obj.cells #[.int .i64 0, .bool false, .int .i64 0, .int .u64 0, .slice none 0 0, .int .i64 0] 32 (0, 0))
  a : W.heap[A]? = some (Go.Obj.cells #[.int .i64 e, .bool b, .int .i64 o, .int .u64 x, v, .int .i64 s] 32 (0, 0))
  b : W.heap[B]? = some (Go.Obj.cells #[.int .i64 e', .bool b', .int .i64 o', .int .u64 x', v', .int .i64 s'] 32 (0, 0))
  oa : OwnW W w.heap.size v ys
  ob : OwnW W w.heap.size v' ys'
  bel : Below w.heap.size w W
  x0 : 0 ≤ x
  x1 : x ≤ 2
  y0 : 0 ≤ x'
  y1 : x' ≤ 2
  la : ys.length ≤ 3
  lb : ys'.length ≤ 4
  lt : w.heap.size + 1 < A
  lt' : w.heap.size + 1 < B
theorem Two.asd {w W W' : World} {A B : Nat} {e : Int} {b : Bool} {o x : Int} {v : Value} {ys : List Int} {s e' : Int} {b' : Bool} {o' x' : Int} {v' : Value} {ys' : List Int} {s' : Int} (h : Two w W A B e b o x v ys s e' b' o' x' v' ys' s') {S : Nat} (k : Asd S W W') {u : Value} {xs : List Int} {p q : Int} (hs : Src W S u xs p q) (hS : w.heap.size + 1 < S) (hA : A ≠ S) (hB : B ≠ S) : Two w W' A B e b o x v ys s e' b' o' x' v' ys' s' :=
  ⟨k.cells h.r1 (by omega), k.cells h.r2 (by omega), k.cells h.a hA, k.cells h.b hB, h.oa.asd k (uw_ne h.oa hs.box (by decide)), h.ob.asd k (uw_ne h.ob hs.box (by decide)), Asd.bel h.bel k (by omega) (by have := (Array.getElem?_eq_some_iff.1 h.r1).1; omega), h.x0, h.x1, h.y0, h.y1, h.la, h.lb, h.lt, h.lt'⟩
theorem Two.keep {w W W' : World} {A B : Nat} {e : Int} {b : Bool} {o x : Int} {v : Value} {ys : List Int} {s e' : Int} {b' : Bool} {o' x' : Int} {v' : Value} {ys' : List Int} {s' : Int} (h : Two w W A B e b o x v ys s e' b' o' x' v' ys' s') (k : Below W.heap.size W W') : Two w W' A B e b o x v ys s e' b' o' x' v' ys' s' :=
  ⟨keep_cells h.r1 k, keep_cells h.r2 k, keep_cells h.a k, keep_cells h.b k, h.oa.keep k, h.ob.keep k, bel_trans h.bel k, h.x0, h.x1, h.y0, h.y1, h.la, h.lb, h.lt, h.lt'⟩
/-- One cell of the second box turned, but for what is said of its contents. -/
theorem Two.put {w W : World} {A B : Nat} {e : Int} {b : Bool} {o x : Int} {v : Value} {ys : List Int} {s e' : Int} {b' : Bool} {o' x' : Int} {v' : Value} {ys' : List Int} {s' : Int} (h : Two w W A B e b o x v ys s e' b' o' x' v' ys' s') (hAB : A ≠ B) (j : Nat) (u : Value) :
    (W.setCell ⟨B, j, none⟩ u).heap[w.heap.size]? = W.heap[w.heap.size]? ∧ (W.setCell ⟨B, j, none⟩ u).heap[w.heap.size + 1]? = W.heap[w.heap.size + 1]? ∧ (W.setCell ⟨B, j, none⟩ u).heap[A]? = W.heap[A]? ∧ Below w.heap.size w (W.setCell ⟨B, j, none⟩ u) :=
  ⟨heap_set _ _ _ _ _ (by have := h.lt'; omega), heap_set _ _ _ _ _ (by have := h.lt'; omega), heap_set _ _ _ _ _ (fun e => hAB e.symm), h.bel.setCell (by have := h.lt'; show w.heap.size ≤ B; omega) _⟩
/-- The second box is the first one's. -/
theorem Two.copy {w W : World} {A B : Nat} {e : Int} {b : Bool} {o x : Int} {v : Value} {ys : List Int} {s e' : Int} {b' : Bool} {o' x' : Int} {v' : Value} {ys' : List Int} {s' : Int} (h : Two w W A B e b o x v ys s e' b' o' x' v' ys' s') (hAB : A ≠ B) :
    Two w ((((((W.setCell ⟨B, 0, none⟩ (.int .i64 e)).setCell ⟨B, 1, none⟩ (.bool b)).setCell ⟨B, 2, none⟩ (.int .i64 o)).setCell ⟨B, 3, none⟩ (.int .u64 x)).setCell ⟨B, 4, none⟩ v).setCell ⟨B, 5, none⟩ (.int .i64 s)) A B e b o x v ys s e b o x v ys s := by
  have n1 : B ≠ w.heap.size := by have := h.lt'; omega
  have n2 : B ≠ w.heap.size + 1 := by have := h.lt'; omega
  have n3 : B ≠ A := fun e => hAB e.symm
  have hn := uw_ne h.oa h.b (by decide)
  have l1 : w.heap.size ≤ B := by have := h.lt'; omega
  refine ⟨?_, ?_, ?_, set_cells (set_cells (set_cells (set_cells (set_cells (set_cells h.b 0 _) 1 _) 2 _) 3 _) 4 _) 5 _, ?_, ?_, ?_, h.x0, h.x1, h.x0, h.x1, h.la, by have := h.la; omega, h.lt, h.lt'⟩
  · rw [heap_set _ _ _ _ _ n1, heap_set _ _ _ _ _ n1, heap_set _ _ _ _ _ n1, heap_set _ _ _ _ _ n1, heap_set _ _ _ _ _ n1, heap_set _ _ _ _ _ n1]; exact h.r1
  · rw [heap_set _ _ _ _ _ n2, heap_set _ _ _ _ _ n2, heap_set _ _ _ _ _ n2, heap_set _ _ _ _ _ n2, heap_set _ _ _ _ _ n2, heap_set _ _ _ _ _ n2]; exact h.r2
  · rw [heap_set _ _ _ _ _ n3, heap_set _ _ _ _ _ n3, heap_set _ _ _ _ _ n3, heap_set _ _ _ _ _ n3, heap_set _ _ _ _ _ n3, heap_set _ _ _ _ _ n3]; exact h.a
  · exact (((((h.oa.setOther hn _).setOther hn _).setOther hn _).setOther hn _).setOther hn _).setOther hn _
  · exact (((((h.oa.setOther hn _).setOther hn _).setOther hn _).setOther hn _).setOther hn _).setOther hn _
  · exact bel_set (bel_set (bel_set (bel_set (bel_set (bel_set h.bel l1 _) l1 _) l1 _) l1 _) l1 _) l1 _
/-- The second box gets another row. -/
theorem Two.row {w W W' : World} {A B : Nat} {e : Int} {b : Bool} {o x : Int} {v : Value} {ys : List Int} {s e' : Int} {b' : Bool} {o' x' : Int} {v' : Value} {ys' : List Int} {s' : Int} (h : Two w W A B e b o x v ys s e' b' o' x' v' ys' s') (hAB : A ≠ B) {row : Option Nat} (hg : W.grownBy W' row) (hr : ∀ k, row = some k → w.heap.size ≤ k ∧ ∀ arr, W.heap[k]? ≠ some (Go.Obj.cells arr 32 (0, 0))) (hra : row ≠ v.ownBlock ∨ row = none) {u : Value} {zs : List Int} (hu : OwnW W' w.heap.size u zs) (hz : zs.length ≤ 4) :
    Two w (W'.setCell ⟨B, 4, none⟩ u) A B e b o x v ys s e' b' o' x' u zs s' := by
  have n1 : B ≠ w.heap.size := by have := h.lt'; omega
  have n2 : B ≠ w.heap.size + 1 := by have := h.lt'; omega
  have n3 : B ≠ A := fun e => hAB e.symm
  have l1 : w.heap.size ≤ B := by have := h.lt'; omega
  have k1 := grown_cells hg h.r1 (fun e => (hr _ e).2 _ h.r1)
  have k2 := grown_cells hg h.r2 (fun e => (hr _ e).2 _ h.r2)
  have kA := grown_cells hg h.a (fun e => (hr _ e).2 _ h.a)
  have kB := grown_cells hg h.b (fun e => (hr _ e).2 _ h.b)
  have oA : OwnW W' w.heap.size v ys := h.oa.same (fun g hgg => hg.block g (h.oa.lt g hgg).2 (fun e => by
    rcases hra with q | q
    · exact q (by rw [hgg, ← e])
    · rw [q] at e; cases e))
  have bb := h.bel.grown hg (by have := (Array.getElem?_eq_some_iff.1 h.r1).1; omega) (fun k hk => (hr k hk).1)
  refine ⟨?_, ?_, ?_, set_cells kB 4 _, oA.setOther (uw_ne oA kB (by decide)) _, hu.setOther (uw_ne hu kB (by decide)) _, bel_set bb l1 _, h.x0, h.x1, h.y0, h.y1, h.la, hz, h.lt, h.lt'⟩
  · rw [heap_set _ _ _ _ _ n1]; exact k1
  · rw [heap_set _ _ _ _ _ n2]; exact k2
  · rw [heap_set _ _ _ _ _ n3]; exact kA
/-- Six cells of a box turned. -/
abbrev P6 (W : World) (B : Nat) (u0 u1 u2 u3 u4 u5 : Value) : World := (((((W.setCell ⟨B, 0, none⟩ u0).setCell ⟨B, 1, none⟩ u1).setCell ⟨B, 2, none⟩ u2).setCell ⟨B, 3, none⟩ u3).setCell ⟨B, 4, none⟩ u4).setCell ⟨B, 5, none⟩ u5
theorem P6.same {W : World} {B : Nat} {z0 z1 z2 z3 z4 z5 : Value} {T : TypeId} (h : W.heap[B]? = some (Go.Obj.cells #[z0, z1, z2, z3, z4, z5] T (0, 0))) (u0 u1 u2 u3 u4 u5 : Value) : (P6 W B u0 u1 u2 u3 u4 u5).heap[B]? = some (Go.Obj.cells #[u0, u1, u2, u3, u4, u5] T (0, 0)) :=
  set_cells (set_cells (set_cells (set_cells (set_cells (set_cells h 0 u0) 1 u1) 2 u2) 3 u3) 4 u4) 5 u5
theorem P6.other (W : World) (B k : Nat) (u0 u1 u2 u3 u4 u5 : Value) (h : B ≠ k) : (P6 W B u0 u1 u2 u3 u4 u5).heap[k]? = W.heap[k]? := by
  unfold P6
  rw [heap_set _ _ _ _ _ h, heap_set _ _ _ _ _ h, heap_set _ _ _ _ _ h, heap_set _ _ _ _ _ h, heap_set _ _ _ _ _ h, heap_set _ _ _ _ _ h]
theorem P6.bel {H : Nat} {w W : World} (h : Below H w W) {B : Nat} (l : H ≤ B) (u0 u1 u2 u3 u4 u5 : Value) : Below H w (P6 W B u0 u1 u2 u3 u4 u5) :=
  bel_set (bel_set (bel_set (bel_set (bel_set (bel_set h l _) l _) l _) l _) l _) l _
theorem P6.own {W : World} {base B : Nat} {v : Value} {xs : List Int} (h : OwnW W base v xs) (hn : v.ownBlock ≠ some B) (u0 u1 u2 u3 u4 u5 : Value) : OwnW (P6 W B u0 u1 u2 u3 u4 u5) base v xs :=
  (((((h.setOther hn _).setOther hn _).setOther hn _).setOther hn _).setOther hn _).setOther hn _
set_option maxRecDepth 100000 in
set_option maxHeartbeats 8000000 in
theorem drawS (v : Value) (xs : List Int) (w : World) (h : Ints 0 .u8 w v xs) (hb : ∀ i (h : i < xs.length), 0 ≤ xs[i] ∧ xs[i] < 256) (hl : xs.length ≤ 1048576) :
    Calls Try.prog 10 #[v] w fun r w' => ∃ (e : Int) (b : Bool) (o x : Int) (vr : Value) (ys : List Int) (s e' : Int) (b' : Bool) (o' x' : Int) (vr' : Value) (ys' : List Int) (s' : Int), r = .returned (.tuple #[.agg #[.int .i64 e, .bool b, .int .i64 o, .int .u64 x, vr, .int .i64 s], .agg #[.int .i64 e', .bool b', .int .i64 o', .int .u64 x', vr', .int .i64 s']]) ∧ 0 ≤ x ∧ x ≤ 2 ∧ 0 ≤ x' ∧ x' ≤ 2 ∧ ys.length ≤ 3 ∧ ys'.length ≤ 4 ∧ OwnW w' w.heap.size vr ys ∧ OwnW w' w.heap.size vr' ys' ∧ Below w.heap.size w w' := by
  have HI := Kp.mk h
  obtain ⟨va, vc, rfl⟩ := h.slice'
  obtain ⟨i0, hi0, hz0, hz1, hz2⟩ := info_parts infoW
  clear h
  go_enter Try.func10, Try.ntmps10
  go_upto_region 1 with fail
  generalize hV : (w.alloc _).alloc _ = V
  have r1 : V.heap[w.heap.size]? = some (Go.Obj.cells #[.int .i64 0, .bool false, .int .i64 0, .int .u64 0, .slice none 0 0, .int .i64 0] 32 (0, 0)) := by
    rw [← hV]
    exact keep_cells (new_cells w _) (bel_alloc _ _)
  have r2 : V.heap[w.heap.size + 1]? = some (Go.Obj.cells #[.int .i64 0, .bool false, .int .i64 0, .int .u64 0, .slice none 0 0, .int .i64 0] 32 (0, 0)) := by
    rw [← hV]
    have := new_cells (w.alloc (Go.Obj.cells #[.int .i64 0, .bool false, .int .i64 0, .int .u64 0, .slice none 0 0, .int .i64 0] 32 (0, 0))) (Go.Obj.cells #[.int .i64 0, .bool false, .int .i64 0, .int .u64 0, .slice none 0 0, .int .i64 0] 32 (0, 0))
    rw [World.size_alloc] at this
    exact this
  have bV : Below w.heap.size w V := by
    rw [← hV]
    exact bel_trans (bel_alloc _ _) (bel_alloc _ _)
  have sV : Kp (w.heap.size + 1 < V.heap.size) := ⟨(Array.getElem?_eq_some_iff.1 r2).1⟩
  clear hV
  have C1 := Kp.mk (sourceS (.slice va xs.length vc) xs V (HI.out.keep bV) hb hl)
  obtain ⟨S, hS⟩ : ∃ S, S = V.heap.size := ⟨_, rfl⟩
  rw [← hS] at C1
  rw [← hS] at sV
  go_upto_region 2 with (go_at_call 19; go_fit C1.out; rintro r w1 ⟨rfl, sz, hq0, hq1, hs1, hb1⟩)
  rw [← hS]
  rw [hS] at hb1
  replace r1 := keep_cells r1 hb1
  replace r2 := keep_cells r2 hb1
  replace bV := bel_trans bV hb1
  have h1 : S < w1.heap.size := hs1.lt
  have C2 := Kp.mk (outcomeS S _ xs 0 sz w1 hs1 (by decide))
  clear C1 hb1 hS V
  go_upto_region 3 with (go_at_call 20; go_fit C2.out; rintro r w2 ⟨e, b, o, x, va1, ys, s, rfl, hx0, hx1, hl1, O1, A1, p1, hp1, hs2⟩; obtain ⟨ra, rc, rfl⟩ := O1.form)
  have t1 := sV.out
  replace r1 := A1.cells r1 (by omega)
  replace r2 := A1.cells r2 (by omega)
  replace bV := Asd.bel bV A1 (by omega) (by omega)
  have h2 := A1.size
  replace O1 := O1.mono (base' := w.heap.size) (by omega)
  have xA := new_cells w2 (Go.Obj.cells #[.int .i64 e, .bool b, .int .i64 o, .int .u64 x, .slice ra ys.length rc, .int .i64 s] 32 (0, 0))
  have bA := bel_alloc w2 (Go.Obj.cells #[.int .i64 e, .bool b, .int .i64 o, .int .u64 x, .slice ra ys.length rc, .int .i64 s] 32 (0, 0))
  have hA2 := World.size_alloc w2 (Go.Obj.cells #[.int .i64 e, .bool b, .int .i64 o, .int .u64 x, .slice ra ys.length rc, .int .i64 s] 32 (0, 0))
  generalize w2.alloc (Go.Obj.cells #[.int .i64 e, .bool b, .int .i64 o, .int .u64 x, .slice ra ys.length rc, .int .i64 s] 32 (0, 0)) = V2 at *
  obtain ⟨A, hA⟩ : ∃ A, A = w2.heap.size := ⟨_, rfl⟩
  rw [← hA] at xA ⊢
  replace r1 := keep_cells r1 bA
  replace r2 := keep_cells r2 bA
  replace bV := bel_trans bV bA
  replace hs2 := hs2.keep bA
  replace O1 := O1.keep bA
  have AS : A ≠ S := by have := hs1.lt; omega
  have hAw : Kp (w.heap.size + 1 < A) := ⟨by omega⟩
  have hVV : Kp (w.heap.size + 1 < V2.heap.size) := ⟨by omega⟩
  have C3 := Kp.mk (outcomeS S _ xs p1 sz V2 hs2 (by omega))
  clear C2 A1 bA h1 h2 hA hA2 t1
  go_upto_region 4 with (go_at_call 20; go_fit C3.out; rintro r w3 ⟨e', b', o', x', va2, ys', s', rfl, hy0, hy1, hl2, O2, A2, p2, hp2, hs3⟩; obtain ⟨ra', rc', rfl⟩ := O2.form)
  have t1 := sV.out
  have t2 := hAw.out
  have t3 := hVV.out
  replace r1 := A2.cells r1 (by omega)
  replace r2 := A2.cells r2 (by omega)
  replace xA := A2.cells xA AS
  replace bV := Asd.bel bV A2 (by omega) (by omega)
  have h2 := A2.size
  replace O1 := O1.asd A2 (uw_ne O1 hs2.box (by decide))
  replace O2 := O2.mono (base' := w.heap.size) (by omega)
  have xB := new_cells w3 (Go.Obj.cells #[.int .i64 e', .bool b', .int .i64 o', .int .u64 x', .slice ra' ys'.length rc', .int .i64 s'] 32 (0, 0))
  have bB := bel_alloc w3 (Go.Obj.cells #[.int .i64 e', .bool b', .int .i64 o', .int .u64 x', .slice ra' ys'.length rc', .int .i64 s'] 32 (0, 0))
  generalize w3.alloc (Go.Obj.cells #[.int .i64 e', .bool b', .int .i64 o', .int .u64 x', .slice ra' ys'.length rc', .int .i64 s'] 32 (0, 0)) = V3 at *
  obtain ⟨B, hB⟩ : ∃ B, B = w3.heap.size := ⟨_, rfl⟩
  rw [← hB] at xB ⊢
  have BS : B ≠ S := by have := hs3.lt; omega
  have AB : A ≠ B := by have := (Array.getElem?_eq_some_iff.1 xA).1; omega
  have tw : Two w V3 A B e b o x (.slice ra ys.length rc) ys s e' b' o' x' (.slice ra' ys'.length rc') ys' s' := ⟨keep_cells r1 bB, keep_cells r2 bB, keep_cells xA bB, xB, O1.keep bB, O2.keep bB, bel_trans bV bB, hx0, hx1, hy0, hy1, hl1, by omega, hAw.out, by omega⟩
  replace hs3 := hs3.keep bB
  clear C3 A2 bB h2 hB t1 t2 t3 hVV r1 r2 xA xB O1 O2 bV hs2 hs1
  replace tw := Kp.mk tw
  have C4 := Kp.mk (chanceS S _ xs p2 sz 2 V3 hs3 (by omega) (by decide) (by decide))
  go_upto_if 14 with (go_at_call 21; go_fit C4.out; rintro r w4 ⟨c, rfl, A4, hs4⟩)
  replace tw := Kp.mk (tw.out.asd A4 hs3 sV.out AS BS)
  clear C4 A4 hs3
  go_cut [] from 15 to 30 (fun wx => ∃ (e' : Int) (b' : Bool) (o' x' : Int) (v' : Value) (ys' : List Int) (s' : Int), Kp (Two w wx A B e b o x (.slice ra ys.length rc) ys s e' b' o' x' v' ys' s'))
  case first =>
    cases c
    · go_wp2_with fail
      go_meet
      exact ⟨_, _, _, _, _, _, _, tw⟩
    · have g0 := at_cells (j := 0) tw.out.a rfl
      have g1 := at_cells (j := 1) tw.out.a rfl
      have g2 := at_cells (j := 2) tw.out.a rfl
      have g3 := at_cells (j := 3) tw.out.a rfl
      have g4 := at_cells (j := 4) tw.out.a rfl
      have g5 := at_cells (j := 5) tw.out.a rfl
      have k0 := at_cells (j := 0) tw.out.b rfl
      have k1 := at_cells (j := 1) tw.out.b rfl
      have k2 := at_cells (j := 2) tw.out.b rfl
      have k3 := at_cells (j := 3) tw.out.b rfl
      have k4 := at_cells (j := 4) tw.out.b rfl
      have k5 := at_cells (j := 5) tw.out.b rfl
      have fB := rw_cells tw.out.b
      have tz := Kp.mk (tw.out.copy AB)
      have zS : ∀ (u0 u1 u2 u3 u4 u5 : Value), ((((((w4.setCell ⟨B, 0, none⟩ u0).setCell ⟨B, 1, none⟩ u1).setCell ⟨B, 2, none⟩ u2).setCell ⟨B, 3, none⟩ u3).setCell ⟨B, 4, none⟩ u4).setCell ⟨B, 5, none⟩ u5).heap[S]? = w4.heap[S]? := fun _ _ _ _ _ _ => by
        rw [heap_set _ _ _ _ _ BS, heap_set _ _ _ _ _ BS, heap_set _ _ _ _ _ BS, heap_set _ _ _ _ _ BS, heap_set _ _ _ _ _ BS, heap_set _ _ _ _ _ BS]
      have zS' := (zS (.int .i64 e) (.bool b) (.int .i64 o) (.int .u64 x) (.slice ra ys.length rc) (.int .i64 s)).trans hs4.box
      have hp4 := hs4.pos
      clear zS
      go_upto_region 6 with fail
      generalize (((((w4.setCell ⟨B, 0, none⟩ (.int .i64 e)).setCell ⟨B, 1, none⟩ (.bool b)).setCell ⟨B, 2, none⟩ (.int .i64 o)).setCell ⟨B, 3, none⟩ (.int .u64 x)).setCell ⟨B, 4, none⟩ (.slice ra ys.length rc)).setCell ⟨B, 5, none⟩ (.int .i64 s) = Z at *
      clear g0 g1 g2 g3 g4 g5 k0 k1 k2 k3 k4 k5 fB tw hs4
      have g4 := at_cells (j := 4) tz.out.a rfl
      have fB := rw_cells tz.out.b
      -- the copy of what the first one prints
      have bX := bel_alloc Z (Go.Obj.cells #[] 22 (0, 0))
      have sZ : Kp (w.heap.size ≤ Z.heap.size) := ⟨by have := (Array.getElem?_eq_some_iff.1 tz.out.r1).1; omega⟩
      have hX : Kp ((Z.alloc (Go.Obj.cells #[] 22 (0, 0))).ownsRow Z.heap.size 22 1 (.slice (some ⟨Z.heap.size, 0, none⟩) 0 0) 0 []) := ⟨World.ownsRow_made (base := Z.heap.size) (e := 22) (size := 1) Z #[] 0 (Nat.le_refl _) (Nat.zero_le _) rfl⟩
      obtain ⟨rb, ro, ⟨⟨ra2, rc2, ee, hr1, hr2⟩, hr3⟩, -, hrc⟩ := (tz.out.oa.bytes (by have := tz.out.la; omega)).ex
      injection ee with ee1 ee2 ee3
      subst ee1
      subst ee3
      have hla := tz.out.la
      replace hr2 := Kp.mk hr2
      replace hrc := Kp.mk (fun i (hi : i < ys.length) => at_keep (hrc i hi) bX)
      have gX : (Z.alloc (Go.Obj.cells #[] 22 (0, 0))).cell? ⟨A, 4, none⟩ = some (.slice ra ys.length rc) := at_keep g4 bX
      go_wp2_with (first
        | (at_builtin; refine wpList_append_vals _ rfl _ _ 25 rfl Z.heap.size 22 i0 (.int .u64 0) 1 8 Try.underlying25 hi0 hz0 hz1 hz2 rfl (by decide) _ _ _ rfl hX.out ra rb ro ys.length rc (ys.map (Value.int .u64)) rfl hr2.out ?qc1 ?qc2 ?qc3 ?qc4 ?qc5 ?qc6 ?_))
      case qc2 => intro j hj; exact hrc.out j (by simpa using hj)
      case qc3 => intro u hu; rfl
      case qc4 => unfold maxLen; omega
      case qc5 => omega
      intro v5 w5 hown hgrow
      have O5' : OwnW w5 Z.heap.size v5 ys := by unfold OwnW; simpa using hown
      have O5 : OwnW w5 w.heap.size v5 ys := O5'.mono sZ.out
      have hap : Kp (v5.ownBlock ≠ (Value.slice ra ys.length rc).ownBlock ∨ v5.ownBlock = none) := ⟨by
        cases hv : v5.ownBlock with
        | none => exact .inr rfl
        | some g =>
          refine .inl fun he => ?_
          have h1 := (O5'.lt g hv).1
          have h2 := (tz.out.oa.lt g he.symm).2
          omega⟩
      have zX := keep_cells zS' bX
      have szX : S < Z.heap.size := (Array.getElem?_eq_some_iff.1 zS').1
      have z5 := grown_cells hgrow zX (by simp [Value.ownBlock]; omega)
      have tX := tz.out.keep bX
      have nX := new_cells Z (Go.Obj.cells #[] 22 (0, 0))
      have t6 := tX.row AB hgrow (fun k hk => by
        have hk' : k = Z.heap.size := by simpa [Value.ownBlock] using hk.symm
        subst hk'
        refine ⟨sZ.out, fun arr he => ?_⟩
        rw [nX] at he
        injection he with he
        injection he with _ he
        exact absurd he (by decide)) (.inl (fun he => by
        have := (tz.out.oa.lt Z.heap.size he.symm).2
        omega)) O5 (by omega)
      obtain ⟨a5, k5', rfl⟩ := O5.form
      have m5 := grown_cells hgrow (keep_cells tz.out.b bX) (fun e => by
        have hk' : Z.heap.size = B := by simpa [Value.ownBlock] using e
        have := (Array.getElem?_eq_some_iff.1 tz.out.b).1
        omega)
      have q4 := at_cells (j := 4) m5 rfl
      have f5 := rw_cells m5
      have z6 : (w5.setCell ⟨B, 4, none⟩ (.slice a5 ys.length k5')).heap[S]? = _ := (heap_set _ _ _ _ _ BS).trans z5
      clear hown hgrow O5 O5' zX szX z5 tX nX m5 hX hr2 hrc gX g4 fB tz zS' bX sZ hla
      replace t6 := Kp.mk t6
      go_upto_region 7 with fail
      generalize w5.setCell ⟨B, 4, none⟩ (.slice a5 ys.length k5') = Z2 at *
      clear q4 f5
      have s6 : Src Z2 S (.slice va xs.length vc) xs _ sz := ⟨z6, HI.out.keep t6.out.bel, hb, hl, hp4⟩
      have C7 := Kp.mk (chanceS S _ xs _ sz 3 Z2 s6 (by omega) (by decide) (by decide))
      go_upto_if 22 with (go_at_call 21; go_fit C7.out; rintro r w7 ⟨c7, rfl, A7, hs7⟩)
      replace t6 := Kp.mk (t6.out.asd A7 s6 sV.out AS BS)
      clear C7 A7 s6 z6
      cases c7
      · go_wp2_with fail
        go_meet
        exact ⟨_, _, _, _, _, _, _, t6⟩
      · go_upto_region 8 with fail
        have hBD := (Below.refl w7.heap.size w7).drew
        have tD := Kp.mk (t6.out.keep hBD)
        have sD := hs7.keep hBD
        have hq7 := hs7.pos
        have hla := t6.out.la
        have cD : w7.drew.cell? ⟨B, 4, none⟩ = some (.slice a5 ys.length k5') := at_cells tD.out.b rfl
        have C8 := Kp.mk (nextS S _ xs _ sz 3 _ sD (by omega) (by decide) (by decide))
        clear t6 hs7
        go_region_law (first
          | (go_simp; go_at_call 22; go_fit C8.out; rintro r w8 ⟨t, rfl, hd8, ha8, hs8⟩; have t8 := tD.out.asd ha8 sD sV.out AS BS; have c8 : w8.cell? ⟨B, 4, none⟩ = some (.slice a5 ys.length k5') := at_cells t8.b rfl; have b89 := bel_alloc w8 (Go.Obj.cells #[.int .u64 (IntKind.u64.wrap t)] 22 (0, 0)); have t9 := t8.keep b89; have c9 : (w8.alloc (Go.Obj.cells #[.int .u64 (IntKind.u64.wrap t)] 22 (0, 0))).cell? ⟨B, 4, none⟩ = some (.slice a5 ys.length k5') := at_cells t9.b rfl; have hw8 : w.heap.size ≤ w8.heap.size := by { have := (Array.getElem?_eq_some_iff.1 t8.r1).1; omega }; obtain ⟨v9, w9, hrun, hown, hgrow⟩ := run_append_vals (P := Try.prog) (w8.alloc (Go.Obj.cells #[.int .u64 (IntKind.u64.wrap t)] 22 (0, 0))) w.heap.size 25 25 22 i0 (.int .u64 0) 1 8 Try.underlying25 hi0 hz0 hz1 hz2 rfl (by decide) _ _ _ (World.ownsRow.alloc t8.ob _) (some ⟨w8.heap.size, 0, none⟩) w8.heap.size 0 1 1 [.int .u64 (IntKind.u64.wrap t)] (fun _ => rfl) rfl (one_new w8 _ _) one_cell (by unfold maxLen; omega) (by omega) (by rw [World.size_alloc]; omega); have O9 : OwnW w9 w.heap.size v9 (ys ++ [IntKind.u64.wrap t]) := by { unfold OwnW; simpa using hown }; have t10 := t9.row AB hgrow (fun k hk => ⟨(t8.ob.lt k hk).1, fun arr he => uw_ne t9.ob he (by decide) hk⟩) hap.out O9 (by simp; omega); have m9 := grown_cells hgrow t9.b (uw_ne t9.ob t9.b (by decide)); obtain ⟨a9, k9, e9⟩ := O9.form; subst e9; have c10 : w9.cell? ⟨B, 4, none⟩ = some (.slice a5 ys.length k5') := at_cells m9 rfl; have f10 := rw_cells m9; replace t10 := Kp.mk t10; replace hrun := Kp.mk hrun; clear hown hgrow m9 O9 t9 t8 b89 hw8 hd8 ha8 hs8; dsimp only)
          | (refine step_append_run rfl (.tmp 24) (.tmp 28) 25 rfl (by simp [Act.eval, Act.put]) (by simp [Act.eval, Act.put]) hrun.out ?_))
        all_goals
          go_wp2_with fail
          go_meet
          rw [show (ys ++ [IntKind.u64.wrap t]).length = ys.length + 1 by simp] at t10
          exact ⟨_, _, _, _, _, _, _, t10⟩
  case rest =>
    obtain ⟨e1, b1, o1, x1, v1, ys1, s1, tw1⟩ := hcut
    clear tw hs4 HI hi0 hz0 hz1 hz2 hb hl
    obtain ⟨ra1, rc1, rfl⟩ := tw1.out.ob.form
    go_upto_region 9 with fail
    have tD := tw1
    clear tw1
    have n1 : ¬ A = w.heap.size := by have := tD.out.lt; omega
    have n2 : ¬ B = w.heap.size := by have := tD.out.lt'; omega
    have n3 : ¬ A = w.heap.size + 1 := by have := tD.out.lt; omega
    have n4 : ¬ B = w.heap.size + 1 := by have := tD.out.lt'; omega
    have p0 := at_cells (j := 0) tD.out.a rfl
    have p1 := at_cells (j := 1) tD.out.a rfl
    have p2 := at_cells (j := 2) tD.out.a rfl
    have p3 := at_cells (j := 3) tD.out.a rfl
    have p4 := at_cells (j := 4) tD.out.a rfl
    have p5 := at_cells (j := 5) tD.out.a rfl
    have q0 := at_cells (j := 0) tD.out.b rfl
    have q1 := at_cells (j := 1) tD.out.b rfl
    have q2 := at_cells (j := 2) tD.out.b rfl
    have q3 := at_cells (j := 3) tD.out.b rfl
    have q4 := at_cells (j := 4) tD.out.b rfl
    have q5 := at_cells (j := 5) tD.out.b rfl
    have l0 := at_cells (j := 0) tD.out.r1 rfl
    have l1 := at_cells (j := 1) tD.out.r1 rfl
    have l2 := at_cells (j := 2) tD.out.r1 rfl
    have l3 := at_cells (j := 3) tD.out.r1 rfl
    have l4 := at_cells (j := 4) tD.out.r1 rfl
    have l5 := at_cells (j := 5) tD.out.r1 rfl
    have m0 := at_cells (j := 0) tD.out.r2 rfl
    have m1 := at_cells (j := 1) tD.out.r2 rfl
    have m2 := at_cells (j := 2) tD.out.r2 rfl
    have m3 := at_cells (j := 3) tD.out.r2 rfl
    have m4 := at_cells (j := 4) tD.out.r2 rfl
    have m5 := at_cells (j := 5) tD.out.r2 rfl
    have f1 := rw_cells tD.out.r1
    have f2 := rw_cells tD.out.r2
    go_region
    have y1 := (P6.other (P6 wc w.heap.size (.int .i64 e) (.bool b) (.int .i64 o) (.int .u64 x) (.slice ra ys.length rc) (.int .i64 s)) (w.heap.size + 1) w.heap.size (.int .i64 e1) (.bool b1) (.int .i64 o1) (.int .u64 x1) (.slice ra1 ys1.length rc1) (.int .i64 s1) (by omega)).trans (P6.same tD.out.r1 (.int .i64 e) (.bool b) (.int .i64 o) (.int .u64 x) (.slice ra ys.length rc) (.int .i64 s))
    have y2 := P6.same ((P6.other wc w.heap.size (w.heap.size + 1) (.int .i64 e) (.bool b) (.int .i64 o) (.int .u64 x) (.slice ra ys.length rc) (.int .i64 s) (by omega)).trans tD.out.r2) (.int .i64 e1) (.bool b1) (.int .i64 o1) (.int .u64 x1) (.slice ra1 ys1.length rc1) (.int .i64 s1)
    have yA := P6.own (P6.own tD.out.oa (uw_ne tD.out.oa tD.out.r1 (by decide)) (.int .i64 e) (.bool b) (.int .i64 o) (.int .u64 x) (.slice ra ys.length rc) (.int .i64 s)) (B := w.heap.size + 1) (uw_ne tD.out.oa tD.out.r2 (by decide)) (.int .i64 e1) (.bool b1) (.int .i64 o1) (.int .u64 x1) (.slice ra1 ys1.length rc1) (.int .i64 s1)
    have yB := P6.own (P6.own tD.out.ob (uw_ne tD.out.ob tD.out.r1 (by decide)) (.int .i64 e) (.bool b) (.int .i64 o) (.int .u64 x) (.slice ra ys.length rc) (.int .i64 s)) (B := w.heap.size + 1) (uw_ne tD.out.ob tD.out.r2 (by decide)) (.int .i64 e1) (.bool b1) (.int .i64 o1) (.int .u64 x1) (.slice ra1 ys1.length rc1) (.int .i64 s1)
    have yb := P6.bel (P6.bel tD.out.bel (Nat.le_refl _) (.int .i64 e) (.bool b) (.int .i64 o) (.int .u64 x) (.slice ra ys.length rc) (.int .i64 s)) (B := w.heap.size + 1) (by omega) (.int .i64 e1) (.bool b1) (.int .i64 o1) (.int .u64 x1) (.slice ra1 ys1.length rc1) (.int .i64 s1)
    generalize hY : ((((((((((((wc.setCell _ _).setCell _ _).setCell _ _).setCell _ _).setCell _ _).setCell _ _).setCell _ _).setCell _ _).setCell _ _).setCell _ _).setCell _ _).setCell _ _) = Y
    replace y1 : Y.heap[w.heap.size]? = some (Go.Obj.cells #[.int .i64 e, .bool b, .int .i64 o, .int .u64 x, .slice ra ys.length rc, .int .i64 s] 32 (0, 0)) := by rw [← hY]; exact y1
    replace y2 : Y.heap[w.heap.size + 1]? = some (Go.Obj.cells #[.int .i64 e1, .bool b1, .int .i64 o1, .int .u64 x1, .slice ra1 ys1.length rc1, .int .i64 s1] 32 (0, 0)) := by rw [← hY]; exact y2
    replace yA : OwnW Y w.heap.size (.slice ra ys.length rc) ys := by rw [← hY]; exact yA
    replace yB : OwnW Y w.heap.size (.slice ra1 ys1.length rc1) ys1 := by rw [← hY]; exact yB
    replace yb : Below w.heap.size w Y := by rw [← hY]; exact yb
    clear hY
    clear p0 p1 p2 p3 p4 p5 q0 q1 q2 q3 q4 q5 l0 l1 l2 l3 l4 l5 m0 m1 m2 m3 m4 m5 f1 f2
    have c0 := at_cells (j := 0) y1 rfl
    have c1 := at_cells (j := 1) y1 rfl
    have c2 := at_cells (j := 2) y1 rfl
    have c3 := at_cells (j := 3) y1 rfl
    have c4 := at_cells (j := 4) y1 rfl
    have c5 := at_cells (j := 5) y1 rfl
    have d0 := at_cells (j := 0) y2 rfl
    have d1 := at_cells (j := 1) y2 rfl
    have d2 := at_cells (j := 2) y2 rfl
    have d3 := at_cells (j := 3) y2 rfl
    have d4 := at_cells (j := 4) y2 rfl
    have d5 := at_cells (j := 5) y2 rfl
    go_wp2_with fail
    have bd := (Below.refl Y.heap.size Y).drew
    refine bodyPost_ret (v := .tuple #[.agg #[.int .i64 e, .bool b, .int .i64 o, .int .u64 x, .slice ra ys.length rc, .int .i64 s], .agg #[.int .i64 e1, .bool b1, .int .i64 o1, .int .u64 x1, .slice ra1 ys1.length rc1, .int .i64 s1]]) (by simp [results, Try.results10, go_sem, c0, c1, c2, c3, c4, c5, d0, d1, d2, d3, d4, d5]) rfl ?_
    exact ⟨_, _, _, _, _, ys, _, _, _, _, _, _, ys1, _, rfl, tD.out.x0, tD.out.x1, tD.out.y0, tD.out.y1, tD.out.la, tD.out.lb, yA.keep bd, yB.keep bd, bel_trans yb bd⟩
end Go.Proofs.Ytbacbigcecmfbaa
