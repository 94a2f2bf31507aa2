/- Texts of one claim. -/
import Derived.Test.YtgdcgjlmkmdklaaGreatDoorPk0
import Derived.Test.YtgdcgjlmkmdklaaGreatDoorPk9
namespace Go.Proofs.YtgdcgjlmkmdklaaGreatDoor
open Go.ChangeShapes Go.WideShapes Go.ChangeAt Go.RowKit
set_option linter.unusedVariables false
set_option linter.unusedSimpArgs false
abbrev scV (vg vf : Value) (name : ByteArray) (link : Int) (vp : Value) (res : Int) (vb vt : Value) (bk : Int) : Value :=
 .agg #[vg, vf, .string name, .int .i64 link, vp, .int .i64 res, vb, vt, .int .i64 bk]
abbrev scC (vg vf : Value) (name : ByteArray) (link : Int) (vp : Value) (res : Int) (vb vt : Value) (bk : Int) : Obj :=
 Go.Obj.cells #[vg, vf, .string name, .int .i64 link, vp, .int .i64 res, vb, vt, .int .i64 bk] 105
set_option maxRecDepth 100000 in
set_option maxHeartbeats 2000000 in
theorem isOpI (a1 : Option Addr) (ng c1 : Nat) (a2 a3 a4 : Option Addr) (n2 n3 n4 c2 c3 c4 : Nat) (name : ByteArray) (link res bk : Int) (vt : Value) (ts : List Int) (o : OpD) (w : World) {lo : Nat} (ht : Ints lo .i64 w vt ts) (hw : Wid w) (hn : ng ≤ 140737488355328) (h0 : 0 ≤ o.w) (h1 : o.w ≤ 18446744073709551615) :
  Calls Tryz.prog 142 #[scV (.slice a1 ng c1) (.slice a2 n2 c2) name link (.slice a3 n3 c3) res (.slice a4 n4 c4) vt bk, opV4 o] w fun e w' => e = .returned (.bool (opB ng ts o)) ∧ Below w.heap.size w w' := by
 obtain ⟨k, t, i, x⟩ := o
 obtain ⟨bt, ot, ⟨⟨at', ct, rfl, s1, s2⟩, s3⟩, -, hc⟩ := ht.ex
 dsimp only [opV4] at *
 have g1 : (ng : Int) ≤ 140737488355328 := by omega
 have g2 : (ts.length : Int) ≤ 140737488355328 := by omega
 obtain ⟨W0, hW⟩ : ∃ W0, W0 = (w.alloc (scC (.slice a1 ng c1) (.slice a2 n2 c2) name link (.slice a3 n3 c3) res (.slice a4 n4 c4) (.slice at' ts.length ct) bk)).alloc (Go.Obj.cells #[.int .i64 k, .int .i64 t, .int .i64 i, .int .u64 x] 135) := ⟨_, rfl⟩
 have B0 : Below w.heap.size w W0 := by rw [hW]; exact bel_trans (bel_alloc _ _) (bel_alloc _ _)
 have hx : W0.heap[w.heap.size]? = some (scC (.slice a1 ng c1) (.slice a2 n2 c2) name link (.slice a3 n3 c3) res (.slice a4 n4 c4) (.slice at' ts.length ct) bk) := by
  rw [hW]
  exact kept_at (new_at w _) (bel_alloc _ _)
 have h2 : W0.heap[w.heap.size + 1]? = some (Go.Obj.cells #[.int .i64 k, .int .i64 t, .int .i64 i, .int .u64 x] 135) := by
  rw [hW]
  have := new_at (w.alloc (scC (.slice a1 ng c1) (.slice a2 n2 c2) name link (.slice a3 n3 c3) res (.slice a4 n4 c4) (.slice at' ts.length ct) bk)) (Go.Obj.cells #[.int .i64 k, .int .i64 t, .int .i64 i, .int .u64 x] 135)
  rwa [World.size_alloc] at this
 have hw0 := hw.below B0
 have p0 : At W0 (w.heap.size + 1) 0 _ := cells_at h2 rfl
 have p1 : At W0 (w.heap.size + 1) 1 _ := cells_at h2 rfl
 have p2 : At W0 (w.heap.size + 1) 2 _ := cells_at h2 rfl
 have p3 : At W0 (w.heap.size + 1) 3 _ := cells_at h2 rfl
 have q0 : At W0 w.heap.size 0 _ := cells_at hx rfl
 have q7 : At W0 w.heap.size 7 _ := cells_at hx rfl
 have VT : Kp (Calls Tryz.prog 102 #[.int .i64 t] W0 fun e w' => e = .returned (.bool (vtB t)) ∧ w' = W0) := ⟨vtI t W0 hw0⟩
 have IW : Kp (Calls Tryz.prog 155 #[.int .i64 t, .int .u64 x] W0 fun e w' => e = .returned (.bool (isW t x)) ∧ w' = W0) := ⟨isWord_any t x W0 hw0 h0 h1⟩
 clear h2 hx ht hw hw0
 replace hc := Kp.mk hc
 replace s2 := Kp.mk s2
 replace hW := Kp.mk hW
 by_cases e1 : k = 1
 ·subst e1
  have G : Kp (opB ng ts ⟨1, t, i, x⟩ = (decide (i = 0) && isW t x)) := ⟨by simp [opB]⟩
  rw [G.out]
  generalize isW t x = R at *
  by_cases ei : i = 0
  ·subst ei
   exact tl77
  ·have ei' := nb ei
   have G2 : Kp ((decide (i = 0) && R) = false) := ⟨by simp [ei]⟩
   rw [G2.out]
   clear ei
   exact tl77
 by_cases e2 : k = 2
 ·subst e2
  have G : Kp (opB ng ts ⟨2, t, i, x⟩ = (decide (t = 65) && decide (i = 0) && decide (x = 0))) := ⟨by simp [opB]⟩
  rw [G.out]
  go_enter Tryz.func142, Tryz.ntmps142
  go_wp2_with fail
  all_goals
   go_ret
   refine ⟨ret_bool ?_, bel_trans (bel_alloc _ _) (bel_alloc _ _)⟩
   clear hW B0 hc
   simp_all
 by_cases e3 : k = 3
 ·subst e3
  have G : Kp (opB ng ts ⟨3, t, i, x⟩ = (vtB t && (decide (i = 0) && decide (x = 0)))) := ⟨by
   rw [Bool.eq_iff_iff]
   simp [opB]
   constructor
   ·rintro ⟨⟨a, b⟩, c⟩; exact ⟨c, a, b⟩
   ·rintro ⟨c, a, b⟩; exact ⟨⟨a, b⟩, c⟩⟩
  rw [G.out]
  generalize vtB t = R at *
  cases R
  ·rw [Bool.false_and]
   go_enter Tryz.func142, Tryz.ntmps142
   go_wp2_with fail
   rw [← hW.out]
   go_wp2_with fail
   refine VT.out.mono ?_
   rintro e w1 ⟨rfl, rfl⟩
   go_wp2_with fail
   go_ret
   exact ⟨rfl, B0⟩
  ·rw [Bool.true_and]
   go_enter Tryz.func142, Tryz.ntmps142
   go_wp2_with fail
   rw [← hW.out]
   go_wp2_with fail
   refine VT.out.mono ?_
   rintro e w1 ⟨rfl, rfl⟩
   go_wp2_with fail
   all_goals
    go_ret
    refine ⟨ret_bool ?_, B0⟩
    simp_all
 by_cases e5 : k = 5
 ·subst e5
  have IX := Kp.mk (isIx_c i ng W0 hn)
  have G : Kp (opB ng ts ⟨5, t, i, x⟩ = (decide (x = 0) && decide (t = 65) && isIx i ng)) := ⟨by simp [opB, isIx]⟩
  rw [G.out]
  generalize isIx i ng = R at *
  go_enter Tryz.func142, Tryz.ntmps142
  go_wp2_with fail
  rw [← hW.out]
  go_wp2_with fail
  refine IX.out.mono ?_
  rintro e w1 ⟨rfl, hb1⟩
  have p0' := at_keep p0 hb1
  have p1' := at_keep p1 hb1
  have p2' := at_keep p2 hb1
  have p3' := at_keep p3 hb1
  have B1 := bel_trans B0 hb1
  cases R
  ·exact tl126
  ·exact tl126
 by_cases e4 : k = 4
 ·subst e4
  have IX : Kp (∀ w, Calls Tryz.prog 31 #[.int .i64 i, .int .i64 ts.length] w fun e w' => e = .returned (.bool (isIx i ts.length)) ∧ w' = w) := ⟨fun w => isIx_e i ts.length w (by omega)⟩
  by_cases ei : 0 ≤ i ∧ i < ts.length
  ·obtain ⟨i0, i1⟩ := ei
   obtain ⟨n, rfl⟩ := Int.eq_ofNat_of_zero_le i0
   have hlt : n < ts.length := by omega
   obtain rfl := s2.out (by omega)
   have hcn := at_keep (hc.out n hlt) B0
   have hR : isIx n ts.length = true := by simp [isIx, hlt]
   rw [hR] at IX
   have G : Kp (opB ng ts ⟨4, t, n, x⟩ = (decide (x = 0) && decide (ts[n] = t))) := ⟨by simp [opB, hlt, List.getD_eq_getElem?_getD]⟩
   rw [G.out]
   generalize ts[n] = u at *
   by_cases ex : x = 0
   ·subst ex
    by_cases eu : u = t
    ·subst eu
     have G2 : Kp ((decide ((0 : Int) = 0) && decide (u = u)) = true) := ⟨by simp⟩
     rw [G2.out]
     exact tl26
    ·have G2 : Kp ((decide ((0 : Int) = 0) && decide (u = t)) = false) := ⟨by simp [eu]⟩
     rw [G2.out]
     have eu2 : ¬ t = u := fun h => eu h.symm
     exact tl26
   ·have G2 : Kp ((decide (x = 0) && decide (u = t)) = false) := ⟨by simp [ex]⟩
    rw [G2.out]
    have ex2 : ¬ 0 = x := fun h => ex h.symm
    by_cases eu : u = t
    ·subst eu
     exact tl26
    ·have eu2 : ¬ t = u := fun h => eu h.symm
     exact tl26
  ·have hR : isIx i ts.length = false := by simp [isIx]; omega
   rw [hR] at IX
   have G : Kp (opB ng ts ⟨4, t, i, x⟩ = false) := ⟨by rw [Bool.eq_false_iff]; simp [opB]; omega⟩
   rw [G.out]
   clear ei
   exact tl26
 ·have G : Kp (opB ng ts ⟨k, t, i, x⟩ = false) := ⟨by simp [opB, e1, e2, e3, e4, e5]⟩
  rw [G.out]
  have f1 := nb e1
  have f2 := nb e2
  have f3 := nb e3
  have f4 := nb e4
  have f5 := nb e5
  clear e1 e2 e3 e4 e5
  go_enter Tryz.func142, Tryz.ntmps142
  exact tl11
end Go.Proofs.YtgdcgjlmkmdklaaGreatDoor
