/- The program's writer: bits and pieces put. -/
import Derived.Test.YtfagafglloopbaaBi1
namespace Go.Proofs.Ytfagafglloopbaa
open Go.ChangeShapes Go.WideShapes Go.ChangeAt Go.RowKit
open Go.Sort (grow)
set_option linter.unusedVariables false
set_option linter.unusedSimpArgs false
/-- A writer: its two cells in the block B; its bytes, of c bits, in memory of its own from base on. -/
structure Wtr (T : TypeId) (base : Nat) (w : World) (B : Nat) (xs : List Int) (c : Nat) : Prop where
  ex : ∃ v, w.heap[B]? = some (Go.Obj.cells #[v, .int .i64 c] T (0, 0)) ∧ OwnB w base v xs
set_option maxRecDepth 100000 in
set_option maxHeartbeats 2000000 in
theorem putI (B : Nat) (v : Int) (n : Nat) (xs : List Int) (c base : Nat) (w : World) (h : Wtr 45 base w B xs c) (hb : base ≤ B) (v0 : 0 ≤ v) (v1 : v < 18446744073709551616) (n1 : n ≤ 64) (hc : c ≤ 281474976710656) (hs : Snd xs c) :
    Calls Try.prog 26 #[.pointer (some ⟨B, 0, none⟩), .int .u64 v, .int .i64 n] w fun e w' => e = .returned (.tuple #[]) ∧ Wtr 45 base w' B (putB xs c v n) (c + n) ∧ Below base w w' := by
  obtain ⟨i0, hi0, hz0, hz1, hz2⟩ := info_parts info8
  have hbw : base ≤ w.heap.size := by obtain ⟨sv, hbx, -⟩ := h.ex; have := (Array.getElem?_eq_some_iff.1 hbx).1; omega
  have HS := Kp.mk (fun i => hs.put v i)
  have H0 := Kp.mk h
  clear hs h
  go_enter Try.func26, Try.ntmps26
  go_wp2_with fail
  go_loopw [1, 8] (fun s r wr => ∃ (i : Nat), i ≤ n ∧ r = .int .i64 i ∧ s = .int .u64 (v / 2 ^ i) ∧ Wtr 45 base wr B (putB xs c v i) (c + i) ∧ Below base w wr) (fun _ r _ => n - (intOf r).toNat)
  case atStart => exact ⟨0, Nat.zero_le _, rfl, by simp, H0.out, Below.refl _ _⟩
  case round =>
    obtain ⟨i, hi, rfl, rfl, hW, hB⟩ := hrel
    by_cases hlt : i < n
    · have hs := HS.out i
      obtain ⟨ys, hys⟩ : ∃ ys, Kp (ys = putB xs c v i) := ⟨_, ⟨rfl⟩⟩
      obtain ⟨k, hk⟩ : ∃ k, Kp (k = c + i) := ⟨_, ⟨rfl⟩⟩
      rw [← hys.out, ← hk.out] at hW hs
      have hk1 : k ≤ 281474976710720 := by have := hk.out; omega
      obtain ⟨u, hu⟩ : ∃ u, Kp (u = v / 2 ^ i) := ⟨_, ⟨rfl⟩⟩
      have hu0 : 0 ≤ u ∧ u < 18446744073709551616 := by
        rw [hu.out]
        have hp : (1 : Int) ≤ 2 ^ i := by have : (0 : Int) < 2 ^ i := Int.pow_pos (by decide); omega
        exact ⟨Int.ediv_nonneg v0 (by omega), Int.lt_of_le_of_lt (Int.ediv_le_self _ v0) v1⟩
      obtain ⟨u0, u1⟩ := hu0
      rw [← hu.out]
      have hlen := hs.len
      have fin : ∀ (x : Int) (W : World) (g cap : Nat), (W.heap[B]? = some (Go.Obj.cells #[.slice (some ⟨g, 0, none⟩) (pushB ys k (u % 2)).length cap, .int .i64 ((k : Int) + 1)] 45 (0, 0))) → OwnB W base (.slice (some ⟨g, 0, none⟩) (pushB ys k (u % 2)).length cap) (pushB ys k (u % 2)) → Wtr 45 base W B (putB xs c v (i + 1)) (c + (i + 1)) := fun x W g cap h1 h2 => by
        have e1 : putB xs c v (i + 1) = pushB ys k (u % 2) := by rw [hys.out, hk.out, hu.out]; rfl
        rw [e1]
        exact ⟨_, by rw [h1, hk.out]; push_cast; rw [Int.add_assoc], h2⟩
      replace fin := Kp.mk fin
      obtain ⟨sv, hbx, hown⟩ := hW.ex
      have hne := u8_ne hown hbx (by decide)
      have hBl := (Array.getElem?_eq_some_iff.1 hbx).1
      have y0 : wr.cell? ⟨B, 0, none⟩ = some sv := at_cells hbx rfl
      have y1 : wr.cell? ⟨B, 1, none⟩ = some (.int .i64 k) := at_cells hbx rfl
      have f0 := rw_cells hbx
      have hb0 := base
      by_cases h8 : k % 8 = 0
      · have e8 : ((k : Int) % 8 == 0) = true := by simp; omega
        have hl2 : ¬ k / 8 < ys.length := by omega
        have hlt8 : Kp (k / 8 = ys.length) := ⟨by omega⟩
        have hq8 : k / 8 < ys.length + 1 := by omega
        replace hlen := Kp.mk hlen
        have hor := Kp.mk (or8 0 (u % 2) (k % 8) (by omega) (by omega) (by rw [h8]; decide) (by omega) (by omega))
        have hand := Kp.mk (and1 u u0 u1)
        have ha : u % 2 % 256 = u % 2 := by omega
        have hpe : Kp (pushB ys k (u % 2) = (ys ++ [0]).set (k / 8) (0 + u % 2 * 2 ^ (k % 8))) := ⟨by unfold pushB; simp [h8]⟩
        have hall := Kp.mk (hown.alloc (Go.Obj.cells #[.int .u8 0] 5 (0, 0)))
        have hyl : ys.length ≤ 35184372088840 := by omega
        have HYL := Kp.mk hyl
        replace h8 := Kp.mk h8
        have hlem : Kp (∀ v2 w2, w2.ownsRow base 5 1 v2 (ys.length + 1) (ys.map (Value.int .u8) ++ [.int .u8 0]) → (wr.alloc (Go.Obj.cells #[.int .u8 0] 5 (0, 0))).grownBy w2 sv.ownBlock → ∃ g cap, v2 = .slice (some ⟨g, 0, none⟩) (ys.length + 1) cap ∧ (ys.length + 1 ≤ cap ∧ base ≤ g) ∧ Kp (OwnB w2 base (.slice (some ⟨g, 0, none⟩) (ys ++ [0]).length cap) (ys ++ [0])) ∧ Below base w w2 ∧ w2.heap[B]? = some (Go.Obj.cells #[sv, .int .i64 k] 45 (0, 0))) := ⟨fun v2 w2 h1 h2 => by
          have hO : OwnB w2 base v2 (ys ++ [0]) := by unfold OwnB; simpa using h1
          obtain ⟨g, cap, rfl, hg1, hg2, hg3⟩ := hO.shape (by simp)
          refine ⟨g, cap, by simp, ⟨by simpa using hg3, hg1⟩, ⟨hO⟩, own_bel (hB.alloc (by omega) _) hall.out h2 (by simp; omega), ?_⟩
          rw [h2.block B (by simp; omega) (fun e => hne e.symm), (MapKept.heap_alloc _ _).2 _ hBl]
          exact hbx⟩
        go_upto_region 4 with fail
        go_wp2_with (at_builtin; refine wpList_append_vals _ rfl _ _ 22 rfl base 5 i0 (.int .u8 0) 1 1 Try.underlying22 hi0 hz0 hz1 hz2 rfl (by decide) _ _ _ rfl hall.out (some ⟨wr.heap.size, 0, none⟩) wr.heap.size 0 1 1 [.int .u8 0] rfl (fun _ => rfl) rfl (one_new wr _ _) one_cell (by unfold maxLen; omega) (by omega) (by simp; omega) ?_; intro v2 w2 hown2 hgrow2; obtain ⟨g, cap, rfl, ⟨hcp, hg1⟩, O2, hB2, hbx2⟩ := hlem.out v2 w2 hown2 hgrow2; have y20 : w2.cell? ⟨B, 0, none⟩ = some sv := at_cells hbx2 rfl; have y21 : w2.cell? ⟨B, 1, none⟩ = some (.int .i64 k) := at_cells hbx2 rfl; have f20 := rw_cells hbx2)
        have hgB : g ≠ B := by
          rintro rfl
          exact u8_ne O2.out hbx2 (by decide) rfl
        obtain ⟨V, hV⟩ : ∃ V, V = w2.setCell ⟨B, 0, none⟩ (.slice (some ⟨g, 0, none⟩) (ys.length + 1) cap) := ⟨_, rfl⟩
        have xV : V.heap[B]? = some (Go.Obj.cells #[.slice (some ⟨g, 0, none⟩) (ys.length + 1) cap, .int .i64 k] 45 (0, 0)) := by
          rw [hV]
          exact set_cells hbx2 0 _
        have oV : Kp (OwnB V base (.slice (some ⟨g, 0, none⟩) (ys ++ [0]).length cap) (ys ++ [0])) := ⟨by
          rw [hV]
          exact O2.out.setOther (by simp [Value.ownBlock]; exact hgB) _⟩
        have hBV : Below base w V := by rw [hV]; exact bel_set hB2 hb _
        have y0V : V.cell? ⟨B, 0, none⟩ = some (.slice (some ⟨g, 0, none⟩) (ys.length + 1) cap) := at_cells xV rfl
        have y1V : V.cell? ⟨B, 1, none⟩ = some (.int .i64 k) := at_cells xV rfl
        have f0V := rw_cells xV
        have cV : V.cell? ⟨g, k / 8, none⟩ = some (.int .u8 0) := by rw [oV.out.at (k / 8) (by simpa using hq8)]; simp [hlt8.out]
        have gV := oV.out.frozenAt (k / 8)
        have hneV : (Value.slice (some ⟨g, 0, none⟩) (ys.length + 1) cap).ownBlock ≠ some B := by simp [Value.ownBlock]; exact hgB
        have hst := Kp.mk (fun z => oV.out.store (k / 8) z)
        have el : (ys ++ [0]).length = ys.length + 1 := by simp
        rw [el] at hst
        clear hlem hall hB2 hbx hown y0 y1 f0 hne hB HS H0 y0V y1V f0V cV gV
        rw [← hV]
        have y0V : V.cell? ⟨B, 0, none⟩ = some (.slice (some ⟨g, 0, none⟩) (ys.length + 1) cap) := at_cells xV rfl
        have y1V : V.cell? ⟨B, 1, none⟩ = some (.int .i64 k) := at_cells xV rfl
        have f0V := rw_cells xV
        have cV : V.cell? ⟨g, k / 8, none⟩ = some (.int .u8 0) := by rw [oV.out.at (k / 8) (by simpa using hq8)]; simp [hlt8.out]
        have gV := oV.out.frozenAt (k / 8)
        clear hV hbx2 y20 y21 f20 O2
        go_region
        rw [hand.out, ha, hor.out]
        have hst2 := hst.out (0 + u % 2 * 2 ^ (k % 8))
        obtain ⟨X, hX⟩ : ∃ X, X = (V.setCell ⟨g, k / 8, none⟩ (.int .u8 (0 + u % 2 * 2 ^ (k % 8)))).drew := ⟨_, rfl⟩
        rw [← hX]
        have xB : X.heap[B]? = some (Go.Obj.cells #[.slice (some ⟨g, 0, none⟩) (ys.length + 1) cap, .int .i64 k] 45 (0, 0)) := by
          rw [hX]
          exact (heap_set _ _ _ _ _ (fun e => hneV (by simp [Value.ownBlock, e]))).trans xV
        have xO : Kp (OwnB X base (.slice (some ⟨g, 0, none⟩) (ys.length + 1) cap) ((ys ++ [0]).set (k / 8) (0 + u % 2 * 2 ^ (k % 8)))) := ⟨by rw [hX]; exact hst2.keep (Below.refl _ _).drew⟩
        have xb : Below base w X := by rw [hX]; exact (bel_set hBV hg1 _).drew
        have z0 : X.cell? ⟨B, 0, none⟩ = some (.slice (some ⟨g, 0, none⟩) (ys.length + 1) cap) := at_cells xB rfl
        have z1 : X.cell? ⟨B, 1, none⟩ = some (.int .i64 k) := at_cells xB rfl
        have g0 := rw_cells xB
        have xS := set_cells xB 1 (.int .i64 ((k : Int) + 1))
        have xbb : Below base w (X.setCell ⟨B, 1, none⟩ (.int .i64 ((k : Int) + 1))) := bel_set xb hb _
        have xo2 := Kp.mk (xO.out.setOther (j := 1) (B := B) hneV (.int .i64 ((k : Int) + 1)))
        have xl : ((ys ++ [0]).set (k / 8) (0 + u % 2 * 2 ^ (k % 8))).length = ys.length + 1 := by simp
        have fin2 : Kp (Wtr 45 base (X.setCell ⟨B, 1, none⟩ (.int .i64 ((k : Int) + 1))) B (putB xs c v (i + 1)) (c + (i + 1))) := ⟨fin.out 0 _ g cap (by rw [hpe.out, xl]; exact xS) (by rw [hpe.out, xl]; exact xo2.out)⟩
        have hv : Kp (v / 2 ^ (i + 1) = u / 2) := ⟨by rw [hu.out, Int.pow_succ, Int.ediv_ediv_of_nonneg (by have : (0 : Int) < 2 ^ i := Int.pow_pos (by decide); omega)]⟩
        clear hX hst2 xB xO xb xS xo2 hor hand hst hpe fin y0V y1V f0V gV cV xV oV hBV
        go_wp2_with fail
        exact ⟨⟨i + 1, by omega, by go_num, by rw [hv.out], fin2.out, xbb⟩, by simp [intOf]; omega⟩
      · have e8 : ((k : Int) % 8 == 0) = false := by simp; omega
        have hl2 : k / 8 < ys.length := by omega
        obtain ⟨g, cap, rfl, hg1, hg2, hg3⟩ := hown.shape (by omega)
        have hx := hown.at _ hl2
        have hx1 := hs.byte _ hl2
        have hx2 := hs.last h8 hl2
        obtain ⟨x, hxe⟩ : ∃ x, Kp (x = ys[k / 8]) := ⟨_, ⟨rfl⟩⟩
        rw [← hxe.out] at hx hx1 hx2
        have fg := hown.frozenAt (k / 8)
        have hor := Kp.mk (or8 x (u % 2) (k % 8) (by omega) hx1.1 hx2 (by omega) (by omega))
        have hand := Kp.mk (and1 u u0 u1)
        have ha : u % 2 % 256 = u % 2 := by omega
        have hst := Kp.mk (fun z => hown.store (k / 8) z)
        have hpe : Kp (pushB ys k (u % 2) = ys.set (k / 8) (x + u % 2 * 2 ^ (k % 8))) := ⟨by unfold pushB; simp [h8, hl2, hxe.out]⟩
        go_upto_region 5 with fail
        go_region
        rw [hand.out, ha, hor.out]
        have hst2 := hst.out (x + u % 2 * 2 ^ (k % 8))
        obtain ⟨X, hX⟩ : ∃ X, X = (wr.setCell ⟨g, k / 8, none⟩ (.int .u8 (x + u % 2 * 2 ^ (k % 8)))).drew := ⟨_, rfl⟩
        rw [← hX]
        have xB : X.heap[B]? = some (Go.Obj.cells #[.slice (some ⟨g, 0, none⟩) ys.length cap, .int .i64 k] 45 (0, 0)) := by
          rw [hX]
          exact (heap_set _ _ _ _ _ (fun e => hne (by simp [Value.ownBlock, e]))).trans hbx
        have xO : Kp (OwnB X base (.slice (some ⟨g, 0, none⟩) ys.length cap) (ys.set (k / 8) (x + u % 2 * 2 ^ (k % 8)))) := ⟨by rw [hX]; exact hst2.keep (Below.refl _ _).drew⟩
        have xb : Below base w X := by rw [hX]; exact (bel_set hB hg1 _).drew
        have z0 : X.cell? ⟨B, 0, none⟩ = some (.slice (some ⟨g, 0, none⟩) ys.length cap) := at_cells xB rfl
        have z1 : X.cell? ⟨B, 1, none⟩ = some (.int .i64 k) := at_cells xB rfl
        have g0 := rw_cells xB
        have xS := set_cells xB 1 (.int .i64 ((k : Int) + 1))
        have xbb : Below base w (X.setCell ⟨B, 1, none⟩ (.int .i64 ((k : Int) + 1))) := bel_set xb hb _
        have xo2 := Kp.mk (xO.out.setOther (j := 1) (B := B) hne (.int .i64 ((k : Int) + 1)))
        have xl : (ys.set (k / 8) (x + u % 2 * 2 ^ (k % 8))).length = ys.length := List.length_set
        have fin2 : Kp (Wtr 45 base (X.setCell ⟨B, 1, none⟩ (.int .i64 ((k : Int) + 1))) B (putB xs c v (i + 1)) (c + (i + 1))) := ⟨fin.out x _ g cap (by rw [hpe.out, xl]; exact xS) (by rw [hpe.out, xl]; exact xo2.out)⟩
        have hv : Kp (v / 2 ^ (i + 1) = u / 2) := ⟨by rw [hu.out, Int.pow_succ, Int.ediv_ediv_of_nonneg (by have : (0 : Int) < 2 ^ i := Int.pow_pos (by decide); omega)]⟩
        clear hX hst2 xB xO xb xS xo2 hor hand hst hpe fin hx fg y0 y1 f0 hbx hown HS H0
        go_wp2_with fail
        exact ⟨⟨i + 1, by omega, by go_num, by rw [hv.out], fin2.out, xbb⟩, by simp [intOf]; omega⟩
    · have e : i = n := by omega
      subst e
      go_wp2_with fail
      go_end0
      exact ⟨rfl, hW, hB⟩
end Go.Proofs.Ytfagafglloopbaa
