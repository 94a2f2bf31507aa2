/- Dominators: the specification's search over the table of dominators. -/
import Derived.Test.YtpeplfjndidkhaaId0
import Derived.Test.YtpeplfjndidkhaaRe1
import Derived.Test.YtpeplfjndidkhaaGs1
import Derived.Test.YtpeplfjndidkhaaDe0
import Derived.Test.YtpeplfjndidkhaaVt2
import Derived.Deep.RegionHeld3
import Derived.Test.YtpeplfjndidkhaaId1
namespace Go.Proofs.Ytpeplfjndidkhaa
open Go.ChangeShapes Go.WideShapes Go.ChangeAt Go.RowKit
set_option linter.unusedVariables false
set_option linter.unusedSimpArgs false
/-- A table of Booleans, to be read. -/
structure Mtx (w : World) (v : Value) (n : Nat) (dm : Nat → Nat → Bool) : Prop where
  ex : ∃ a c, v = .slice a n c ∧ ∀ i, i < n → ∃ hb bi ci, a = some ⟨hb, 0, none⟩ ∧ At w hb i (.slice (some ⟨bi, 0, none⟩) n ci) ∧ ∀ j, j < n → At w bi j (.bool (dm i j))
theorem Mtx.keep {w w' : World} {v : Value} {n : Nat} {dm : Nat → Nat → Bool} (h : Mtx w v n dm) (hb : Below w.heap.size w w') : Mtx w' v n dm := by
  obtain ⟨a, c, e, h⟩ := h.ex
  refine ⟨a, c, e, fun i hi => ?_⟩
  obtain ⟨g, bi, ci, h1, h2, h3⟩ := h i hi
  exact ⟨g, bi, ci, h1, at_keep h2 hb, fun j hj => at_keep (h3 j hj) hb⟩
/-- The best so far, by a table. -/
def bsf (dm : Nat → Nat → Bool) (b : Nat) : Nat → Int
  | 0 => -1
  | k + 1 => if k ≠ b ∧ dm k b = true ∧ (bsf dm b k < 0 ∨ dm (bsf dm b k).toNat k = true) then (k : Int) else bsf dm b k
theorem bsf_lo (dm : Nat → Nat → Bool) (b : Nat) : ∀ k, -1 ≤ bsf dm b k ∧ bsf dm b k < k
  | 0 => by unfold bsf; omega
  | k + 1 => by
    have := bsf_lo dm b k
    unfold bsf
    split <;> omega
theorem bsf_bst {bls : List (List InD)} {dm : Nat → Nat → Bool} {n : Nat} (h : ∀ i j : Nat, i < n → j < n → dm i j = dmB bls i j) {b : Nat} (hb : b < n) : ∀ k, k ≤ n → bsf dm b k = bst bls b k
  | 0, _ => rfl
  | k + 1, hk => by
    have ih := bsf_bst h hb k (by omega)
    have l := bsf_lo dm b k
    show (if _ then _ else _) = (if _ then _ else _)
    rw [← ih, h k b (by omega) hb]
    have : (bsf dm b k < 0 ∨ dm (bsf dm b k).toNat k = true) ↔ (bsf dm b k < 0 ∨ dmB bls (bsf dm b k) k = true) := by
      by_cases q : bsf dm b k < 0
      · simp [q]
      · rw [h _ k (by omega) (by omega), show (((bsf dm b k).toNat : Nat) : Int) = bsf dm b k by omega]
    simp only [this]
set_option maxRecDepth 100000 in
set_option maxHeartbeats 4000000 in
theorem idomsS (dm : Nat → Nat → Bool) (n : Nat) (v : Value) (w : World) (H : Mtx w v n dm) (hn : n ≤ 1048576) :
    Calls Try.prog 30 #[v] w fun e w' => ∃ v', e = .returned v' ∧ OwnI w' w.heap.size v' ((List.range n).map (fun b => bsf dm b n)) ∧ Below w.heap.size w w' := by
  obtain ⟨a0, c0, rfl, hx⟩ := H.ex
  obtain ⟨i0, hi0, hz0, hz1, hz2⟩ := info_parts info64
  have GC : Kp (∀ W i j, Below w.heap.size w W → i < n → j < n → ∃ hb bi ci, a0 = some ⟨hb, 0, none⟩ ∧ W.cell? ⟨hb, i, none⟩ = some (.slice (some ⟨bi, 0, none⟩) n ci) ∧ W.cell? ⟨bi, j, none⟩ = some (.bool (dm i j))) := ⟨fun W i j hW hi hj => by
    obtain ⟨g, bi, ci, h1, h2, h3⟩ := hx i hi
    exact ⟨g, bi, ci, h1, at_keep h2 hW, at_keep (h3 j hj) hW⟩⟩
  clear H hx
  have hBw : Below w.heap.size w w := Below.refl _ _
  go_enter Try.func30, Try.ntmps30
  go_wp2_with fail
  go_loopw [3, 5] (fun vo s wr => ∃ b : Nat, b ≤ n ∧ s = .int .i64 b ∧ wr.ownsRow w.heap.size 2 1 vo ((List.range b).map (fun b => bsf dm b n)).length (((List.range b).map (fun b => bsf dm b n)).map (Value.int .i64)) ∧ Below w.heap.size w wr) (fun _ s _ => n - (intOf s).toNat)
  case atStart => exact ⟨0, Nat.zero_le _, rfl, ⟨rfl, .inr ⟨w.heap.size, 0, #[], rfl, Nat.le_refl _, new_cells w _, Nat.le_refl _, by decide, rfl, rfl⟩⟩, bel_alloc _ _⟩
  case round =>
    clear hBw
    obtain ⟨b, hb, rfl, hown, hBl⟩ := hrel
    obtain ⟨L, hL⟩ : ∃ L, Kp ((List.range b).map (fun b => bsf dm b n) = L) := ⟨_, ⟨rfl⟩⟩
    rw [hL.out] at hown
    obtain ⟨a8, c8, rfl⟩ := (OwnI.mk hown).shape
    have hLl : L.length = b := by rw [← hL.out]; simp
    have b0 : (0 : Int) ≤ (b : Int) := by omega
    by_cases hlt : b < n
    · have b1 : (b : Int) < (n : Int) := by omega
      replace hLl := Kp.mk hLl
      go_wp2_with fail
      go_loopw [6, 7] (fun s6 s7 wz => ∃ a : Nat, a ≤ n ∧ s6 = .int .i64 (bsf dm b a) ∧ s7 = .int .i64 a ∧ wz.ownsRow w.heap.size 2 1 (.slice a8 L.length c8) L.length (L.map (Value.int .i64)) ∧ Below w.heap.size w wz) (fun _ s7 _ => n - (intOf s7).toNat)
      case atStart => exact ⟨0, Nat.zero_le _, rfl, rfl, hown, hBl⟩
      case round =>
        clear hown hBl
        obtain ⟨a, ha, rfl, rfl, hown, hBl⟩ := hrel
        have a0 : (0 : Int) ≤ (a : Int) := by omega
        have hlo := bsf_lo dm b a
        by_cases hal : a < n
        · have a1 : (a : Int) < (n : Int) := by omega
          obtain ⟨hb1, bi, ci, rfl, c1, c2⟩ := GC.out wr a b hBl hal hlt
          have hstep : ∀ x, (if a ≠ b ∧ dm a b = true ∧ (bsf dm b a < 0 ∨ dm (bsf dm b a).toNat a = true) then (a : Int) else bsf dm b a) = x → bsf dm b (a + 1) = x := fun x h => h
          by_cases hab : a = b
          · have g1 : ((a : Int) != (b : Int)) = false := by simp [hab]
            have hs := Kp.mk (hstep _ (if_neg (fun h => h.1 hab)))
            replace hown := Kp.mk hown
            replace hab := Kp.mk hab
            generalize bsf dm b a = best at *
            go_wp2_with fail
            exact ⟨⟨a + 1, by omega, by rw [hs.out], by go_num, hown.out, hBl⟩, by simp [intOf]; omega⟩
          · have g1 : ((a : Int) != (b : Int)) = true := by simp; omega
            cases hd : dm a b with
            | false =>
              rw [hd] at c2
              have hs := Kp.mk (hstep _ (if_neg (fun h => by rw [hd] at h; exact absurd h.2.1 (by decide))))
              replace hown := Kp.mk hown
              replace hd := Kp.mk hd
              generalize bsf dm b a = best at *
              go_wp2_with fail
              exact ⟨⟨a + 1, by omega, by rw [hs.out], by go_num, hown.out, hBl⟩, by simp [intOf]; omega⟩
            | true =>
              rw [hd] at c2
              by_cases hneg : bsf dm b a < 0
              · have g2 : decide (bsf dm b a < 0) = true := by simp [hneg]
                have hs := Kp.mk (hstep _ (if_pos ⟨hab, hd, .inl hneg⟩))
                replace hown := Kp.mk hown
                replace hd := Kp.mk hd
                replace hneg := Kp.mk hneg
                generalize bsf dm b a = best at *
                go_wp2_with fail
                exact ⟨⟨a + 1, by omega, by rw [hs.out], by go_num, hown.out, hBl⟩, by simp [intOf]; omega⟩
              · have g2 : decide (bsf dm b a < 0) = false := by simp; omega
                obtain ⟨m, hm⟩ : ∃ m : Nat, bsf dm b a = m := ⟨(bsf dm b a).toNat, by omega⟩
                have hmn : m < n := by omega
                have m0 : (0 : Int) ≤ (m : Int) := by omega
                have m1 : (m : Int) < (n : Int) := by omega
                obtain ⟨hb2, bj, cj, e2, d1, d2⟩ := GC.out wr m a hBl hmn hal
                cases e2
                cases hd2 : dm m a with
                | false =>
                  rw [hd2] at d2
                  have hs := Kp.mk (hstep _ (if_neg (fun h => by
                    rcases h.2.2 with q | q
                    · exact hneg q
                    · rw [hm, Int.toNat_natCast, hd2] at q
                      cases q)))
                  rw [hm] at g2 hs ⊢
                  replace hown := Kp.mk hown
                  replace hd := Kp.mk hd
                  replace hd2 := Kp.mk hd2
                  replace hneg := Kp.mk hneg
                  replace hm := Kp.mk hm
                  go_wp2_with fail
                  exact ⟨⟨a + 1, by omega, by rw [hs.out], by go_num, hown.out, hBl⟩, by simp [intOf]; omega⟩
                | true =>
                  rw [hd2] at d2
                  have hs := Kp.mk (hstep _ (if_pos ⟨hab, hd, .inr (by rw [hm, Int.toNat_natCast]; exact hd2)⟩))
                  rw [hm] at g2 ⊢
                  replace hown := Kp.mk hown
                  replace hd := Kp.mk hd
                  replace hd2 := Kp.mk hd2
                  replace hneg := Kp.mk hneg
                  replace hm := Kp.mk hm
                  go_wp2_with fail
                  exact ⟨⟨a + 1, by omega, by rw [hs.out], by go_num, hown.out, hBl⟩, by simp [intOf]; omega⟩
        · obtain rfl : a = n := by omega
          have hlL : L.length ≤ 1048576 := by have := hLl.out; omega
          have hsz := hBl.size
          obtain ⟨x, hx⟩ : ∃ x, Kp (bsf dm b a = x) := ⟨_, ⟨rfl⟩⟩
          rw [hx.out]
          clear hlo
          go_wp2_with (at_builtin; refine wpList_append_vals _ rfl _ _ 22 rfl w.heap.size 2 i0 (.int .i64 0) 1 8 Try.underlying22 hi0 hz0 hz1 hz2 rfl (by decide) _ _ _ rfl (hown.alloc _) (some ⟨wr.heap.size, 0, none⟩) wr.heap.size 0 1 1 [.int .i64 x] rfl (fun _ => rfl) rfl (one_new wr _ _) one_cell (by unfold maxLen; omega) (by omega) (by simp; omega) ?_; intro v3 w3 hown3 hgrow3)
          have hB3 := own_bel (hBl.alloc hBl.size _) (hown.alloc _) hgrow3 (by simp; omega)
          have hown4 : w3.ownsRow w.heap.size 2 1 v3 ((List.range (b + 1)).map (fun b => bsf dm b a)).length (((List.range (b + 1)).map (fun b => bsf dm b a)).map (Value.int .i64)) := by
            rw [List.range_succ, List.map_append, hL.out, List.map_singleton, hx.out]
            simpa using hown3
          clear hown hown3 hgrow3 hBl
          go_wp2_with fail
          exact ⟨⟨b + 1, by omega, by go_num, hown4, hB3⟩, by simp [intOf]; omega⟩
    · obtain rfl : b = n := by omega
      go_wp2_with fail
      go_ret
      refine ⟨_, rfl, ⟨?_⟩, hBl⟩
      rw [hL.out]
      exact hown
end Go.Proofs.Ytpeplfjndidkhaa
namespace Go.Proofs.Ytpeplfjndidkhaa
open Go.ChangeShapes Go.WideShapes Go.ChangeAt Go.RowKit
set_option linter.unusedVariables false
set_option linter.unusedSimpArgs false
/-- A row of Booleans. -/
structure BRow (w : World) (rb n : Nat) (f : Nat → Bool) : Prop where
  ex : ∃ cur : Array Value, w.heap[rb]? = some (Go.Obj.cells cur 4 (0, 0)) ∧ ∀ i, i < n → cur[i]? = some (.bool (f i))
section
variable {w w' : World} {rb n : Nat} {f : Nat → Bool}
theorem BRow.at (h : BRow w rb n f) {i : Nat} (hi : i < n) : At w rb i (.bool (f i)) := by
  obtain ⟨cur, h1, h2⟩ := h.ex
  exact at_cells h1 (h2 i hi)
theorem BRow.rw (h : BRow w rb n f) (i : Nat) : w.frozen? ⟨rb, i, none⟩ = false := by
  obtain ⟨cur, h1, h2⟩ := h.ex
  exact rw_cells h1 i
theorem BRow.lt (h : BRow w rb n f) : rb < w.heap.size := by
  obtain ⟨cur, h1, h2⟩ := h.ex
  exact (Array.getElem?_eq_some_iff.1 h1).1
theorem BRow.keep (h : BRow w rb n f) (hb : Below w.heap.size w w') : BRow w' rb n f := by
  obtain ⟨cur, h1, h2⟩ := h.ex
  exact ⟨cur, keep_cells h1 hb, h2⟩
theorem BRow.kept {row : Option Nat} (h : BRow w rb n f) (hg : w.grownBy w' row) (hne : some rb ≠ row) : BRow w' rb n f := by
  obtain ⟨cur, h1, h2⟩ := h.ex
  exact ⟨cur, (hg.block _ (Array.getElem?_eq_some_iff.1 h1).1 hne).trans h1, h2⟩
theorem BRow.ne {base size m : Nat} {e : TypeId} {v : Value} {xs : List Value} (h : BRow w rb n f) (ho : w.ownsRow base e size v m xs) (he : 4 ≠ e) : some rb ≠ v.ownBlock := by
  obtain ⟨cur, h1, h2⟩ := h.ex
  exact own_ne ho h1 he
theorem BRow.set (h : BRow w rb n f) {j : Nat} (hj : j < n) (x : Bool) {g : Nat → Bool} (he : ∀ i, i < n → g i = if i = j then x else f i) : BRow (w.setCell ⟨rb, j, none⟩ (.bool x)) rb n g := by
  obtain ⟨cur, h1, h2⟩ := h.ex
  refine ⟨_, set_cells h1 j _, fun i hi => ?_⟩
  have hc := (Array.getElem?_eq_some_iff.1 (h2 j hj)).1
  rw [he i hi]
  by_cases e : i = j
  · subst e
    simp [hc]
  · rw [if_neg e]
    simp only [Array.getElem?_setIfInBounds]
    rw [if_neg (Ne.symm e)]
    exact h2 i hi
theorem BRow.congr {g : Nat → Bool} (h : BRow w rb n f) (he : ∀ i, i < n → g i = f i) : BRow w rb n g := by
  obtain ⟨cur, h1, h2⟩ := h.ex
  exact ⟨cur, h1, fun i hi => by rw [he i hi]; exact h2 i hi⟩
end
theorem infoB : (Try.prog.info? 66).map (fun i => (i.zero, i.size, i.bytes)) = some (some (.slice none 0 0), 1, 24) := by kernel_rfl
/-- The table, row by row. -/
def rowsV (rs : Nat → Nat) (n b : Nat) : List Value := (List.range b).map (fun i => Value.slice (some ⟨rs i, 0, none⟩) n n)
theorem rowsV_len (rs : Nat → Nat) (n b : Nat) : (rowsV rs n b).length = b := by simp [rowsV]
theorem rowsV_snoc (rs : Nat → Nat) (n b rb : Nat) : rowsV (upd rs b rb) n (b + 1) = rowsV rs n b ++ [Value.slice (some ⟨rb, 0, none⟩) n n] := by
  unfold rowsV
  rw [List.range_succ, List.map_append, List.map_singleton, upd_same]
  congr 1
  refine List.map_congr_left fun i hi => ?_
  rw [upd_other _ _ _ _ (by have := List.mem_range.1 hi; omega)]
theorem mtx_of {w : World} {base n : Nat} {v : Value} {rs : Nat → Nat} {dm : Nat → Nat → Bool} (h : w.ownsRow base 66 1 v n (rowsV rs n n)) (hr : ∀ i, i < n → BRow w (rs i) n (dm i)) : Mtx w v n dm := by
  obtain ⟨-, ⟨rfl, q⟩ | ⟨bN, cN, cur, rfl, h1, h2, h3, h4, h5, h6⟩⟩ := h
  · have : n = 0 := by omega
    subst this
    exact ⟨_, _, rfl, fun i hi => absurd hi (by omega)⟩
  · refine ⟨_, _, rfl, fun i hi => ⟨bN, rs i, n, rfl, ?_, fun j hj => (hr i hi).at hj⟩⟩
    have hy : (rowsV rs n n)[i]? = some (Value.slice (some ⟨rs i, 0, none⟩) n n) := by simp [rowsV, hi]
    rw [← h6, List.getElem?_take, if_pos (by omega)] at hy
    exact at_cells h2 (by simpa using hy)
set_option maxRecDepth 100000 in
set_option maxHeartbeats 4000000 in
theorem domsS (blocks : List (List InD)) (n lo : Nat) (hnl : Kp (blocks.length = n)) (w : World) (vN vP : Value) (G : Rws lo w vN n (fun i => nextL blocks i)) (hP : ∃ a m c, vP = .slice a m c) (hn : n ≤ 1048576)
    (hnx : ∀ i : Nat, i < n → (nextL blocks i).length ≤ 1048576 ∧ ∀ y ∈ nextL blocks i, 0 ≤ y ∧ y < (n : Int)) :
    Calls Try.prog 31 #[.agg #[vN, vP]] w fun e w' => ∃ v, e = .returned v ∧ Mtx w' v n (fun i j => dmB blocks i j) ∧ Below w.heap.size w w' := by
  have CR : Kp (∀ (W : World) (wo : Int), Below w.heap.size w W → Calls Try.prog 40 #[.agg #[vN, vP], .int .i64 0, .int .i64 wo] W _) := ⟨fun W wo hW => reachS (nextL blocks) n lo W vN vP (G.keep hW) hP hn hnx 0 wo⟩
  have hin := nextL_in blocks
  rw [hnl.out] at hin
  have hdm : Kp (∀ (ka kb : Nat) (s1 s2 : List Int), ka < n → kb < n → (∀ y, y ∈ s1 ↔ 0 ≤ (0 : Int) ∧ (0 : Int) < n ∧ Way (EB (nextL blocks)) (fun z => z ≠ -1) 0 y) → (∀ y, y ∈ s2 ↔ 0 ≤ (0 : Int) ∧ (0 : Int) < n ∧ Way (EB (nextL blocks)) (fun z => z ≠ (ka : Int)) 0 y) → dmB blocks ka kb = (s1.contains (kb : Int) && !s2.contains (kb : Int))) := ⟨fun ka kb s1 s2 ha hb h1 h2 => by
    have hr : (0 : Int) ≤ 0 ∧ (0 : Int) < n := ⟨by omega, by omega⟩
    refine dmB_eq ?_
    rw [Bool.and_eq_true, Bool.not_eq_true', ← Bool.not_eq_true, List.contains_iff_mem, List.contains_iff_mem, h1, h2]
    constructor
    · rintro ⟨⟨-, -, q⟩, q2⟩
      exact ⟨by have := hnl.out; omega, q.mono (fun _ _ => trivial), fun q3 => q2 ⟨hr.1, hr.2, q3⟩⟩
    · rintro ⟨-, q1, q2⟩
      exact ⟨⟨hr.1, hr.2, way_past hin (by omega) q1 hr⟩, fun q => q2 q.2.2⟩⟩
  obtain ⟨O, hmk, hSO⟩ := mkSeen n hn
  obtain ⟨i0, hi0, hz0, hz1, hz2⟩ := info_parts infoB
  obtain ⟨_, _, ⟨⟨aN, cN, rfl, -, -⟩, -⟩, -, -⟩ := G.ex
  obtain ⟨aP, mP, cP, rfl⟩ := hP
  clear G hnx hin
  obtain ⟨Bo, hBo⟩ : ∃ Bo, Kp (Bo = Go.Obj.cells #[.slice aN n cN, .slice aP mP cP] 51 (0, 0)) := ⟨_, ⟨rfl⟩⟩
  obtain ⟨W0, hW0⟩ : ∃ W0, Kp (W0 = w.alloc (Go.Obj.cells #[.slice aN n cN, .slice aP mP cP] 51)) := ⟨_, ⟨rfl⟩⟩
  have hB0 : Below w.heap.size w W0 := by rw [hW0.out]; exact bel_alloc _ _
  have hg0 : W0.heap[w.heap.size]? = some Bo := by rw [hW0.out, hBo.out]; exact new_cells _ _
  have SK : Kp (∀ W' : World, W'.heap[w.heap.size]? = some Bo → W'.cell? ⟨w.heap.size, 0, none⟩ = some (.slice aN n cN) ∧ W'.cell? ⟨w.heap.size, 1, none⟩ = some (.slice aP mP cP)) := ⟨fun W' h1 => by
    rw [hBo.out] at h1
    exact ⟨at_cells h1 rfl, at_cells h1 rfl⟩⟩
  obtain ⟨y0, y1⟩ := SK.out W0 hg0
  have C1 := Kp.mk (CR.out W0 (-1) hB0)
  replace hSO := Kp.mk hSO
  go_enter Try.func31, Try.ntmps31
  go_upto_region 1 with fail
  rw [← hW0.out]
  go_wp2_with fail
  refine C1.out.mono ?_
  rintro e W1 ⟨s1, rfl, hS1, hB1, hm1⟩
  have hg1 : W1.heap[w.heap.size]? = some Bo := keep_cells hg0 hB1
  have hB01 := bel_trans hB0 hB1
  obtain ⟨ba, hba⟩ : ∃ ba, Kp (W0.heap.size + 1 = ba) := ⟨_, ⟨rfl⟩⟩
  rw [hba.out] at hS1 ⊢
  replace hm1 := Kp.mk hm1
  clear y0 y1 C1
  go_wp2_with fail
  go_loopw [5, 6] (fun vo s wr => ∃ (b : Nat) (rs : Nat → Nat), b ≤ n ∧ s = .int .i64 b ∧ wr.ownsRow W1.heap.size 66 1 vo (rowsV rs n b).length (rowsV rs n b) ∧ (∀ i, i < b → BRow wr (rs i) n (fun j => dmB blocks i j)) ∧ Below W1.heap.size W1 wr) (fun _ s _ => n - (intOf s).toNat)
  case atStart => exact ⟨0, fun _ => 0, Nat.zero_le _, rfl, ⟨rfl, .inr ⟨W1.heap.size, 0, #[], rfl, Nat.le_refl _, new_cells W1 _, Nat.le_refl _, by decide, rfl, rfl⟩⟩, fun i hi => absurd hi (by omega), bel_alloc _ _⟩
  case round =>
    obtain ⟨b, rs, hb, rfl, hown, hrows, hBl⟩ := hrel
    have b0 : (0 : Int) ≤ (b : Int) := by omega
    have hlen := rowsV_len rs n b
    obtain ⟨a8, c8, rfl⟩ := row_shape hown
    rw [hlen] at *
    have hg2 := keep_cells hg1 hBl
    obtain ⟨y0, y1⟩ := SK.out wr hg2
    by_cases hlt : b < n
    · have b1 : (b : Int) < (n : Int) := by omega
      have C2 := Kp.mk (CR.out wr b (bel_trans hB01 hBl))
      replace hown := Kp.mk hown
      replace hrows := Kp.mk hrows
      go_wp2_with fail
      refine C2.out.mono ?_
      rintro e W3 ⟨s2, rfl, hS2, hB3, hm2⟩
      have hR := Kp.mk (fun j hj => hdm.out b j s1 s2 hlt hj hm1.out hm2)
      have hBl3 := bel_trans hBl hB3
      have hS1' := hS1.keep hBl3
      have hmk3 := hmk W3
      have hS3 := hSO.out W3
      have hr0 : BRow (W3.alloc O) W3.heap.size n (fun j => decide (j < 0) && (s1.contains (j : Int) && !s2.contains (j : Int))) := by
        obtain ⟨cur, h1, h2⟩ := hS3.ex
        exact ⟨cur, h1, fun i hi => by rw [h2 i hi]; simp⟩
      have hBa := bel_alloc W3 O
      obtain ⟨bs, hbs⟩ : ∃ bs, Kp (wr.heap.size + 1 = bs) := ⟨_, ⟨rfl⟩⟩
      rw [hbs.out] at hS2 ⊢
      replace hm2 := Kp.mk hm2
      clear y0 y1 C2 hS3
      go_wp2_with fail
      go_loopw [9] (fun s wz => ∃ k : Nat, k ≤ n ∧ s = .int .i64 k ∧ BRow wz W3.heap.size n (fun j => decide (j < k) && (s1.contains (j : Int) && !s2.contains (j : Int))) ∧ Below W3.heap.size W3 wz) (fun s _ => n - (intOf s).toNat)
      case atStart => exact ⟨0, Nat.zero_le _, rfl, hr0, hBa⟩
      case round =>
        clear hr0 hBa
        rename_i wz0
        obtain ⟨k, hk, rfl, hrow, hBz⟩ := hrel
        have k0 : (0 : Int) ≤ (k : Int) := by omega
        by_cases hkn : k < n
        · have k1 : (k : Int) < (n : Int) := by omega
          have d1 := (hS1'.keep hBz).at hkn
          have d2 := (hS2.keep hBz).at hkn
          have d3 := hrow.at hkn
          have d4 := hrow.rw k
          have hset : ∀ x, x = (s1.contains (k : Int) && !s2.contains (k : Int)) → ∀ i, i < n → (decide (i < k + 1) && (s1.contains (i : Int) && !s2.contains (i : Int))) = if i = k then x else (decide (i < k) && (s1.contains (i : Int) && !s2.contains (i : Int))) := fun x hx i hi => by
            by_cases e : i = k
            · subst e; rw [if_pos rfl, hx]; simp
            · rw [if_neg e, show decide (i < k + 1) = decide (i < k) by simp; omega]
          cases h1 : s1.contains (k : Int) with
          | false =>
            rw [h1] at d1
            have hrow2 := Kp.mk (hrow.set hkn false (hset _ (by rw [h1]; rfl)))
            replace hrow := Kp.mk hrow
            replace hset := Kp.mk hset
            go_wp2_with fail
            exact ⟨⟨k + 1, by omega, by go_num, hrow2.out, hBz.setCell (Nat.le_refl _) _⟩, by simp [intOf]; omega⟩
          | true =>
            rw [h1] at d1
            cases h2 : s2.contains (k : Int) with
            | false =>
              rw [h2] at d2
              have hrow2 := Kp.mk (hrow.set hkn true (hset _ (by rw [h1, h2]; rfl)))
              replace hrow := Kp.mk hrow
              replace hset := Kp.mk hset
              go_wp2_with fail
              exact ⟨⟨k + 1, by omega, by go_num, hrow2.out, hBz.setCell (Nat.le_refl _) _⟩, by simp [intOf]; omega⟩
            | true =>
              rw [h2] at d2
              have hrow2 := Kp.mk (hrow.set hkn false (hset _ (by rw [h1, h2]; rfl)))
              replace hrow := Kp.mk hrow
              replace hset := Kp.mk hset
              go_wp2_with fail
              exact ⟨⟨k + 1, by omega, by go_num, hrow2.out, hBz.setCell (Nat.le_refl _) _⟩, by simp [intOf]; omega⟩
        · obtain rfl : k = n := by omega
          have hown4 := row_kept (row_kept hown.out hB3) hBz
          have hall := bel_trans hBl3 hBz
          have hsz := hall.size
          have hrowsZ : ∀ i, i < b → BRow wr (rs i) k (fun j => dmB blocks i j) := fun i hi => ((hrows.out i hi).keep hB3).keep hBz
          have hrowN : BRow wr W3.heap.size k (fun j => dmB blocks b j) := hrow.congr (fun j hj => by rw [hR.out j hj]; simp [hj])
          replace hR := Kp.mk hR
          clear hrow hS1' hS2
          go_wp2_with (at_builtin; refine wpList_append_vals _ rfl _ _ 47 rfl W1.heap.size 66 i0 (.slice none 0 0) 1 24 Try.underlying47 hi0 hz0 hz1 hz2 rfl (by decide) _ _ _ rfl (hown4.alloc _) (some ⟨wr.heap.size, 0, none⟩) wr.heap.size 0 1 1 [.slice (some ⟨W3.heap.size, 0, none⟩) k k] rfl (fun _ => rfl) rfl (one_new wr _ _) (by simp [Value.oneCell']) (by unfold maxLen; omega) (by omega) (by simp; omega) ?_; intro v3 w3 hown5 hgrow5)
          have hB5 := own_bel (hall.alloc hall.size _) (hown4.alloc _) hgrow5 (by simp; omega)
          have hown6 : w3.ownsRow W1.heap.size 66 1 v3 (rowsV (upd rs b W3.heap.size) k (b + 1)).length (rowsV (upd rs b W3.heap.size) k (b + 1)) := by
            rw [rowsV_len, rowsV_snoc]
            simpa using hown5
          have hrows6 : ∀ i, i < b + 1 → BRow w3 (upd rs b W3.heap.size i) k (fun j => dmB blocks i j) := fun i hi => by
            by_cases e : i = b
            · subst e
              rw [upd_same]
              have q := hrowN.keep (bel_alloc wr (Go.Obj.cells #[.slice (some ⟨W3.heap.size, 0, none⟩) k k] 66))
              exact q.kept hgrow5 (q.ne (hown4.alloc _) (by decide))
            · rw [upd_other _ _ _ _ e]
              have q := (hrowsZ i (by omega)).keep (bel_alloc wr (Go.Obj.cells #[.slice (some ⟨W3.heap.size, 0, none⟩) k k] 66))
              exact q.kept hgrow5 (q.ne (hown4.alloc _) (by decide))
          clear hown4 hown5 hgrow5 hrowsZ hrowN
          go_wp2_with fail
          exact ⟨⟨b + 1, _, by omega, by go_num, hown6, hrows6, hB5⟩, by simp [intOf]; omega⟩
    · obtain rfl : b = n := by omega
      go_wp2_with fail
      go_ret
      exact ⟨_, rfl, mtx_of hown hrows, bel_trans hB01 hBl⟩
end Go.Proofs.Ytpeplfjndidkhaa
namespace Go.Proofs.Ytpeplfjndidkhaa
open Go.ChangeShapes Go.WideShapes Go.ChangeAt Go.RowKit
set_option linter.unusedVariables false
set_option linter.unusedSimpArgs false
set_option maxRecDepth 100000 in
set_option maxHeartbeats 4000000 in
theorem domrS (d : FnD) (vp vb : Value) (w : World) {lo : Nat} (h : FnAt lo w d vp vb) (hn : fnN d ≤ 1048576) :
    Calls Try.prog 9 #[fnV d vp vb] w fun e w' => ∃ v : Value, e = .returned v ∧ OwnI w' w.heap.size v (dmL d.blocks) ∧ Below w.heap.size w w' := by
  have CG : Kp (∀ W, Below w.heap.size w W → Calls Try.prog 32 #[fnV d vp vb] W _) := ⟨fun W hW => graphS d vp vb W (h.keep hW) hn⟩
  unfold fnN at hn
  obtain ⟨name, link, params, res, blocks⟩ := d
  obtain ⟨-, hp, hb⟩ := h
  dsimp only [fnV] at *
  have nn := blsN_nn blocks
  have n2 : (blocks.length : Int) ≤ 1048576 := by omega
  obtain ⟨a1, k1, rfl⟩ := hp.shape
  obtain ⟨a2, k2, rfl⟩ := hb.shape
  clear hp hb
  obtain ⟨n, hnl⟩ : ∃ n, Kp (blocks.length = n) := ⟨_, ⟨rfl⟩⟩
  have hnx : ∀ i : Nat, i < n → (nextL blocks i).length ≤ 1048576 ∧ ∀ y ∈ nextL blocks i, 0 ≤ y ∧ y < (n : Int) := fun i hi => ⟨by have := @nextL_len blocks i; omega, fun y hy => by have := nextL_bd hy; rw [hnl.out] at this; exact this⟩
  rw [hnl.out] at CG n2 ⊢
  have hn1 : n ≤ 1048576 := by omega
  replace hnx := Kp.mk hnx
  obtain ⟨W0, hW0⟩ : ∃ W0, Kp (W0 = w.alloc (Go.Obj.cells #[.string name, .int .i64 link, .slice a1 params.length k1, .int .i64 res, .slice a2 n k2] 30)) := ⟨_, ⟨rfl⟩⟩
  have hB0 : Below w.heap.size w W0 := by rw [hW0.out]; exact bel_alloc _ _
  have hx0 : W0.heap[w.heap.size]? = some (Go.Obj.cells #[.string name, .int .i64 link, .slice a1 params.length k1, .int .i64 res, .slice a2 n k2] 30 (0, 0)) := by rw [hW0.out]; exact new_cells _ _
  have x0 := at_cells hx0 (j := 0) rfl
  have x1 := at_cells hx0 (j := 1) rfl
  have x2 := at_cells hx0 (j := 2) rfl
  have x3 := at_cells hx0 (j := 3) rfl
  have x4 := at_cells hx0 (j := 4) rfl
  have hs0 : W0.heap.size = w.heap.size + 1 := by rw [hW0.out]; simp
  by_cases h0 : n = 0
  · have hg : ((n : Int) == 0) = true := by simp [h0]
    have hdl : dmL blocks = [] := by unfold dmL; rw [hnl.out, h0]; rfl
    rw [hdl]
    replace hx0 := Kp.mk hx0
    replace h0 := Kp.mk h0
    go_enter Try.func9, Try.ntmps9
    go_upto_region 1 with fail
    rw [← hW0.out]
    go_wp2_with fail
    go_ret
    exact ⟨_, rfl, ⟨⟨rfl, .inr ⟨w.heap.size + 1, 0, #[], rfl, by omega, new_at hs0, Nat.le_refl _, by decide, rfl, rfl⟩⟩⟩, bel_trans hB0 (bel_alloc _ _)⟩
  have hg : ((n : Int) == 0) = false := by rw [beq_eq_false_iff_ne]; omega
  have CG1 := Kp.mk (CG.out W0 hB0)
  replace hx0 := Kp.mk hx0
  go_enter Try.func9, Try.ntmps9
  go_upto_region 1 with fail
  rw [← hW0.out]
  go_wp2_with fail
  refine CG1.out.mono ?_
  rintro e W1 ⟨vN, vP, rfl, hN, hP, hB01⟩
  have hB1 := bel_trans hB0 hB01
  obtain ⟨_, _, ⟨⟨aN, cN, rfl, -, -⟩, -⟩, -, -⟩ := hN.ex
  obtain ⟨_, _, ⟨⟨aP, cP, rfl, -, -⟩, -⟩, -, -⟩ := hP.ex
  have C2 := Kp.mk (domsS blocks n _ hnl W1 _ _ hN ⟨aP, n, cP, rfl⟩ hn1 hnx.out)
  clear hN hP CG CG1 x0 x1 x2 x3 x4
  go_wp2_with fail
  refine C2.out.mono ?_
  rintro e W2 ⟨v2, rfl, hM, hB2⟩
  have C3 := Kp.mk (idomsS _ n v2 W2 hM hn1)
  clear hM C2
  go_wp2_with fail
  refine C3.out.mono ?_
  rintro e W3 ⟨v3, rfl, hO, hB3⟩
  clear C3
  have hB12 := bel_trans hB1 hB2
  have hL : (List.range n).map (fun b => bsf (fun i j => dmB blocks i j) b n) = dmL blocks := by
    unfold dmL
    rw [hnl.out]
    refine List.map_congr_left fun b hb => ?_
    exact bsf_bst (fun i j _ _ => rfl) (List.mem_range.1 hb) n (Nat.le_refl _)
  rw [hL] at hO
  have hO3 : OwnI W3 w.heap.size v3 (dmL blocks) := ⟨own_base hO.r hB12.size⟩
  go_wp2_with fail
  go_ret
  exact ⟨_, rfl, hO3, bel_trans hB12 hB3⟩
end Go.Proofs.Ytpeplfjndidkhaa
namespace Go.Proofs.Ytpeplfjndidkhaa
open Go.ChangeShapes Go.WideShapes Go.ChangeAt Go.RowKit
set_option linter.unusedVariables false
set_option linter.unusedSimpArgs false
theorem OwnI.mkd {w w' : World} {lo E base : Nat} {v : Value} {xs : List Int} (h : OwnI w base v xs) (m : Mk lo E w w') (hb : E ≤ base) : OwnI w' base v xs := by
  refine ⟨h.r.1, ?_⟩
  rcases h.r.2 with h0 | ⟨g, cap, cur, rfl, hb1, hg, rest⟩
  · exact .inl h0
  · exact .inr ⟨g, cap, cur, rfl, hb1, (m.hi g (by omega)).trans hg, rest⟩
/-- The copied function, marked: what lies ahead of it is as it was, and so is what a later call owns. -/
structure Mkd (lo E : Nat) (w w' : World) : Prop where
  bel : Below lo w w'
  own : ∀ base v xs, OwnI w base v xs → E ≤ base → base ≤ w.heap.size → OwnI w' base v xs
theorem mkd_of {lo E : Nat} {w W w' : World} (h : Below w.heap.size w W) (m : Mk lo E W w') (hl : lo ≤ w.heap.size) : Mkd lo E w w' :=
  ⟨(h.mono hl).trans m.bel, fun base v xs o hb _ => (o.keep h).mkd m hb⟩
end Go.Proofs.Ytpeplfjndidkhaa
namespace Go.Proofs.Ytpeplfjndidkhaa
open Go.ChangeShapes Go.WideShapes Go.ChangeAt Go.RowKit
set_option linter.unusedVariables false
set_option linter.unusedSimpArgs false
set_option maxRecDepth 100000 in
set_option maxHeartbeats 4000000 in
theorem domr_law (d : FnD) (vp vb : Value) (W : World) {lo : Nat} (h : FnAt lo W d vp vb) :
    Calls Try.prog 3 #[fnV d vp vb] W fun e w' => e = .returned (.bool true) ∧ Below W.heap.size W w' := by
  have C1 : Kp (∀ w, FnAt lo w d vp vb → Calls Try.prog 8 _ w _) := ⟨fun w h => szFn d vp vb 1048576 w h (by decide) (by decide)⟩
  have hnm := fnN_small d
  have H := Kp.mk h
  by_cases hq : less 1048576 (fnN d) < 0
  · obtain ⟨⟨a1, c1, rfl⟩, ⟨a2, c2, rfl⟩⟩ := h.shapes
    clear h hnm
    generalize less 1048576 (fnN d) = r at *
    go_enter Try.func3, Try.ntmps3
    go_wp2_with fail
    refine (C1.out _ (H.out.keep (bel_alloc _ _))).mono ?_
    rintro e w1 ⟨rfl, hb1⟩
    go_wp2_with fail
    go_ret
    exact ⟨rfl, bel_trans (bel_alloc _ _) hb1⟩
  have hn := hnm (by omega)
  have C2 : Kp (∀ w, FnAt lo w d vp vb → Calls Try.prog 10 _ w _) := ⟨fun w h => toFn d vp vb w h hn⟩
  have C3 : Kp (∀ w l p q, FnAt l w d p q → Calls Try.prog 9 _ w _) := ⟨fun w l p q h => domrS d p q w h hn⟩
  have C4 : Kp (∀ w l p q, FnAt l w d p q → Calls Try.prog 11 _ w _) := ⟨fun w l p q h => domrI d p q w h hn⟩
  have C5 : Kp (∀ w l l2 p q p2 q2, FnAt l w d p q → FnAt l2 w d p2 q2 → Calls Try.prog 13 _ w _) := ⟨fun w l l2 p q p2 q2 h k => eqFn d p q p2 q2 w h k hn⟩
  have C6 : Kp (∀ w lo E p q, FnS lo E w d p q → UnfE lo E w → E ≤ w.heap.size → lo ≤ w.heap.size → Calls Try.prog 14 #[fnV d p q, .int .i64 1] w fun e w' => ∃ r, e = .returned (.int .i64 r) ∧ 1 ≤ r ∧ r ≤ 16777216 ∧ Mkd lo E w w') := ⟨fun w lo E p q h hu hE hl => by
    refine (mkFn lo E d p q 1 w h hu hE hl hn (by decide) (by decide)).mono ?_
    rintro e w' ⟨r, W, rfl, h1, h2, hb, hm⟩
    exact ⟨r, rfl, h1, by omega, mkd_of hb hm hl⟩⟩
  obtain ⟨R, hR⟩ : ∃ R : List Int, R = dmL d.blocks := ⟨_, rfl⟩
  have hRl : R.length ≤ 1048576 := by
    rw [hR]
    rw [show (dmL d.blocks).length = d.blocks.length by simp [dmL]]; have h2 := blsN_nn d.blocks; unfold fnN at hn; omega
  rw [← hR] at C3 C4
  have C7 : Kp (∀ w b1 b2 v u, OwnI w b1 v R → OwnI w b2 u R → Calls Try.prog 12 #[v, u] w _) := ⟨fun w b1 b2 v u h k => eqInts v u R w (h.ints hRl) (k.ints hRl) hRl⟩
  have C8 : Kp (∀ w b v, OwnI w b v R → Calls Try.prog 15 #[v, .int .i64 1] w _) := ⟨fun w b v h => markI v R b 1 w h hRl (by decide) (by decide)⟩
  have C9 : Kp (∀ w v b o, Sl v R.length b o → (∀ i, i < R.length → At w b (o + i) (.int .i64 (1 + i))) → Calls Try.prog 16 #[v, .int .i64 1] w _) := ⟨fun w v b o s c => heldInts v R.length b o 1 w s c hRl (by decide) (by decide)⟩
  obtain ⟨⟨a1, c1, rfl⟩, ⟨a2, c2, rfl⟩⟩ := h.shapes
  clear h hnm hn hR
  obtain ⟨name, link, params, res, blocks⟩ := d
  dsimp only [fnV] at *
  generalize less 1048576 (fnN ⟨name, link, params, res, blocks⟩) = r at *
  go_enter Try.func3, Try.ntmps3
  go_wp2_with fail
  refine (C1.out _ (H.out.keep (bel_alloc _ _))).mono ?_
  rintro e w1 ⟨rfl, hb1⟩
  have B1 := bel_trans (bel_alloc _ _) hb1
  have H1 := H.out.keep B1
  have x1 := keep_cells (new_cells W _) hb1
  have x10 : w1.cell? ⟨W.heap.size, 0, none⟩ = _ := at_cells x1 rfl
  have x11 : w1.cell? ⟨W.heap.size, 1, none⟩ = _ := at_cells x1 rfl
  have x12 : w1.cell? ⟨W.heap.size, 2, none⟩ = _ := at_cells x1 rfl
  have x13 : w1.cell? ⟨W.heap.size, 3, none⟩ = _ := at_cells x1 rfl
  have x14 : w1.cell? ⟨W.heap.size, 4, none⟩ = _ := at_cells x1 rfl
  go_wp2_with fail
  refine (C2.out _ H1).mono ?_
  rintro e w2 ⟨vp2, vb2, rfl, H2, hb2, -⟩
  have H2' := Kp.mk (C3.out _ _ _ _ H2)
  go_wp2_with fail
  refine H2'.out.mono ?_
  rintro e w3 ⟨v3, rfl, O3, hb3⟩
  have B3 := bel_trans (bel_trans B1 hb2) hb3
  have H3 := H.out.keep B3
  have x3 := keep_cells (keep_cells x1 hb2) hb3
  have x30 : w3.cell? ⟨W.heap.size, 0, none⟩ = _ := at_cells x3 rfl
  have x31 : w3.cell? ⟨W.heap.size, 1, none⟩ = _ := at_cells x3 rfl
  have x32 : w3.cell? ⟨W.heap.size, 2, none⟩ = _ := at_cells x3 rfl
  have x33 : w3.cell? ⟨W.heap.size, 3, none⟩ = _ := at_cells x3 rfl
  have x34 : w3.cell? ⟨W.heap.size, 4, none⟩ = _ := at_cells x3 rfl
  clear x10 x11 x12 x13 x14
  go_wp2_with fail
  refine (C2.out _ H3).mono ?_
  rintro e w4 ⟨vp4, vb4, rfl, H4, hb4, hU4⟩
  have F4 := H4.s
  have U4 := hU4.e
  obtain ⟨⟨a4, c4, rfl⟩, ⟨b4, d4, rfl⟩⟩ := H4.shapes
  have bb := bel_alloc w4 (Go.Obj.cells #[.string name, .int .i64 link, .slice a4 params.length c4, .int .i64 res, .slice b4 blocks.length d4] 30)
  have B4 := bel_trans (bel_trans B3 hb4) bb
  have H5 := H4.keep bb
  have H5' := Kp.mk (C4.out _ _ _ _ H5)
  have z4 := new_cells w4 (Go.Obj.cells #[.string name, .int .i64 link, .slice a4 params.length c4, .int .i64 res, .slice b4 blocks.length d4] 30)
  have x4 := keep_cells (keep_cells x3 hb4) bb
  have s4 : w3.heap.size ≤ w4.heap.size := hb4.size
  -- from w3 on nothing of w3 turns; from the box on nothing of the copy turns
  have N4 : Below w3.heap.size w3 (w4.alloc (Go.Obj.cells #[.string name, .int .i64 link, .slice a4 params.length c4, .int .i64 res, .slice b4 blocks.length d4] 30)) := bel_trans hb4 bb
  clear x30 x31 x32 x33 x34
  go_wp2_with fail
  refine H5'.out.mono ?_
  rintro e w5 ⟨v5, rfl, O5, hb5⟩
  have B5 := bel_trans B4 hb5
  have N5 := bel_trans N4 hb5
  have M5 : Below w4.heap.size w4 w5 := bel_trans bb hb5
  have x5 := keep_cells x4 hb5
  have z5 := keep_cells z4 hb5
  have H6 := H5.keep hb5
  rw [World.size_alloc] at O5
  have hs5 : w4.heap.size + 1 ≤ w5.heap.size := by have := hb5.size; simpa using this
  have E5 := Kp.mk (C7.out _ _ _ _ _ O5 (O3.keep N5))
  go_wp2_with fail
  refine E5.out.mono ?_
  rintro e w6 ⟨rfl, hb6⟩
  have B6 := bel_trans B5 hb6
  have N6 := bel_trans N5 hb6
  have M6 : Below w4.heap.size w4 w6 := bel_trans M5 hb6
  have x6 := keep_cells x5 hb6
  have z6 := keep_cells z5 hb6
  have O6 := O5.keep hb6
  have H7 := H.out.keep B6
  have H8 := H6.keep hb6
  have x60 : w6.cell? ⟨W.heap.size, 0, none⟩ = _ := at_cells x6 rfl
  have x61 : w6.cell? ⟨W.heap.size, 1, none⟩ = _ := at_cells x6 rfl
  have x62 : w6.cell? ⟨W.heap.size, 2, none⟩ = _ := at_cells x6 rfl
  have x63 : w6.cell? ⟨W.heap.size, 3, none⟩ = _ := at_cells x6 rfl
  have x64 : w6.cell? ⟨W.heap.size, 4, none⟩ = _ := at_cells x6 rfl
  have z60 : w6.cell? ⟨w4.heap.size, 0, none⟩ = _ := at_cells z6 rfl
  have z61 : w6.cell? ⟨w4.heap.size, 1, none⟩ = _ := at_cells z6 rfl
  have z62 : w6.cell? ⟨w4.heap.size, 2, none⟩ = _ := at_cells z6 rfl
  have z63 : w6.cell? ⟨w4.heap.size, 3, none⟩ = _ := at_cells z6 rfl
  have z64 : w6.cell? ⟨w4.heap.size, 4, none⟩ = _ := at_cells z6 rfl
  go_wp2_with fail
  have HK : Kp (∀ w', Below w6.heap.size w6 w' → FnAt lo w' ⟨name, link, params, res, blocks⟩ (.slice a1 params.length c1) (.slice a2 blocks.length c2)) := ⟨fun w' h => H7.keep h⟩
  obtain ⟨l4, H8⟩ : ∃ l4, FnAt l4 w6 ⟨name, link, params, res, blocks⟩ (.slice a4 params.length c4) (.slice b4 blocks.length d4) := ⟨_, H8⟩
  have HZ : Kp (∀ w', Below w6.heap.size w6 w' → FnAt l4 w' ⟨name, link, params, res, blocks⟩ (.slice a4 params.length c4) (.slice b4 blocks.length d4)) := ⟨fun w' h => H8.keep h⟩
  have ZK : Kp (∀ w', Below w6.heap.size w6 w' → w'.heap[w4.heap.size]? = _) := ⟨fun w' h => keep_cells z6 h⟩
  have hBD := (Below.refl w6.heap.size w6).drew
  go_region_with (first
    | (go_at_call 10; refine (C2.out _ (HK.out _ hBD)).mono ?_; rintro e w7 ⟨vp7, vb7, rfl, H9, hb7, -⟩; have hb77 := hBD.trans hb7; have q0 : w7.cell? ⟨w4.heap.size, 0, none⟩ = _ := at_cells (ZK.out _ hb77) rfl; have q1 : w7.cell? ⟨w4.heap.size, 1, none⟩ = _ := at_cells (ZK.out _ hb77) rfl; have q2 : w7.cell? ⟨w4.heap.size, 2, none⟩ = _ := at_cells (ZK.out _ hb77) rfl; have q3 : w7.cell? ⟨w4.heap.size, 3, none⟩ = _ := at_cells (ZK.out _ hb77) rfl; have q4 : w7.cell? ⟨w4.heap.size, 4, none⟩ = _ := at_cells (ZK.out _ hb77) rfl)
    | (go_at_call 13; refine (C5.out _ _ _ _ _ _ _ (HZ.out _ hb77) H9).mono ?_; rintro e w8 ⟨rfl, hb8⟩))
  all_goals
    have B8 := bel_trans (bel_trans B6 hb77) hb8
    have N8 := bel_trans (bel_trans N6 hb77) hb8
    have M8 := bel_trans (bel_trans M6 hb77) hb8
    have O8 := (O6.keep hb77).keep hb8
    have z8 := keep_cells (ZK.out _ hb77) hb8
    have x8 := keep_cells (keep_cells x6 hb77) hb8
    have F8 := F4.keep M8
    have U8 := U4.keep M8
    have s8 : w4.heap.size + 1 ≤ w8.heap.size := by have := hb6.size; have := hb77.size; have := hb8.size; omega
    have z80 : w8.cell? ⟨w4.heap.size, 0, none⟩ = _ := at_cells z8 rfl
    have z81 : w8.cell? ⟨w4.heap.size, 1, none⟩ = _ := at_cells z8 rfl
    have z82 : w8.cell? ⟨w4.heap.size, 2, none⟩ = _ := at_cells z8 rfl
    have z83 : w8.cell? ⟨w4.heap.size, 3, none⟩ = _ := at_cells z8 rfl
    have z84 : w8.cell? ⟨w4.heap.size, 4, none⟩ = _ := at_cells z8 rfl
    have G8 := Kp.mk (C6.out w8 _ _ _ _ F8 U8 (by omega) (by omega))
    clear q0 q1 q2 q3 q4 x60 x61 x62 x63 x64 z60 z61 z62 z63 z64 HK HZ ZK hb6 H9 H8 x4 x5 x6 z4 z5 z6 O6 H7 H4 H5 H5' E5 hBD
    go_wp2_with fail
    refine G8.out.mono ?_
    rintro e w9 ⟨r9, rfl, r90, r91, K9⟩
    have B9 := B8.trans (K9.bel.mono (by have := B3.size; omega))
    have N9 := N8.trans K9.bel
    have O9 := K9.own _ _ _ O8 (by omega) (by omega)
    have x9 : w9.heap[W.heap.size]? = _ := (K9.bel.block W.heap.size (by have := (Array.getElem?_eq_some_iff.1 x3).1; omega)).trans x8
    have E9 := Kp.mk (C7.out _ _ _ _ _ O9 (O3.keep N9))
    have s9 : w4.heap.size + 1 ≤ w9.heap.size := by have := K9.bel.size; omega
    have s3 : w2.heap.size ≤ w3.heap.size := hb3.size
    have s2 : W.heap.size + 1 ≤ w2.heap.size := by have h1 := hb1.size; rw [World.size_alloc] at h1; have := hb2.size; omega
    clear z80 z81 z82 z83 z84 z8 F8 U8 M8 O8 N8 x8 G8
    go_wp2_with fail
    refine E9.out.mono ?_
    rintro e w10 ⟨rfl, hb10⟩
    have B10 := bel_trans B9 hb10
    have N10 := bel_trans N9 hb10
    have O10 := O9.keep hb10
    have x10 := keep_cells x9 hb10
    have s10 : w4.heap.size + 1 ≤ w10.heap.size := by have := hb10.size; omega
    have G10 := Kp.mk (C8.out _ _ _ O10)
    clear E9 x9 O9 hb10
    go_wp2_with fail
    refine G10.out.mono ?_
    rintro e w11 ⟨rfl, hb11, gb, go, gs, gc⟩
    have B11 := B10.trans (hb11.mono (by have := B3.size; omega))
    have N11 := N10.trans (hb11.mono (by omega))
    have x11 := (hb11.block W.heap.size (by omega)).trans x10
    have G11 := Kp.mk (C9.out w11 _ _ _ gs gc)
    clear G10 O10
    go_wp2_with fail
    refine G11.out.mono ?_
    rintro e w12 ⟨rfl, hb12⟩
    have B12 := bel_trans B11 hb12
    have N12 := bel_trans N11 hb12
    have x12 := keep_cells x11 hb12
    have gc12 : ∀ i, i < R.length → At w12 gb (go + i) (.int .i64 (1 + i)) := fun i hi => at_keep (gc i hi) hb12
    have y0 : w12.cell? ⟨W.heap.size, 0, none⟩ = _ := at_cells x12 rfl
    have y1 : w12.cell? ⟨W.heap.size, 1, none⟩ = _ := at_cells x12 rfl
    have y2 : w12.cell? ⟨W.heap.size, 2, none⟩ = _ := at_cells x12 rfl
    have y3 : w12.cell? ⟨W.heap.size, 3, none⟩ = _ := at_cells x12 rfl
    have y4 : w12.cell? ⟨W.heap.size, 4, none⟩ = _ := at_cells x12 rfl
    have G12 := Kp.mk (C2.out _ (H.out.keep B12))
    clear G11 gc x11 x10 hb11
    go_wp2_with fail
    refine G12.out.mono ?_
    rintro e w13 ⟨vp13, vb13, rfl, H13, hb13, -⟩
    have N13 := bel_trans N12 hb13
    have B13 := bel_trans B12 hb13
    have gc13 : ∀ i, i < R.length → At w13 gb (go + i) (.int .i64 (1 + i)) := fun i hi => at_keep (gc12 i hi) hb13
    have G13 := Kp.mk (C4.out _ _ _ _ H13)
    clear G12 gc12 y0 y1 y2 y3 y4 x12
    go_wp2_with fail
    refine G13.out.mono ?_
    rintro e w14 ⟨v14, rfl, O14, hb14⟩
    have N14 := bel_trans N13 hb14
    have B14 := bel_trans B13 hb14
    have gc14 : ∀ i, i < R.length → At w14 gb (go + i) (.int .i64 (1 + i)) := fun i hi => at_keep (gc13 i hi) hb14
    have G14 := Kp.mk (C7.out _ _ _ _ _ O14 (O3.keep N14))
    clear G13 gc13
    go_wp2_with fail
    refine G14.out.mono ?_
    rintro e w15 ⟨rfl, hb15⟩
    have B15 := bel_trans B14 hb15
    have G15 := Kp.mk (C9.out w15 _ _ _ gs (fun i hi => at_keep (gc14 i hi) hb15))
    clear G14 gc14
    go_wp2_with fail
    refine G15.out.mono ?_
    rintro e w16 ⟨rfl, hb16⟩
    go_wp2_with fail
    go_ret
    exact ⟨rfl, bel_trans B15 hb16⟩
end Go.Proofs.Ytpeplfjndidkhaa
