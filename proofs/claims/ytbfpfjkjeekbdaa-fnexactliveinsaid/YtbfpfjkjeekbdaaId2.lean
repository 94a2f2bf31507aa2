/- Dominators: the specification's search over the table of dominators. -/
import Derived.Test.YtbfpfjkjeekbdaaId0
import Derived.Test.YtbfpfjkjeekbdaaRe1
import Derived.Test.YtbfpfjkjeekbdaaGs1
import Derived.Test.YtbfpfjkjeekbdaaDe0
namespace Go.Proofs.Ytbfpfjkjeekbdaa
open Go.ChangeShapes Go.WideShapes Go.ChangeAt Go.RowKit
set_option linter.unusedVariables false
set_option linter.unusedSimpArgs false
/-- A table of Booleans, to be read. -/
structure Mtx (w : World) (v : Value) (n : Nat) (dm : Nat → Nat → Bool) : Prop where
  ex : ∃ a c, v = .slice a n c ∧ ∀ i, i < n → ∃ hb bi ci, a = some ⟨hb, 0, none⟩ ∧ At w hb i (.slice (some ⟨bi, 0, none⟩) n ci) ∧ ∀ j, j < n → At w bi j (.bool (dm i j))
theorem Mtx.keep {w w' : World} {v : Value} {n : Nat} {dm : Nat → Nat → Bool} (h : Mtx w v n dm) (hb : Below w.heap.size w w') : Mtx w' v n dm := by
  obtain ⟨a, c, e, h⟩ := h.ex
  refine ⟨a, c, e, fun i hi => ?_⟩
  obtain ⟨g, bi, ci, h1, h2, h3⟩ := h i hi
  exact ⟨g, bi, ci, h1, at_keep h2 hb, fun j hj => at_keep (h3 j hj) hb⟩
/-- The best so far, by a table. -/
def bsf (dm : Nat → Nat → Bool) (b : Nat) : Nat → Int
  | 0 => -1
  | k + 1 => if k ≠ b ∧ dm k b = true ∧ (bsf dm b k < 0 ∨ dm (bsf dm b k).toNat k = true) then (k : Int) else bsf dm b k
theorem bsf_lo (dm : Nat → Nat → Bool) (b : Nat) : ∀ k, -1 ≤ bsf dm b k ∧ bsf dm b k < k
  | 0 => by unfold bsf; omega
  | k + 1 => by
    have := bsf_lo dm b k
    unfold bsf
    split <;> omega
theorem bsf_bst {bls : List (List InD)} {dm : Nat → Nat → Bool} {n : Nat} (h : ∀ i j : Nat, i < n → j < n → dm i j = dmB bls i j) {b : Nat} (hb : b < n) : ∀ k, k ≤ n → bsf dm b k = bst bls b k
  | 0, _ => rfl
  | k + 1, hk => by
    have ih := bsf_bst h hb k (by omega)
    have l := bsf_lo dm b k
    show (if _ then _ else _) = (if _ then _ else _)
    rw [← ih, h k b (by omega) hb]
    have : (bsf dm b k < 0 ∨ dm (bsf dm b k).toNat k = true) ↔ (bsf dm b k < 0 ∨ dmB bls (bsf dm b k) k = true) := by
      by_cases q : bsf dm b k < 0
      · simp [q]
      · rw [h _ k (by omega) (by omega), show (((bsf dm b k).toNat : Nat) : Int) = bsf dm b k by omega]
    simp only [this]
end Go.Proofs.Ytbfpfjkjeekbdaa
namespace Go.Proofs.Ytbfpfjkjeekbdaa
open Go.ChangeShapes Go.WideShapes Go.ChangeAt Go.RowKit
set_option linter.unusedVariables false
set_option linter.unusedSimpArgs false
/-- A row of Booleans. -/
structure BRow (w : World) (rb n : Nat) (f : Nat → Bool) : Prop where
  ex : ∃ cur : Array Value, w.heap[rb]? = some (Go.Obj.cells cur 4 (0, 0)) ∧ ∀ i, i < n → cur[i]? = some (.bool (f i))
section
variable {w w' : World} {rb n : Nat} {f : Nat → Bool}
theorem BRow.at (h : BRow w rb n f) {i : Nat} (hi : i < n) : At w rb i (.bool (f i)) := by
  obtain ⟨cur, h1, h2⟩ := h.ex
  exact at_cells h1 (h2 i hi)
theorem BRow.rw (h : BRow w rb n f) (i : Nat) : w.frozen? ⟨rb, i, none⟩ = false := by
  obtain ⟨cur, h1, h2⟩ := h.ex
  exact rw_cells h1 i
theorem BRow.lt (h : BRow w rb n f) : rb < w.heap.size := by
  obtain ⟨cur, h1, h2⟩ := h.ex
  exact (Array.getElem?_eq_some_iff.1 h1).1
theorem BRow.keep (h : BRow w rb n f) (hb : Below w.heap.size w w') : BRow w' rb n f := by
  obtain ⟨cur, h1, h2⟩ := h.ex
  exact ⟨cur, keep_cells h1 hb, h2⟩
theorem BRow.kept {row : Option Nat} (h : BRow w rb n f) (hg : w.grownBy w' row) (hne : some rb ≠ row) : BRow w' rb n f := by
  obtain ⟨cur, h1, h2⟩ := h.ex
  exact ⟨cur, (hg.block _ (Array.getElem?_eq_some_iff.1 h1).1 hne).trans h1, h2⟩
theorem BRow.ne {base size m : Nat} {e : TypeId} {v : Value} {xs : List Value} (h : BRow w rb n f) (ho : w.ownsRow base e size v m xs) (he : 4 ≠ e) : some rb ≠ v.ownBlock := by
  obtain ⟨cur, h1, h2⟩ := h.ex
  exact own_ne ho h1 he
theorem BRow.set (h : BRow w rb n f) {j : Nat} (hj : j < n) (x : Bool) {g : Nat → Bool} (he : ∀ i, i < n → g i = if i = j then x else f i) : BRow (w.setCell ⟨rb, j, none⟩ (.bool x)) rb n g := by
  obtain ⟨cur, h1, h2⟩ := h.ex
  refine ⟨_, set_cells h1 j _, fun i hi => ?_⟩
  have hc := (Array.getElem?_eq_some_iff.1 (h2 j hj)).1
  rw [he i hi]
  by_cases e : i = j
  · subst e
    simp [hc]
  · rw [if_neg e]
    simp only [Array.getElem?_setIfInBounds]
    rw [if_neg (Ne.symm e)]
    exact h2 i hi
theorem BRow.congr {g : Nat → Bool} (h : BRow w rb n f) (he : ∀ i, i < n → g i = f i) : BRow w rb n g := by
  obtain ⟨cur, h1, h2⟩ := h.ex
  exact ⟨cur, h1, fun i hi => by rw [he i hi]; exact h2 i hi⟩
end
theorem infoB : (Try.prog.info? 73).map (fun i => (i.zero, i.size, i.bytes)) = some (some (.slice none 0 0), 1, 24) := by kernel_rfl
/-- The table, row by row. -/
def rowsV (rs : Nat → Nat) (n b : Nat) : List Value := (List.range b).map (fun i => Value.slice (some ⟨rs i, 0, none⟩) n n)
theorem rowsV_len (rs : Nat → Nat) (n b : Nat) : (rowsV rs n b).length = b := by simp [rowsV]
theorem rowsV_snoc (rs : Nat → Nat) (n b rb : Nat) : rowsV (upd rs b rb) n (b + 1) = rowsV rs n b ++ [Value.slice (some ⟨rb, 0, none⟩) n n] := by
  unfold rowsV
  rw [List.range_succ, List.map_append, List.map_singleton, upd_same]
  congr 1
  refine List.map_congr_left fun i hi => ?_
  rw [upd_other _ _ _ _ (by have := List.mem_range.1 hi; omega)]
theorem mtx_of {w : World} {base n : Nat} {v : Value} {rs : Nat → Nat} {dm : Nat → Nat → Bool} (h : w.ownsRow base 73 1 v n (rowsV rs n n)) (hr : ∀ i, i < n → BRow w (rs i) n (dm i)) : Mtx w v n dm := by
  obtain ⟨-, ⟨rfl, q⟩ | ⟨bN, cN, cur, rfl, h1, h2, h3, h4, h5, h6⟩⟩ := h
  · have : n = 0 := by omega
    subst this
    exact ⟨_, _, rfl, fun i hi => absurd hi (by omega)⟩
  · refine ⟨_, _, rfl, fun i hi => ⟨bN, rs i, n, rfl, ?_, fun j hj => (hr i hi).at hj⟩⟩
    have hy : (rowsV rs n n)[i]? = some (Value.slice (some ⟨rs i, 0, none⟩) n n) := by simp [rowsV, hi]
    rw [← h6, List.getElem?_take, if_pos (by omega)] at hy
    exact at_cells h2 (by simpa using hy)
set_option maxRecDepth 100000 in
set_option maxHeartbeats 4000000 in
theorem domsS (blocks : List (List InD)) (n lo : Nat) (hnl : Kp (blocks.length = n)) (w : World) (vN vP : Value) (G : Rws lo w vN n (fun i => nextL blocks i)) (hP : ∃ a m c, vP = .slice a m c) (hn : n ≤ 1048576)
    (hnx : ∀ i : Nat, i < n → (nextL blocks i).length ≤ 1048576 ∧ ∀ y ∈ nextL blocks i, 0 ≤ y ∧ y < (n : Int)) :
    Calls Try.prog 26 #[.agg #[vN, vP]] w fun e w' => ∃ v, e = .returned v ∧ Mtx w' v n (fun i j => dmB blocks i j) ∧ Below w.heap.size w w' := by
  have CR : Kp (∀ (W : World) (wo : Int), Below w.heap.size w W → Calls Try.prog 50 #[.agg #[vN, vP], .int .i64 0, .int .i64 wo] W _) := ⟨fun W wo hW => reachS (nextL blocks) n lo W vN vP (G.keep hW) hP hn hnx 0 wo⟩
  have hin := nextL_in blocks
  rw [hnl.out] at hin
  have hdm : Kp (∀ (ka kb : Nat) (s1 s2 : List Int), ka < n → kb < n → (∀ y, y ∈ s1 ↔ 0 ≤ (0 : Int) ∧ (0 : Int) < n ∧ Way (EB (nextL blocks)) (fun z => z ≠ -1) 0 y) → (∀ y, y ∈ s2 ↔ 0 ≤ (0 : Int) ∧ (0 : Int) < n ∧ Way (EB (nextL blocks)) (fun z => z ≠ (ka : Int)) 0 y) → dmB blocks ka kb = (s1.contains (kb : Int) && !s2.contains (kb : Int))) := ⟨fun ka kb s1 s2 ha hb h1 h2 => by
    have hr : (0 : Int) ≤ 0 ∧ (0 : Int) < n := ⟨by omega, by omega⟩
    refine dmB_eq ?_
    rw [Bool.and_eq_true, Bool.not_eq_true', ← Bool.not_eq_true, List.contains_iff_mem, List.contains_iff_mem, h1, h2]
    constructor
    · rintro ⟨⟨-, -, q⟩, q2⟩
      exact ⟨by have := hnl.out; omega, q.mono (fun _ _ => trivial), fun q3 => q2 ⟨hr.1, hr.2, q3⟩⟩
    · rintro ⟨-, q1, q2⟩
      exact ⟨⟨hr.1, hr.2, way_past hin (by omega) q1 hr⟩, fun q => q2 q.2.2⟩⟩
  obtain ⟨O, hmk, hSO⟩ := mkSeen n hn
  obtain ⟨i0, hi0, hz0, hz1, hz2⟩ := info_parts infoB
  obtain ⟨_, _, ⟨⟨aN, cN, rfl, -, -⟩, -⟩, -, -⟩ := G.ex
  obtain ⟨aP, mP, cP, rfl⟩ := hP
  clear G hnx hin
  obtain ⟨Bo, hBo⟩ : ∃ Bo, Kp (Bo = Go.Obj.cells #[.slice aN n cN, .slice aP mP cP] 45 (0, 0)) := ⟨_, ⟨rfl⟩⟩
  obtain ⟨W0, hW0⟩ : ∃ W0, Kp (W0 = w.alloc (Go.Obj.cells #[.slice aN n cN, .slice aP mP cP] 45)) := ⟨_, ⟨rfl⟩⟩
  have hB0 : Below w.heap.size w W0 := by rw [hW0.out]; exact bel_alloc _ _
  have hg0 : W0.heap[w.heap.size]? = some Bo := by rw [hW0.out, hBo.out]; exact new_cells _ _
  have SK : Kp (∀ W' : World, W'.heap[w.heap.size]? = some Bo → W'.cell? ⟨w.heap.size, 0, none⟩ = some (.slice aN n cN) ∧ W'.cell? ⟨w.heap.size, 1, none⟩ = some (.slice aP mP cP)) := ⟨fun W' h1 => by
    rw [hBo.out] at h1
    exact ⟨at_cells h1 rfl, at_cells h1 rfl⟩⟩
  obtain ⟨y0, y1⟩ := SK.out W0 hg0
  have C1 := Kp.mk (CR.out W0 (-1) hB0)
  replace hSO := Kp.mk hSO
  go_enter Try.func26, Try.ntmps26
  go_upto_region 1 with fail
  rw [← hW0.out]
  go_wp2_with fail
  refine C1.out.mono ?_
  rintro e W1 ⟨s1, rfl, hS1, hB1, hm1⟩
  have hg1 : W1.heap[w.heap.size]? = some Bo := keep_cells hg0 hB1
  have hB01 := bel_trans hB0 hB1
  obtain ⟨ba, hba⟩ : ∃ ba, Kp (W0.heap.size + 1 = ba) := ⟨_, ⟨rfl⟩⟩
  rw [hba.out] at hS1 ⊢
  replace hm1 := Kp.mk hm1
  clear y0 y1 C1
  go_wp2_with fail
  go_loopw [5, 6] (fun vo s wr => ∃ (b : Nat) (rs : Nat → Nat), b ≤ n ∧ s = .int .i64 b ∧ wr.ownsRow W1.heap.size 73 1 vo (rowsV rs n b).length (rowsV rs n b) ∧ (∀ i, i < b → BRow wr (rs i) n (fun j => dmB blocks i j)) ∧ Below W1.heap.size W1 wr) (fun _ s _ => n - (intOf s).toNat)
  case atStart => exact ⟨0, fun _ => 0, Nat.zero_le _, rfl, ⟨rfl, .inr ⟨W1.heap.size, 0, #[], rfl, Nat.le_refl _, new_cells W1 _, Nat.le_refl _, by decide, rfl, rfl⟩⟩, fun i hi => absurd hi (by omega), bel_alloc _ _⟩
  case round =>
    obtain ⟨b, rs, hb, rfl, hown, hrows, hBl⟩ := hrel
    have b0 : (0 : Int) ≤ (b : Int) := by omega
    have hlen := rowsV_len rs n b
    obtain ⟨a8, c8, rfl⟩ := row_shape hown
    rw [hlen] at *
    have hg2 := keep_cells hg1 hBl
    obtain ⟨y0, y1⟩ := SK.out wr hg2
    by_cases hlt : b < n
    · have b1 : (b : Int) < (n : Int) := by omega
      have C2 := Kp.mk (CR.out wr b (bel_trans hB01 hBl))
      replace hown := Kp.mk hown
      replace hrows := Kp.mk hrows
      go_wp2_with fail
      refine C2.out.mono ?_
      rintro e W3 ⟨s2, rfl, hS2, hB3, hm2⟩
      have hR := Kp.mk (fun j hj => hdm.out b j s1 s2 hlt hj hm1.out hm2)
      have hBl3 := bel_trans hBl hB3
      have hS1' := hS1.keep hBl3
      have hmk3 := hmk W3
      have hS3 := hSO.out W3
      have hr0 : BRow (W3.alloc O) W3.heap.size n (fun j => decide (j < 0) && (s1.contains (j : Int) && !s2.contains (j : Int))) := by
        obtain ⟨cur, h1, h2⟩ := hS3.ex
        exact ⟨cur, h1, fun i hi => by rw [h2 i hi]; simp⟩
      have hBa := bel_alloc W3 O
      obtain ⟨bs, hbs⟩ : ∃ bs, Kp (wr.heap.size + 1 = bs) := ⟨_, ⟨rfl⟩⟩
      rw [hbs.out] at hS2 ⊢
      replace hm2 := Kp.mk hm2
      clear y0 y1 C2 hS3
      go_wp2_with fail
      go_loopw [9] (fun s wz => ∃ k : Nat, k ≤ n ∧ s = .int .i64 k ∧ BRow wz W3.heap.size n (fun j => decide (j < k) && (s1.contains (j : Int) && !s2.contains (j : Int))) ∧ Below W3.heap.size W3 wz) (fun s _ => n - (intOf s).toNat)
      case atStart => exact ⟨0, Nat.zero_le _, rfl, hr0, hBa⟩
      case round =>
        clear hr0 hBa
        rename_i wz0
        obtain ⟨k, hk, rfl, hrow, hBz⟩ := hrel
        have k0 : (0 : Int) ≤ (k : Int) := by omega
        by_cases hkn : k < n
        · have k1 : (k : Int) < (n : Int) := by omega
          have d1 := (hS1'.keep hBz).at hkn
          have d2 := (hS2.keep hBz).at hkn
          have d3 := hrow.at hkn
          have d4 := hrow.rw k
          have hset : ∀ x, x = (s1.contains (k : Int) && !s2.contains (k : Int)) → ∀ i, i < n → (decide (i < k + 1) && (s1.contains (i : Int) && !s2.contains (i : Int))) = if i = k then x else (decide (i < k) && (s1.contains (i : Int) && !s2.contains (i : Int))) := fun x hx i hi => by
            by_cases e : i = k
            · subst e; rw [if_pos rfl, hx]; simp
            · rw [if_neg e, show decide (i < k + 1) = decide (i < k) by simp; omega]
          cases h1 : s1.contains (k : Int) with
          | false =>
            rw [h1] at d1
            have hrow2 := Kp.mk (hrow.set hkn false (hset _ (by rw [h1]; rfl)))
            replace hrow := Kp.mk hrow
            replace hset := Kp.mk hset
            go_wp2_with fail
            exact ⟨⟨k + 1, by omega, by go_num, hrow2.out, hBz.setCell (Nat.le_refl _) _⟩, by simp [intOf]; omega⟩
          | true =>
            rw [h1] at d1
            cases h2 : s2.contains (k : Int) with
            | false =>
              rw [h2] at d2
              have hrow2 := Kp.mk (hrow.set hkn true (hset _ (by rw [h1, h2]; rfl)))
              replace hrow := Kp.mk hrow
              replace hset := Kp.mk hset
              go_wp2_with fail
              exact ⟨⟨k + 1, by omega, by go_num, hrow2.out, hBz.setCell (Nat.le_refl _) _⟩, by simp [intOf]; omega⟩
            | true =>
              rw [h2] at d2
              have hrow2 := Kp.mk (hrow.set hkn false (hset _ (by rw [h1, h2]; rfl)))
              replace hrow := Kp.mk hrow
              replace hset := Kp.mk hset
              go_wp2_with fail
              exact ⟨⟨k + 1, by omega, by go_num, hrow2.out, hBz.setCell (Nat.le_refl _) _⟩, by simp [intOf]; omega⟩
        · obtain rfl : k = n := by omega
          have hown4 := row_kept (row_kept hown.out hB3) hBz
          have hall := bel_trans hBl3 hBz
          have hsz := hall.size
          have hrowsZ : ∀ i, i < b → BRow wr (rs i) k (fun j => dmB blocks i j) := fun i hi => ((hrows.out i hi).keep hB3).keep hBz
          have hrowN : BRow wr W3.heap.size k (fun j => dmB blocks b j) := hrow.congr (fun j hj => by rw [hR.out j hj]; simp [hj])
          replace hR := Kp.mk hR
          clear hrow hS1' hS2
          go_wp2_with (at_builtin; refine wpList_append_vals _ rfl _ _ 48 rfl W1.heap.size 73 i0 (.slice none 0 0) 1 24 Try.underlying48 hi0 hz0 hz1 hz2 rfl (by decide) _ _ _ rfl (hown4.alloc _) (some ⟨wr.heap.size, 0, none⟩) wr.heap.size 0 1 1 [.slice (some ⟨W3.heap.size, 0, none⟩) k k] rfl (fun _ => rfl) rfl (one_new wr _ _) (by simp [Value.oneCell']) (by unfold maxLen; omega) (by omega) (by simp; omega) ?_; intro v3 w3 hown5 hgrow5)
          have hB5 := own_bel (hall.alloc hall.size _) (hown4.alloc _) hgrow5 (by simp; omega)
          have hown6 : w3.ownsRow W1.heap.size 73 1 v3 (rowsV (upd rs b W3.heap.size) k (b + 1)).length (rowsV (upd rs b W3.heap.size) k (b + 1)) := by
            rw [rowsV_len, rowsV_snoc]
            simpa using hown5
          have hrows6 : ∀ i, i < b + 1 → BRow w3 (upd rs b W3.heap.size i) k (fun j => dmB blocks i j) := fun i hi => by
            by_cases e : i = b
            · subst e
              rw [upd_same]
              have q := hrowN.keep (bel_alloc wr (Go.Obj.cells #[.slice (some ⟨W3.heap.size, 0, none⟩) k k] 73))
              exact q.kept hgrow5 (q.ne (hown4.alloc _) (by decide))
            · rw [upd_other _ _ _ _ e]
              have q := (hrowsZ i (by omega)).keep (bel_alloc wr (Go.Obj.cells #[.slice (some ⟨W3.heap.size, 0, none⟩) k k] 73))
              exact q.kept hgrow5 (q.ne (hown4.alloc _) (by decide))
          clear hown4 hown5 hgrow5 hrowsZ hrowN
          go_wp2_with fail
          exact ⟨⟨b + 1, _, by omega, by go_num, hown6, hrows6, hB5⟩, by simp [intOf]; omega⟩
    · obtain rfl : b = n := by omega
      go_wp2_with fail
      go_ret
      exact ⟨_, rfl, mtx_of hown hrows, bel_trans hB01 hBl⟩
end Go.Proofs.Ytbfpfjkjeekbdaa
