/- A set of whole numbers in rising order: the program's answer. -/
import Derived.Test.YtdnngdkfhemfgaaNb3
import Derived.Test.YtdnngdkfhemfgaaNb4
import Derived.Test.YtdnngdkfhemfgaaGi1
import Derived.Test.YtdnngdkfhemfgaaWs2
import Derived.Test.YtdnngdkfhemfgaaShelf
import Derived.Sort.OwnSortedInts
import Derived.Maps.RangeWalk
import Derived.Deep.DeepFit
namespace Go.Proofs.Ytdnngdkfhemfgaa
open Go.ChangeShapes Go.WideShapes Go.ChangeAt Go.RowKit
set_option linter.unusedVariables false
set_option linter.unusedSimpArgs false
/-- What has come of a set of whole numbers. -/
def CollI {H : Type} (D0 : DataW H) (left : Lit → Bool) (ss : List Int) : Prop := ss.Nodup ∧ ∀ x : Int, x ∈ ss ↔ (Maps.has D0 (.int .i64 x) = true ∧ left (.int .i64 x) = false)
theorem CollI.start {H : Type} (D0 : DataW H) : CollI D0 (Maps.has D0) [] := ⟨List.nodup_nil, fun x => by cases Maps.has D0 (.int .i64 x) <;> simp⟩
theorem CollI.step {H : Type} {D0 : DataW H} {left : Lit → Bool} {ss : List Int} (h : CollI D0 left ss) {x : Int} {y : DataW H} (hlk : left (.int .i64 x) = true) (hat : ∀ zd, D0.atKey (.int .i64 x) zd = y) : CollI D0 (fun z => left z && !z.sameKey (.int .i64 x)) (ss ++ [x]) := by
  have hhas : Maps.has D0 (.int .i64 x) = true := Maps.has_true_of_atKey hat
  have hnew : x ∉ ss := fun hx => by have := ((h.2 x).1 hx).2; rw [hlk] at this; cases this
  refine ⟨List.nodup_append.2 ⟨h.1, by simp, fun a ha b hb => by simp at hb; subst hb; exact fun e => hnew (e ▸ ha)⟩, fun y => ?_⟩
  by_cases hy : y = x
  · subst hy; simp [hhas, Lit.sameKey]
  · simp [h.2 y, hy, Lit.sameKey]
/-- What is sorted is the one rising list of these numbers. -/
theorem sorted_one {ss L : List Int} (hd : ss.Nodup) (hL : L.Pairwise (· < ·)) (hm : ∀ x, x ∈ ss ↔ x ∈ L) : ss.mergeSort (fun x y => decide (x ≤ y)) = L := by
  have hLd : L.Nodup := hL.imp (fun h e => by subst e; exact absurd h (Int.lt_irrefl _))
  have hp : ss.Perm L := (List.perm_ext_iff_of_nodup hd hLd).2 hm
  have tr : ∀ a b c : Int, decide (a ≤ b) = true → decide (b ≤ c) = true → decide (a ≤ c) = true := fun a b c h1 h2 => by simp only [decide_eq_true_eq] at *; omega
  have tt : ∀ a b : Int, (decide (a ≤ b) || decide (b ≤ a)) = true := fun a b => by simp only [Bool.or_eq_true, decide_eq_true_eq]; omega
  refine List.Perm.eq_of_pairwise (le := fun a b => decide (a ≤ b) = true) (fun a b _ _ h1 h2 => ?_) (List.pairwise_mergeSort tr tt ss) (hL.imp (fun h => by simp only [decide_eq_true_eq]; omega)) ((List.mergeSort_perm ss _).trans hp)
  simp only [decide_eq_true_eq] at h1 h2
  omega
set_option maxRecDepth 100000 in
set_option maxHeartbeats 4000000 in
theorem risingM (b n : Nat) (acc : List Int) (w : World) (h : SetI w b n acc) (hn : n ≤ 8388608) (L : List Int) (hL : L.Pairwise (· < ·)) (hm : ∀ x, x ∈ L ↔ acc.contains x = true) :
    Calls Try.prog 33 #[.map (some b)] w fun e w' => ∃ v, e = .returned v ∧ OwnI w' w.heap.size v L ∧ Below w.heap.size w w' := by
  obtain ⟨D, hown, hhas⟩ := h.ex
  obtain ⟨i0, hi0, hz0, hz1, hz2⟩ := info_parts info64
  have hDn := hown.size_le
  have hbl := hown.lt
  have hend : Kp (∀ (ss : List Int) (left : Lit → Bool), CollI D left ss → (∀ kl, left kl = false) → ss.mergeSort (fun x y => decide (x ≤ y)) = L) := ⟨fun ss left hc hl => sorted_one hc.1 hL (fun x => by rw [hc.2 x, hl, hhas x, hm x]; simp)⟩
  have CS := Kp.mk @Try.slices_Sort_int
  have CN := Kp.mk @Try.slices_Sort_int_none
  clear hL hm hhas h
  obtain ⟨M, hM⟩ : ∃ M, Kp (M = Maps.size D) := ⟨_, ⟨rfl⟩⟩
  have hMn : M ≤ 8388608 := by rw [hM.out]; omega
  clear hDn
  go_enter Try.func33, Try.ntmps33
  go_wp2_with (first
    | (at_range; refine wpList_range_own _ rfl _ 61 rfl 2 96 lawK Try.underlying61 _ b n D rfl hown ?_; intro w0 hrg0 hg0 hs0)
    | go_in)
  go_frame
  have hb0 : Below w.heap.size w w0 := (Below.refl _ _).grown hg0 (Nat.le_refl _) (fun j hj => by cases hj)
  rw [← hM.out] at hrg0
  clear hg0 hown
  go_loopw [3] (fun s wr => ∃ (ss : List Int) (left : Lit → Bool) (cnt : Nat), wr.ranges Try.prog 2 unitElem b w.heap.size n D left cnt ∧ Kp (CollI D left ss) ∧ ss.length + cnt ≤ M ∧ wr.ownsRow (w.heap.size + 1) 2 1 s ss.length (ss.map (Value.int .i64)) ∧ w.heap.size + 1 ≤ wr.heap.size ∧ Below w.heap.size w wr) (fun _ wr => wr.rangeLeft b w.heap.size)
  case atStart => exact ⟨[], _, _, hrg0, ⟨CollI.start D⟩, by simp, World.ownsRow_nil _ _ _ _, by omega, hb0⟩
  case round =>
    clear hrg0 hb0 hs0
    obtain ⟨ss, left, cnt, hrg, hC, hcs, hrow, hsz, hBl⟩ := hrel
    obtain ⟨a3, c3, rfl⟩ := (OwnI.mk hrow).shape
    go_wp2_with (first
      | (at_next; refine wpList_next_ranges _ rfl _ rfl 2 lawK unitElem (Value.int .i64) (fun _ : Unit => Value.agg #[]) (fun key kl hkey => by obtain ⟨x, rfl, _⟩ := Maps.keyOf_int_inv Try.underlying2 hkey; exact ⟨x, rfl⟩) (fun v y hv => by obtain ⟨rfl, _⟩ := unitElem_inv hv; exact ⟨(), rfl⟩) b w.heap.size n _ _ _ rfl hrg ?_ ?_)
      | go_in)
    · intro hc0 hl0
      have hs := hend.out ss left hC.out hl0
      by_cases hl : ss.length = 0
      · obtain rfl : ss = [] := List.eq_nil_of_length_eq_zero hl
        have hLn : L = [] := by rw [← hs]; simp
        have hrow2 : OwnI wr w.heap.size (.slice a3 0 c3) L := by rw [hLn]; exact ⟨Joins_le hrow⟩
        have C0 := Kp.mk (CN.out a3 c3 wr)
        clear hrow hrg hs hLn hC
        dsimp only [List.length_nil]
        go_wp2_with (go_at_call 56; go_fit C0.out; rintro e w2 ⟨rfl, rfl⟩)
        go_ret
        exact ⟨_, rfl, hrow2, hBl⟩
      · rcases hrow.2 with ⟨-, e⟩ | ⟨g, cap, cur, hv, hgb, hg, h1, h2, h3, h4⟩
        · exact absurd (by simpa using e) hl
        cases hv
        have hgl := (Array.getElem?_eq_some_iff.1 hg).1
        have hlen : L.length = ss.length := by rw [← hs]; simp
        have C0 := CS.out g 0 c3 ss wr (Go.holds_of_blockI hg (by simpa using h4)) hgl (by omega)
        rw [hs] at C0
        have hfin : Kp (∀ n os, OwnI (Go.Sort.grow (Go.Sort.putRow (Value.int .i64) (Go.Sort.ahead wr n) g 0 L.toArray) os) w.heap.size (.slice (some ⟨g, 0, none⟩) ss.length c3) L ∧ Below w.heap.size w (Go.Sort.grow (Go.Sort.putRow (Value.int .i64) (Go.Sort.ahead wr n) g 0 L.toArray) os)) := ⟨fun n os => ⟨⟨by
            have q := Go.ownsRow_sortedI (base := w.heap.size) (n := n) (os := os) hlen (by omega) hg h1 h2 h3
            rw [hlen]
            exact q⟩, hBl.grown (Go.grownBy_sortedI L.toArray) hBl.size (fun k hk => by cases hk; omega)⟩⟩
        replace C0 := Kp.mk C0
        clear hrow hrg hs hC hg h3 h4 hlen
        go_wp2_with (go_at_call 56; go_fit C0.out; rintro e w2 ⟨rfl, n2, os2, rfl⟩; have hfin2 := Kp.mk (hfin.out n2 os2); generalize Go.Sort.grow (Go.Sort.putRow (Value.int .i64) (Go.Sort.ahead wr n2) g 0 L.toArray) os2 = w2 at *)
        go_ret
        exact ⟨_, rfl, hfin2.out.1, hfin2.out.2⟩
    · intro x c kl y w1 cnt1 hkey hlk hv hat hrg1 hlt hg1 hs1 hen
      obtain ⟨x', ex, rfl, hwx⟩ := Maps.keyOf_int_inv Try.underlying2 hkey
      cases ex
      have hrow1 := hrow.kept hg1 (Or.inr (own_ne_at hrow (Nat.lt_succ_self _)))
      have hBl1 := hBl.grown hg1 hBl.size (fun k hk => by cases hk; exact Nat.le_refl _)
      have hC1 := Kp.mk (hC.out.step hlk hat)
      have hml := Kp.mk hrg.left_eq
      have hsl : ss.length ≤ 8388608 := by omega
      replace hrg1 := Kp.mk hrg1
      have hs1a : w.heap.size + 1 ≤ w1.heap.size := by omega
      clear hs1
      clear hrow hBl hg1 hkey hlk hv hat hC hrg CS CN hend
      go_wp2_with (first
        | (at_builtin; refine wpList_append_vals _ rfl _ _ 22 rfl (w.heap.size + 1) 2 i0 (.int .i64 0) 1 8 Try.underlying22 hi0 hz0 hz1 hz2 rfl (by decide) _ _ _ rfl (hrow1.alloc _) (some ⟨w1.heap.size, 0, none⟩) w1.heap.size 0 1 1 [.int .i64 x] rfl (fun _ => rfl) rfl (one_new w1 _ _) one_cell (by unfold maxLen; omega) (by omega) (by simp; omega) ?_; intro v3 w3 hrow3 hgrow3)
        | go_in)
      have hrg3 := (hrg1.out.alloc _).kept hgrow3 (fun e => own_ne_at hrow1 (by omega) e.symm) (fun e => own_ne_at hrow1 (by omega) e.symm)
      have hB3 := own_bel (hBl1.alloc hBl1.size _) (Joins_le (hrow1.alloc _)) hgrow3 (by simp; omega)
      have hsz3 : w.heap.size + 1 ≤ w3.heap.size := by have := hgrow3.size; simp at this; omega
      have hrow4 : w3.ownsRow (w.heap.size + 1) 2 1 v3 (ss ++ [x]).length ((ss ++ [x]).map (Value.int .i64)) := by simpa using hrow3
      replace hrg3 := Kp.mk hrg3
      clear hrow1 hrow3 hgrow3 hBl1 hrg1 hen
      go_wp2_with fail
      exact ⟨⟨ss ++ [x], _, cnt1, hrg3.out, hC1, by simp; omega, hrow4, hsz3, hB3⟩, by rw [hrg3.out.left_eq, hml.out]; exact hlt⟩
theorem risingI (b n : Nat) (acc : List Int) (w : World) (h : SetI w b n acc) (hn : n ≤ 1048576) (L : List Int) (hL : L.Pairwise (· < ·)) (hm : ∀ x, x ∈ L ↔ acc.contains x = true) :
    Calls Try.prog 33 #[.map (some b)] w fun e w' => ∃ v, e = .returned v ∧ OwnI w' w.heap.size v L ∧ Below w.heap.size w w' := risingM b n acc w h (by omega) L hL hm
end Go.Proofs.Ytdnngdkfhemfgaa
