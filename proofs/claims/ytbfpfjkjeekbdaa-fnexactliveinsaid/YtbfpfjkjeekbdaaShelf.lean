/-
  DERIVED: THE SHELF's CONTRACTS AT THIS DUMP, IN PLAIN WORDS (tools/lay-plain.mjs out of 'TryShelf.lean', which tools/lay-shelf.mjs wrote): THE SAME DECLARATIONS UNDER THE SAME NAMES: 'import', 'namespace', 'open', 'def', 'theorem' AND NOTHING ELSE: no command of the shelf's: FOR A HAND-IN. Each laying: the table of numbers ('.._ren') and one theorem, a field a fact of the dump's own or the kernel's comparison; each contract: ONE APPLICATION.
-/
import Derived.Shelf.Small.Bits
import Derived.Shelf.Strconv.Itoa0
import Derived.Shelf.Bits.Mul64
import Derived.Ground.SlgnProg
import Derived.Shelf.SlicesE.Clone
import Derived.Ground.SlgmProg
import Derived.Shelf.SortM.Plain
import Derived.Shelf.SortM.SortNone
import Derived.Test.YtbfpfjkjeekbdaaProg
import Derived.Test.YtbfpfjkjeekbdaaNb3
import Derived.Test.YtbfpfjkjeekbdaaGi1
import Derived.Test.YtbfpfjkjeekbdaaGs1
import Derived.Sort.OwnSortedInts
import Derived.Maps.RangeWalk
import Derived.Deep.DeepFit
namespace Go.Proofs
open Go.Shelf
def Try.laysSlM5_f56_ren : Go.Shelf.Ren := ⟨fun | 5 => 56 | 8 => 75 | 7 => 74 | 19 => 99 | 20 => 100 | 10 => 90 | 11 => 91 | 12 => 92 | 13 => 93 | 14 => 94 | 15 => 95 | 16 => 96 | 17 => 97 | 18 => 98 | 30 => 109 | 31 => 110 | 32 => 111 | 33 => 112 | 34 => 113 | 35 => 114 | 40 => 118 | n => n, fun | 23 => 22 | 25 => 2 | 3 => 3 | 32 => 125 | 22 => 22 | 0 => 0 | 44 => 151 | 46 => 113 | 4 => 4 | 36 => 161 | 35 => 160 | 41 => 139 | 5 => 5 | 9 => 9 | 53 => 174 | 57 => 178 | 63 => 184 | 64 => 185 | n => n, fun | n => n⟩
theorem Try.laysSlM5_f56 : Go.Proofs.SlLaysM.n5 Try.prog Try.laysSlM5_f56_ren := {
  mixed := by kernel_rfl
  f5 := ⟨Try.f56.name, by decide, Try.func56.trans (congrArg some (by kernel_rfl))⟩
  f7 := ⟨Try.f74.name, by decide, Try.func74.trans (congrArg some (by kernel_rfl))⟩
  f8 := Try.func75.trans (congrArg some (by kernel_rfl))
  f10 := ⟨Try.f90.name, by decide, Try.func90.trans (congrArg some (by kernel_rfl))⟩
  f11 := ⟨Try.f91.name, by decide, Try.func91.trans (congrArg some (by kernel_rfl))⟩
  f12 := ⟨Try.f92.name, by decide, Try.func92.trans (congrArg some (by kernel_rfl))⟩
  f13 := ⟨Try.f93.name, by decide, Try.func93.trans (congrArg some (by kernel_rfl))⟩
  f14 := ⟨Try.f94.name, by decide, Try.func94.trans (congrArg some (by kernel_rfl))⟩
  f15 := ⟨Try.f95.name, by decide, Try.func95.trans (congrArg some (by kernel_rfl))⟩
  f16 := ⟨Try.f96.name, by decide, Try.func96.trans (congrArg some (by kernel_rfl))⟩
  f17 := ⟨Try.f97.name, by decide, Try.func97.trans (congrArg some (by kernel_rfl))⟩
  f18 := ⟨Try.f98.name, by decide, Try.func98.trans (congrArg some (by kernel_rfl))⟩
  f19 := Try.func99.trans (congrArg some (by kernel_rfl))
  f20 := Try.func100.trans (congrArg some (by kernel_rfl))
  f30 := ⟨Try.f109.name, by decide, Try.func109.trans (congrArg some (by kernel_rfl))⟩
  f31 := Try.func110.trans (congrArg some (by kernel_rfl))
  f32 := Try.func111.trans (congrArg some (by kernel_rfl))
  f33 := ⟨Try.f112.name, by decide, Try.func112.trans (congrArg some (by kernel_rfl))⟩
  f34 := ⟨Try.f113.name, by decide, Try.func113.trans (congrArg some (by kernel_rfl))⟩
  f35 := ⟨Try.f114.name, by decide, Try.func114.trans (congrArg some (by kernel_rfl))⟩
  f40 := ⟨Try.f118.name, by decide, Try.func118.trans (congrArg some (by kernel_rfl))⟩
  t0 := Try.underlying0
  a0 := Try.isAgg0
  z0 := Try.sizeOf0
  v0 := Try.zeroValue0
  t3 := Try.underlying3
  a3 := Try.isAgg3
  z3 := Try.sizeOf3
  v3 := Try.zeroValue3
  t4 := Try.underlying4
  a4 := Try.isAgg4
  z4 := Try.sizeOf4
  v4 := Try.zeroValue4
  t5 := Try.underlying5
  a5 := Try.isAgg5
  z5 := Try.sizeOf5
  v5 := Try.zeroValue5
  t9 := Try.underlying9
  a9 := Try.isAgg9
  z9 := Try.sizeOf9
  v9 := Try.zeroValue9
  t22 := Try.underlying22
  a22 := Try.isAgg22
  z22 := Try.sizeOf22
  v22 := Try.zeroValue22
  t23 := Try.underlying22
  a23 := Try.isAgg22
  z23 := Try.sizeOf22
  v23 := Try.zeroValue22
  t25 := Try.underlying2
  a25 := Try.isAgg2
  z25 := Try.sizeOf2
  v25 := Try.zeroValue2
  t32 := Try.underlying125
  a32 := Try.isAgg125
  z32 := Try.sizeOf125
  v32 := Try.zeroValue125
  t35 := Try.underlying160
  a35 := Try.isAgg160
  z35 := Try.sizeOf160
  v35 := Try.zeroValue160
  t36 := Try.underlying161
  a36 := Try.isAgg161
  z36 := Try.sizeOf161
  v36 := Try.zeroValue161
  t41 := Try.underlying139
  a41 := Try.isAgg139
  z41 := Try.sizeOf139
  v41 := Try.zeroValue139
  t44 := Try.underlying151
  a44 := Try.isAgg151
  z44 := Try.sizeOf151
  v44 := Try.zeroValue151
  t46 := Try.underlying113
  a46 := Try.isAgg113
  z46 := Try.sizeOf113
  v46 := Try.zeroValue113
  t53 := Try.underlying174
  a53 := Try.isAgg174
  z53 := Try.sizeOf174
  v53 := Try.zeroValue174
  t57 := Try.underlying178
  a57 := Try.isAgg178
  z57 := Try.sizeOf178
  v57 := Try.zeroValue178
  t63 := Try.underlying184
  a63 := Try.isAgg184
  z63 := Try.sizeOf184
  v63 := Try.zeroValue184
  t64 := Try.underlying185
  a64 := Try.isAgg185
  z64 := Try.sizeOf185
  v64 := Try.zeroValue185 }
open Go.Sort Go.RowKit in
theorem Try.slices_Sort_int (blk off cap : Nat) (zs : List Int) (w : World) (hH : Holds (Value.int .i64) w blk off zs.toArray) (hblk : blk < w.heap.size) (hsz : zs.length < 4611686018427387904) :
    Calls Try.prog 56 #[.slice (some ⟨blk, off, none⟩) zs.length cap] w fun e w' =>
      e = .returned (.tuple #[]) ∧ ∃ n os, w' = grow (putRow (Value.int .i64) (Sort.ahead w n) blk off (zs.mergeSort fun x y => decide (x ≤ y)).toArray) os := AnyM.slices_Sort_int Try.laysSlM5_f56 blk off cap zs w hH hblk hsz
open Go.RowKit Go.Sort in
/-- .. and plain. (LAID AT THE INSTANCE 'slices.Sort[[]int64,int64]': no walk: one application.) -/
theorem Try.slices_Sort_int_none (p : Option Addr) (cap : Nat) (w : World) :
    Calls Try.prog 56 #[.slice p 0 cap] w fun e w' => e = .returned (.tuple #[]) ∧ w' = w := AnyM.slices_Sort_int_none Try.laysSlM5_f56 p cap w
end Go.Proofs
namespace Go.Proofs.Ytbfpfjkjeekbdaa
open Go.ChangeShapes Go.WideShapes Go.ChangeAt Go.RowKit
set_option linter.unusedVariables false
set_option linter.unusedSimpArgs false
/-- What has come of a set of whole numbers. -/
def CollI {H : Type} (D0 : DataW H) (left : Lit → Bool) (ss : List Int) : Prop := ss.Nodup ∧ ∀ x : Int, x ∈ ss ↔ (Maps.has D0 (.int .i64 x) = true ∧ left (.int .i64 x) = false)
theorem CollI.start {H : Type} (D0 : DataW H) : CollI D0 (Maps.has D0) [] := ⟨List.nodup_nil, fun x => by cases Maps.has D0 (.int .i64 x) <;> simp⟩
theorem CollI.step {H : Type} {D0 : DataW H} {left : Lit → Bool} {ss : List Int} (h : CollI D0 left ss) {x : Int} {y : DataW H} (hlk : left (.int .i64 x) = true) (hat : ∀ zd, D0.atKey (.int .i64 x) zd = y) : CollI D0 (fun z => left z && !z.sameKey (.int .i64 x)) (ss ++ [x]) := by
  have hhas : Maps.has D0 (.int .i64 x) = true := Maps.has_true_of_atKey hat
  have hnew : x ∉ ss := fun hx => by have := ((h.2 x).1 hx).2; rw [hlk] at this; cases this
  refine ⟨List.nodup_append.2 ⟨h.1, by simp, fun a ha b hb => by simp at hb; subst hb; exact fun e => hnew (e ▸ ha)⟩, fun y => ?_⟩
  by_cases hy : y = x
  · subst hy; simp [hhas, Lit.sameKey]
  · simp [h.2 y, hy, Lit.sameKey]
/-- What is sorted is the one rising list of these numbers. -/
theorem sorted_one {ss L : List Int} (hd : ss.Nodup) (hL : L.Pairwise (· < ·)) (hm : ∀ x, x ∈ ss ↔ x ∈ L) : ss.mergeSort (fun x y => decide (x ≤ y)) = L := by
  have hLd : L.Nodup := hL.imp (fun h e => by subst e; exact absurd h (Int.lt_irrefl _))
  have hp : ss.Perm L := (List.perm_ext_iff_of_nodup hd hLd).2 hm
  have tr : ∀ a b c : Int, decide (a ≤ b) = true → decide (b ≤ c) = true → decide (a ≤ c) = true := fun a b c h1 h2 => by simp only [decide_eq_true_eq] at *; omega
  have tt : ∀ a b : Int, (decide (a ≤ b) || decide (b ≤ a)) = true := fun a b => by simp only [Bool.or_eq_true, decide_eq_true_eq]; omega
  refine List.Perm.eq_of_pairwise (le := fun a b => decide (a ≤ b) = true) (fun a b _ _ h1 h2 => ?_) (List.pairwise_mergeSort tr tt ss) (hL.imp (fun h => by simp only [decide_eq_true_eq]; omega)) ((List.mergeSort_perm ss _).trans hp)
  simp only [decide_eq_true_eq] at h1 h2
  omega
set_option maxRecDepth 100000 in
set_option maxHeartbeats 4000000 in
theorem risingM (b n : Nat) (acc : List Int) (w : World) (h : SetI w b n acc) (hn : n ≤ 8388608) (L : List Int) (hL : L.Pairwise (· < ·)) (hm : ∀ x, x ∈ L ↔ acc.contains x = true) :
    Calls Try.prog 33 #[.map (some b)] w fun e w' => ∃ v, e = .returned v ∧ OwnI w' w.heap.size v L ∧ Below w.heap.size w w' := by
  obtain ⟨D, hown, hhas⟩ := h.ex
  obtain ⟨i0, hi0, hz0, hz1, hz2⟩ := info_parts info64
  have hDn := hown.size_le
  have hbl := hown.lt
  have hend : Kp (∀ (ss : List Int) (left : Lit → Bool), CollI D left ss → (∀ kl, left kl = false) → ss.mergeSort (fun x y => decide (x ≤ y)) = L) := ⟨fun ss left hc hl => sorted_one hc.1 hL (fun x => by rw [hc.2 x, hl, hhas x, hm x]; simp)⟩
  have CS := Kp.mk @Try.slices_Sort_int
  have CN := Kp.mk @Try.slices_Sort_int_none
  clear hL hm hhas h
  obtain ⟨M, hM⟩ : ∃ M, Kp (M = Maps.size D) := ⟨_, ⟨rfl⟩⟩
  have hMn : M ≤ 8388608 := by rw [hM.out]; omega
  clear hDn
  go_enter Try.func33, Try.ntmps33
  go_wp2_with (first
    | (at_range; refine wpList_range_own _ rfl _ 61 rfl 2 96 lawK Try.underlying61 _ b n D rfl hown ?_; intro w0 hrg0 hg0 hs0)
    | go_in)
  go_frame
  have hb0 : Below w.heap.size w w0 := (Below.refl _ _).grown hg0 (Nat.le_refl _) (fun j hj => by cases hj)
  rw [← hM.out] at hrg0
  clear hg0 hown
  go_loopw [3] (fun s wr => ∃ (ss : List Int) (left : Lit → Bool) (cnt : Nat), wr.ranges Try.prog 2 unitElem b w.heap.size n D left cnt ∧ Kp (CollI D left ss) ∧ ss.length + cnt ≤ M ∧ wr.ownsRow (w.heap.size + 1) 2 1 s ss.length (ss.map (Value.int .i64)) ∧ w.heap.size + 1 ≤ wr.heap.size ∧ Below w.heap.size w wr) (fun _ wr => wr.rangeLeft b w.heap.size)
  case atStart => exact ⟨[], _, _, hrg0, ⟨CollI.start D⟩, by simp, World.ownsRow_nil _ _ _ _, by omega, hb0⟩
  case round =>
    clear hrg0 hb0 hs0
    obtain ⟨ss, left, cnt, hrg, hC, hcs, hrow, hsz, hBl⟩ := hrel
    obtain ⟨a3, c3, rfl⟩ := (OwnI.mk hrow).shape
    go_wp2_with (first
      | (at_next; refine wpList_next_ranges _ rfl _ rfl 2 lawK unitElem (Value.int .i64) (fun _ : Unit => Value.agg #[]) (fun key kl hkey => by obtain ⟨x, rfl, _⟩ := Maps.keyOf_int_inv Try.underlying2 hkey; exact ⟨x, rfl⟩) (fun v y hv => by obtain ⟨rfl, _⟩ := unitElem_inv hv; exact ⟨(), rfl⟩) b w.heap.size n _ _ _ rfl hrg ?_ ?_)
      | go_in)
    · intro hc0 hl0
      have hs := hend.out ss left hC.out hl0
      by_cases hl : ss.length = 0
      · obtain rfl : ss = [] := List.eq_nil_of_length_eq_zero hl
        have hLn : L = [] := by rw [← hs]; simp
        have hrow2 : OwnI wr w.heap.size (.slice a3 0 c3) L := by rw [hLn]; exact ⟨Joins_le hrow⟩
        have C0 := Kp.mk (CN.out a3 c3 wr)
        clear hrow hrg hs hLn hC
        dsimp only [List.length_nil]
        go_wp2_with (go_at_call 56; go_fit C0.out; rintro e w2 ⟨rfl, rfl⟩)
        go_ret
        exact ⟨_, rfl, hrow2, hBl⟩
      · rcases hrow.2 with ⟨-, e⟩ | ⟨g, cap, cur, hv, hgb, hg, h1, h2, h3, h4⟩
        · exact absurd (by simpa using e) hl
        cases hv
        have hgl := (Array.getElem?_eq_some_iff.1 hg).1
        have hlen : L.length = ss.length := by rw [← hs]; simp
        have C0 := CS.out g 0 c3 ss wr (Go.holds_of_blockI hg (by simpa using h4)) hgl (by omega)
        rw [hs] at C0
        have hfin : Kp (∀ n os, OwnI (Go.Sort.grow (Go.Sort.putRow (Value.int .i64) (Go.Sort.ahead wr n) g 0 L.toArray) os) w.heap.size (.slice (some ⟨g, 0, none⟩) ss.length c3) L ∧ Below w.heap.size w (Go.Sort.grow (Go.Sort.putRow (Value.int .i64) (Go.Sort.ahead wr n) g 0 L.toArray) os)) := ⟨fun n os => ⟨⟨by
            have q := Go.ownsRow_sortedI (base := w.heap.size) (n := n) (os := os) hlen (by omega) hg h1 h2 h3
            rw [hlen]
            exact q⟩, hBl.grown (Go.grownBy_sortedI L.toArray) hBl.size (fun k hk => by cases hk; omega)⟩⟩
        replace C0 := Kp.mk C0
        clear hrow hrg hs hC hg h3 h4 hlen
        go_wp2_with (go_at_call 56; go_fit C0.out; rintro e w2 ⟨rfl, n2, os2, rfl⟩; have hfin2 := Kp.mk (hfin.out n2 os2); generalize Go.Sort.grow (Go.Sort.putRow (Value.int .i64) (Go.Sort.ahead wr n2) g 0 L.toArray) os2 = w2 at *)
        go_ret
        exact ⟨_, rfl, hfin2.out.1, hfin2.out.2⟩
    · intro x c kl y w1 cnt1 hkey hlk hv hat hrg1 hlt hg1 hs1 hen
      obtain ⟨x', ex, rfl, hwx⟩ := Maps.keyOf_int_inv Try.underlying2 hkey
      cases ex
      have hrow1 := hrow.kept hg1 (Or.inr (own_ne_at hrow (Nat.lt_succ_self _)))
      have hBl1 := hBl.grown hg1 hBl.size (fun k hk => by cases hk; exact Nat.le_refl _)
      have hC1 := Kp.mk (hC.out.step hlk hat)
      have hml := Kp.mk hrg.left_eq
      have hsl : ss.length ≤ 8388608 := by omega
      replace hrg1 := Kp.mk hrg1
      have hs1a : w.heap.size + 1 ≤ w1.heap.size := by omega
      clear hs1
      clear hrow hBl hg1 hkey hlk hv hat hC hrg CS CN hend
      go_wp2_with (first
        | (at_builtin; refine wpList_append_vals _ rfl _ _ 22 rfl (w.heap.size + 1) 2 i0 (.int .i64 0) 1 8 Try.underlying22 hi0 hz0 hz1 hz2 rfl (by decide) _ _ _ rfl (hrow1.alloc _) (some ⟨w1.heap.size, 0, none⟩) w1.heap.size 0 1 1 [.int .i64 x] rfl (fun _ => rfl) rfl (one_new w1 _ _) one_cell (by unfold maxLen; omega) (by omega) (by simp; omega) ?_; intro v3 w3 hrow3 hgrow3)
        | go_in)
      have hrg3 := (hrg1.out.alloc _).kept hgrow3 (fun e => own_ne_at hrow1 (by omega) e.symm) (fun e => own_ne_at hrow1 (by omega) e.symm)
      have hB3 := own_bel (hBl1.alloc hBl1.size _) (Joins_le (hrow1.alloc _)) hgrow3 (by simp; omega)
      have hsz3 : w.heap.size + 1 ≤ w3.heap.size := by have := hgrow3.size; simp at this; omega
      have hrow4 : w3.ownsRow (w.heap.size + 1) 2 1 v3 (ss ++ [x]).length ((ss ++ [x]).map (Value.int .i64)) := by simpa using hrow3
      replace hrg3 := Kp.mk hrg3
      clear hrow1 hrow3 hgrow3 hBl1 hrg1 hen
      go_wp2_with fail
      exact ⟨⟨ss ++ [x], _, cnt1, hrg3.out, hC1, by simp; omega, hrow4, hsz3, hB3⟩, by rw [hrg3.out.left_eq, hml.out]; exact hlt⟩
theorem risingI (b n : Nat) (acc : List Int) (w : World) (h : SetI w b n acc) (hn : n ≤ 1048576) (L : List Int) (hL : L.Pairwise (· < ·)) (hm : ∀ x, x ∈ L ↔ acc.contains x = true) :
    Calls Try.prog 33 #[.map (some b)] w fun e w' => ∃ v, e = .returned v ∧ OwnI w' w.heap.size v L ∧ Below w.heap.size w w' := risingM b n acc w h (by omega) L hL hm
end Go.Proofs.Ytbfpfjkjeekbdaa
