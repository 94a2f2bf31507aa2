/- What a walk comes to, with numbers: the program's answer. -/
import Derived.Test.YtbfpfjkjeekbdaaHr1
import Derived.Test.YtbfpfjkjeekbdaaDm1
import Derived.Test.YtbfpfjkjeekbdaaLo1
import Derived.RangeFuncBox
namespace Go.Proofs.Ytbfpfjkjeekbdaa
open Go.ChangeShapes Go.WideShapes Go.ChangeAt Go.RowKit
attribute [local go_sem] Oper.semAt_some
set_option linter.unusedVariables false
set_option linter.unusedSimpArgs false
theorem walkC2 (vN vP : Value) (root : Int) (hN : ∃ a n c, vN = .slice a n c) (hP : ∃ a n c, vP = .slice a n c) (w : World) :
    Calls Try.prog 71 #[.agg #[vN, vP], .int .i64 root] w fun e w' => e = .returned (.func (.func 86) #[] #[.pointer (some ⟨w.heap.size + 1, 0, none⟩), .pointer (some ⟨w.heap.size, 0, none⟩)]) ∧ w' = (w.alloc (.cells #[vN, vP] 53)).alloc (.cells #[.int .i64 root] 2) := by
  obtain ⟨a1, n1, c1, rfl⟩ := hN
  obtain ⟨a2, n2, c2, rfl⟩ := hP
  go_enter Try.func71, Try.ntmps71
  go_wp2
  go_ret
  exact ⟨rfl, rfl⟩
/-- What holds between two events of the walk. -/
structure ArI (w W3 : World) (Ba bn nb : Nat) (Ro : Obj) (bs fs : List Int) (z : Nat → Int) (T : Nat → Prop) (W : World) (v1 v2 : Value) : Prop where
  box : W.heap[Ba]? = some (Go.Obj.cells #[v1, v2, .slice (some ⟨bn, 0, none⟩) nb nb] 56 (0, 0))
  r1 : OwnI W W3.heap.size v1 bs
  r2 : OwnI W W3.heap.size v2 fs
  nu : RowI W bn nb z
  ap : v1.ownBlock = none ∨ v1.ownBlock ≠ v2.ownBlock
  ap2 : v2.ownBlock = none ∨ v2.ownBlock ≠ v1.ownBlock
  t : ∀ b, T b ↔ (v1.ownBlock = some b ∨ v2.ownBlock = some b)
  bel : Below w.heap.size w W
  res : W.heap[w.heap.size + 1]? = some Ro
  sz : W3.heap.size ≤ W.heap.size
/-- A stretch of the body: what lay lies, but for the loop's own. -/
structure ArS (W3 : World) (S T T' : Nat → Prop) (A B : World) : Prop where
  g : Grew T T' A
  k : KdT S T W3.heap.size A B
theorem ArS.trans {W3 A B C : World} {S T T' T'' : Nat → Prop} (h : ArS W3 S T T' A B) (k : ArS W3 S T' T'' B C) : ArS W3 S T T'' A C :=
  ⟨fun b hb => by
    rcases k.g b hb with q | q
    · exact h.g b q
    · exact .inr (Nat.le_trans h.k.size q), h.k.trans k.k h.g⟩
section
variable {w W3 W W' : World} {Ba bn nb : Nat} {Ro : Obj} {bs fs : List Int} {z : Nat → Int} {S T : Nat → Prop} {v1 v2 : Value}
theorem ArI.tlt (h : ArI w W3 Ba bn nb Ro bs fs z T W v1 v2) : ∀ b, T b → W3.heap.size ≤ b ∧ b < W.heap.size := fun b hb => by
  rcases (h.t b).1 hb with q | q
  · exact h.r1.r.lt b q
  · exact h.r2.r.lt b q
theorem ArI.keep (h : ArI w W3 Ba bn nb Ro bs fs z T W v1 v2) (hb : Below W.heap.size W W') : ArI w W3 Ba bn nb Ro bs fs z T W' v1 v2 :=
  ⟨keep_cells h.box hb, h.r1.keep hb, h.r2.keep hb, h.nu.keep hb, h.ap, h.ap2, h.t, bel_trans h.bel hb, keep_cells h.res hb, Nat.le_trans h.sz hb.size⟩
theorem ArI.step (h : ArI w W3 Ba bn nb Ro bs fs z T W v1 v2) (hb : Below W.heap.size W W') (hS : ∀ k, S k → k < W3.heap.size) : ArS W3 S T T W W' :=
  ⟨fun b hb => .inl hb, KdT.of_below hb (fun k hk => by have := hS k hk; have := h.sz; omega)⟩
theorem ArI.num (h : ArI w W3 Ba bn nb Ro bs fs z T W v1 v2) {t : Nat} (ht : t < nb) (y : Int) (hbn : bn < W3.heap.size) (hne : bn ≠ Ba) (hw : w.heap.size + 1 < bn) (hS : ∀ k, S k → k < W3.heap.size ∧ k ≠ Ba ∧ k ≠ bn) :
    ArI w W3 Ba bn nb Ro bs fs (upd z t y) T (W.setCell ⟨bn, t, none⟩ (.int .i64 y)) v1 v2 ∧ ArS W3 S T T W (W.setCell ⟨bn, t, none⟩ (.int .i64 y)) := by
  have hg := Fam.setHd.gset W bn t (.int .i64 y)
  have e : ∀ k, k ≠ bn → (W.setCell ⟨bn, t, none⟩ (.int .i64 y)).heap[k]? = W.heap[k]? := fun k hk => heap_set _ _ _ _ _ hk
  exact ⟨⟨(e _ (Ne.symm hne)).trans h.box, ⟨row_kept' h.r1.r (fun g hg => e g (by have := (h.r1.r.lt g hg).1; omega))⟩, ⟨row_kept' h.r2.r (fun g hg => e g (by have := (h.r2.r.lt g hg).1; omega))⟩, h.nu.set ht y, h.ap, h.ap2, h.t, h.bel.setCell (by show w.heap.size ≤ bn; omega) _, (e _ (by omega)).trans h.res, Nat.le_trans h.sz hg.size⟩,
    ⟨fun b hb => .inl hb, ⟨rfl, rfl, rfl, hg.size, fun k hk => e k (hS k hk).2.2, fun k hk _ _ => e k (by omega)⟩⟩⟩
/-- A row's grown form is put into its field. -/
theorem ArI.app1 (h : ArI w W3 Ba bn nb Ro bs fs z T W v1 v2) {g cap : Nat} {y : Int} (hg : W.grownBy W' v1.ownBlock) (ho : W'.ownsRow W3.heap.size 2 1 (.slice (some ⟨g, 0, none⟩) (bs.length + 1) cap) (bs.length + 1) (bs.map (Value.int .i64) ++ [.int .i64 y])) (hat : v1.ownBlock = some g ∨ g = W.heap.size)
    (hBa : Ba < W3.heap.size) (hbn : bn < W3.heap.size) (hwB : w.heap.size + 1 < Ba) (hwn : w.heap.size + 1 < bn) (hne : bn ≠ Ba) (hS : ∀ k, S k → k < W3.heap.size ∧ k ≠ Ba ∧ k ≠ bn) :
    ∃ T', ArI w W3 Ba bn nb Ro (bs ++ [y]) fs z T' (W'.setCell ⟨Ba, 0, none⟩ (.slice (some ⟨g, 0, none⟩) (bs.length + 1) cap)) (.slice (some ⟨g, 0, none⟩) (bs.length + 1) cap) v2 ∧ KdT S T W3.heap.size W (W'.setCell ⟨Ba, 0, none⟩ (.slice (some ⟨g, 0, none⟩) (bs.length + 1) cap)) ∧ Grew T T' W := by
  have hr : ∀ k, v1.ownBlock = some k → W3.heap.size ≤ k := fun k hk => (h.r1.r.lt k hk).1
  have hr2 : ∀ k, v2.ownBlock = some k → W3.heap.size ≤ k ∧ k < W.heap.size := fun k hk => h.r2.r.lt k hk
  have hsz := h.sz
  have hgW : W3.heap.size ≤ g := (ho.lt g rfl).1
  have low : ∀ k, k < W.heap.size → some k ≠ v1.ownBlock → k ≠ Ba → (W'.setCell ⟨Ba, 0, none⟩ (.slice (some ⟨g, 0, none⟩) (bs.length + 1) cap)).heap[k]? = W.heap[k]? := fun k h1 h2 h3 => (heap_set _ _ _ _ _ h3).trans (hg.block k h1 h2)
  have lowW : ∀ k, k < W3.heap.size → k ≠ Ba → (W'.setCell ⟨Ba, 0, none⟩ (.slice (some ⟨g, 0, none⟩) (bs.length + 1) cap)).heap[k]? = W.heap[k]? := fun k h1 h3 => low k (by omega) (fun e => by have := hr k e.symm; omega) h3
  have hbx : W'.heap[Ba]? = some (Go.Obj.cells #[v1, v2, .slice (some ⟨bn, 0, none⟩) nb nb] 56 (0, 0)) := (hg.block Ba (by omega) (fun e => by have := hr Ba e.symm; omega)).trans h.box
  have hgs : ∀ k, v2.ownBlock = some k → k ≠ g := fun k hk e => by
    rcases hat with q | q
    · rcases h.ap with z | z
      · rw [z] at q; cases q
      · exact z (by rw [q, hk, e])
    · have := (hr2 k hk).2; omega
  refine ⟨fun b => g = b ∨ v2.ownBlock = some b, ⟨?_, ⟨?_⟩, ⟨?_⟩, h.nu.same (lowW bn hbn hne), .inr (fun e => hgs g e.symm rfl), ?_, fun b => by simp [Value.ownBlock], ?_, (lowW _ (by omega) (by omega)).trans h.res, ?_⟩, ⟨hg.os, hg.tape, hg.output, by have := hg.size; simpa [World.setCell] using this, fun k hk => lowW k (hS k hk).1 (hS k hk).2.1, fun k h1 h2 h3 => low k h2 (fun e => h3 ((h.t k).2 (.inl e.symm))) (by omega)⟩, fun b hb => ?_⟩
  · exact (set_cells hbx 0 _).trans rfl
  · have e : (bs ++ [y]).length = bs.length + 1 := by simp
    rw [e, List.map_append]
    exact row_kept' ho (fun k hk => by
      simp only [Value.ownBlock, Option.some.injEq] at hk
      subst hk
      exact heap_set _ _ _ _ _ (by omega))
  · refine row_kept' h.r2.r (fun k hk => low k (hr2 k hk).2 (fun e => ?_) (by have := (hr2 k hk).1; omega))
    rcases h.ap2 with q | q
    · rw [q] at hk; cases hk
    · exact q (by rw [hk, e])
  · cases e : v2.ownBlock with
    | none => exact .inl rfl
    | some k => exact .inr (fun q => hgs k e (by simpa [Value.ownBlock] using q))
  · exact (h.bel.grown hg h.bel.size (fun k hk => by have := hr k hk; have := h.bel.size; omega)).setCell (by show w.heap.size ≤ Ba; omega) _
  · have := hg.size; simp [World.setCell]; omega
  · rcases hb with rfl | hb
    · rcases hat with q | q
      · exact .inl ((h.t _).2 (.inl q))
      · exact .inr (by omega)
    · exact .inl ((h.t b).2 (.inr hb))
theorem ArI.app2 (h : ArI w W3 Ba bn nb Ro bs fs z T W v1 v2) {g cap : Nat} {y : Int} (hg : W.grownBy W' v2.ownBlock) (ho : W'.ownsRow W3.heap.size 2 1 (.slice (some ⟨g, 0, none⟩) (fs.length + 1) cap) (fs.length + 1) (fs.map (Value.int .i64) ++ [.int .i64 y])) (hat : v2.ownBlock = some g ∨ g = W.heap.size)
    (hBa : Ba < W3.heap.size) (hbn : bn < W3.heap.size) (hwB : w.heap.size + 1 < Ba) (hwn : w.heap.size + 1 < bn) (hne : bn ≠ Ba) (hS : ∀ k, S k → k < W3.heap.size ∧ k ≠ Ba ∧ k ≠ bn) :
    ∃ T', ArI w W3 Ba bn nb Ro bs (fs ++ [y]) z T' (W'.setCell ⟨Ba, 1, none⟩ (.slice (some ⟨g, 0, none⟩) (fs.length + 1) cap)) v1 (.slice (some ⟨g, 0, none⟩) (fs.length + 1) cap) ∧ KdT S T W3.heap.size W (W'.setCell ⟨Ba, 1, none⟩ (.slice (some ⟨g, 0, none⟩) (fs.length + 1) cap)) ∧ Grew T T' W := by
  have hr : ∀ k, v2.ownBlock = some k → W3.heap.size ≤ k := fun k hk => (h.r2.r.lt k hk).1
  have hr2 : ∀ k, v1.ownBlock = some k → W3.heap.size ≤ k ∧ k < W.heap.size := fun k hk => h.r1.r.lt k hk
  have hsz := h.sz
  have hgW : W3.heap.size ≤ g := (ho.lt g rfl).1
  have low : ∀ k, k < W.heap.size → some k ≠ v2.ownBlock → k ≠ Ba → (W'.setCell ⟨Ba, 1, none⟩ (.slice (some ⟨g, 0, none⟩) (fs.length + 1) cap)).heap[k]? = W.heap[k]? := fun k h1 h2 h3 => (heap_set _ _ _ _ _ h3).trans (hg.block k h1 h2)
  have lowW : ∀ k, k < W3.heap.size → k ≠ Ba → (W'.setCell ⟨Ba, 1, none⟩ (.slice (some ⟨g, 0, none⟩) (fs.length + 1) cap)).heap[k]? = W.heap[k]? := fun k h1 h3 => low k (by omega) (fun e => by have := hr k e.symm; omega) h3
  have hbx : W'.heap[Ba]? = some (Go.Obj.cells #[v1, v2, .slice (some ⟨bn, 0, none⟩) nb nb] 56 (0, 0)) := (hg.block Ba (by omega) (fun e => by have := hr Ba e.symm; omega)).trans h.box
  have hgs : ∀ k, v1.ownBlock = some k → k ≠ g := fun k hk e => by
    rcases hat with q | q
    · rcases h.ap2 with z | z
      · rw [z] at q; cases q
      · exact z (by rw [q, hk, e])
    · have := (hr2 k hk).2; omega
  refine ⟨fun b => v1.ownBlock = some b ∨ g = b, ⟨?_, ⟨?_⟩, ⟨?_⟩, h.nu.same (lowW bn hbn hne), ?_, .inr (fun e => hgs g e.symm rfl), fun b => by simp [Value.ownBlock], ?_, (lowW _ (by omega) (by omega)).trans h.res, ?_⟩, ⟨hg.os, hg.tape, hg.output, by have := hg.size; simpa [World.setCell] using this, fun k hk => lowW k (hS k hk).1 (hS k hk).2.1, fun k h1 h2 h3 => low k h2 (fun e => h3 ((h.t k).2 (.inr e.symm))) (by omega)⟩, fun b hb => ?_⟩
  · exact (set_cells hbx 1 _).trans rfl
  · refine row_kept' h.r1.r (fun k hk => low k (hr2 k hk).2 (fun e => ?_) (by have := (hr2 k hk).1; omega))
    rcases h.ap with q | q
    · rw [q] at hk; cases hk
    · exact q (by rw [hk, e])
  · have e : (fs ++ [y]).length = fs.length + 1 := by simp
    rw [e, List.map_append]
    exact row_kept' ho (fun k hk => by
      simp only [Value.ownBlock, Option.some.injEq] at hk
      subst hk
      exact heap_set _ _ _ _ _ (by omega))
  · cases e : v1.ownBlock with
    | none => exact .inl rfl
    | some k => exact .inr (fun q => hgs k e (by simpa [Value.ownBlock] using q))
  · exact (h.bel.grown hg h.bel.size (fun k hk => by have := hr k hk; have := h.bel.size; omega)).setCell (by show w.heap.size ≤ Ba; omega) _
  · have := hg.size; simp [World.setCell]; omega
  · rcases hb with hb | rfl
    · exact .inl ((h.t b).2 (.inl hb))
    · rcases hat with q | q
      · exact .inl ((h.t _).2 (.inr q))
      · exact .inr (by omega)
theorem ari_ab {C : Nat → List Int} {D : Nat → List Int} {Z : Nat → Nat → Int} (hBa : Ba < W3.heap.size) (hbn : bn < W3.heap.size) (hw : w.heap.size + 1 < W3.heap.size) : AbF W3.heap.size (fun k T W => ∃ v1 v2, ArI w W3 Ba bn nb Ro (C k) (D k) (Z k) T W v1 v2) := by
  constructor
  · rintro k T A B ⟨v1, v2, h⟩ hA hK
    exact ⟨v1, v2, (hK.low _ hBa).trans h.box, ⟨row_kept' h.r1.r (fun g hg => hK.mine g ((h.t g).2 (.inl hg)))⟩, ⟨row_kept' h.r2.r (fun g hg => hK.mine g ((h.t g).2 (.inr hg)))⟩, h.nu.same (hK.low _ hbn), h.ap, h.ap2, h.t, ⟨hK.os.trans h.bel.os, hK.tape.trans h.bel.tape, hK.output.trans h.bel.output, Nat.le_trans h.bel.size hK.size, fun k hk => (hK.low k (by omega)).trans (h.bel.block k hk)⟩, (hK.low _ hw).trans h.res, Nat.le_trans h.sz hK.size⟩
  · rintro k T A ⟨v1, v2, h⟩ b hb
    exact (h.tlt b hb).2
end
set_option maxRecDepth 100000 in
set_option maxHeartbeats 8000000 in
theorem arrivalsI (nx : Int → List Int) (nb lo : Nat) (w : World) (vN vP : Value) (G : Rws lo w vN nb (fun i => nx i)) (hPs : ∃ a m c, vP = .slice a m c) (root : Nat) (hroot : root < nb) (hnb : nb ≤ 1048576) (hnx : ∀ i : Nat, i < nb → (nx i).length ≤ 1048576 ∧ ∀ y ∈ nx i, 0 ≤ y ∧ y < nb)
    (k0 : Nat) (E : List (Int × Int × Bool)) (hE : Walks nx k0 [((root : Int), (root : Int), nx root)] [(root : Int)] E) (prs : List (Int × Int)) (hprs : prs = ((root : Int), (root : Int)) :: comes E) :
    Calls Try.prog 53 #[.agg #[vN, vP], .int .i64 root] w fun e w' => ∃ b1 b2 b3 c1 c2 : Nat, e = .returned (.agg #[.slice (some ⟨b1, 0, none⟩) prs.length c1, .slice (some ⟨b2, 0, none⟩) prs.length c2, .slice (some ⟨b3, 0, none⟩) nb nb]) ∧
      RowI w' b1 prs.length (fun i => (prs.map (·.1)).getD i 0) ∧ RowI w' b2 prs.length (fun i => (frN prs i : Int)) ∧ RowI w' b3 nb (numL (prs.map (·.1))) ∧ Below w.heap.size w w' ∧ prs.length ≤ c1 ∧ prs.length ≤ c2 := by
  have hA := hE.arr (fun i hi => (hnx i hi).2) hroot
  rw [← hprs] at hA
  obtain ⟨i0, hi0, hz0, hz1, hz2⟩ := info_parts info64
  obtain ⟨L, hL⟩ : ∃ L, Kp (L = ((root : Int), (root : Int), false) :: E) := ⟨_, ⟨rfl⟩⟩
  have hLc : Kp (comes L = prs) := ⟨by rw [hL.out, comes_come, hprs]⟩
  clear hprs
  obtain ⟨aF, haF⟩ : ∃ aF : Int → Int, Kp (aF = fun x => ((prs.map (·.1)).idxOf x : Int)) := ⟨_, ⟨rfl⟩⟩
  have CR : Kp (∀ (bx : Nat) (W : World), At W bx 0 (.int .i64 (-1)) → CallsIn Fence.wide 11 Try.prog 54 #[.slice (some ⟨bx, 0, none⟩) 1 1, .int .i64 nb] W _) := ⟨fun bx W h => callsIn_wide.2 (repI (-1) bx nb W h (by omega) hnb)⟩
  have CW : Kp (∀ (vN vP : Value) (root : Int), (∃ a n c, vN = .slice a n c) → (∃ a n c, vP = .slice a n c) → ∀ W, CallsIn Fence.wide 11 Try.prog 71 #[.agg #[vN, vP], .int .i64 root] W _) := ⟨fun vN vP root hN hP W => callsIn_wide.2 (walkC2 vN vP root hN hP W)⟩
  have hNs : ∃ a c, vN = .slice a nb c := by
    obtain ⟨_, _, ⟨⟨a, c, e, -⟩, -⟩, -⟩ := G.ex
    exact ⟨a, c, e⟩
  obtain ⟨aN, cN, rfl⟩ := hNs
  obtain ⟨aP, mP, cP, rfl⟩ := hPs
  refine (callsIn_wide (n := 12)).1 ?_
  refine callsIn_of_wp_marks Try.func53 rfl trivial ?_ rfl
  simp only [Try.ntmps53, List.size_toArray, List.length_cons, List.length_nil, Nat.reduceAdd, Nat.reduceSub, Array.replicate_succ, Array.replicate_zero, List.push_toArray, List.append_toArray, List.nil_append, List.cons_append]
  obtain ⟨W1, hW1⟩ : ∃ W1, Kp (W1 = ((w.alloc (Go.Obj.cells #[.slice aN nb cN, .slice aP mP cP] 53)).alloc (Go.Obj.cells #[.slice none 0 0, .slice none 0 0, .slice none 0 0] 56)).alloc (Go.Obj.cells #[.int .i64 (-1)] 2)) := ⟨_, ⟨rfl⟩⟩
  have hB1 : Below w.heap.size w W1 := by rw [hW1.out]; exact bel_trans (bel_trans (bel_alloc _ _) (bel_alloc _ _)) (bel_alloc _ _)
  have hs1 : W1.heap.size = w.heap.size + 3 := by rw [hW1.out]; simp
  have hg1 : W1.heap[w.heap.size]? = some (Go.Obj.cells #[.slice aN nb cN, .slice aP mP cP] 53 (0, 0)) := by rw [hW1.out]; exact keep_cells (keep_cells (new_cells w _) (bel_alloc _ _)) (bel_alloc _ _)
  have hr1 : W1.heap[w.heap.size + 1]? = some (Go.Obj.cells #[.slice none 0 0, .slice none 0 0, .slice none 0 0] 56 (0, 0)) := by rw [hW1.out]; exact keep_cells (new_at (by simp)) (bel_alloc _ _)
  have hm1 : At W1 (w.heap.size + 2) 0 (.int .i64 (-1)) := by rw [hW1.out]; exact at_cells (new_at (by simp)) rfl
  replace hE := Kp.mk hE
  replace hnx := Kp.mk hnx
  replace hA := Kp.mk hA
  replace G := Kp.mk G
  gi_wp2
  refine ⟨trivial, ?_⟩
  rw [← hW1.out]
  refine (CR.out _ _ hm1).mono ?_
  rintro e W2 ⟨rfl, hnu2, hB2⟩
  rw [hs1] at hnu2
  have hs2 : w.heap.size + 3 < W2.heap.size := hnu2.lt
  have hg2 := keep_cells hg1 hB2
  have hr2 := keep_cells hr1 hB2
  have g0 := at_cells hg2 (j := 0) rfl
  have g1 := at_cells hg2 (j := 1) rfl
  have k0' : ∀ o, (W2.alloc o).cell? ⟨w.heap.size, 0, none⟩ = some (.slice aN nb cN) := fun o => at_keep g0 (bel_alloc _ _)
  have k1' : ∀ o, (W2.alloc o).cell? ⟨w.heap.size, 1, none⟩ = some (.slice aP mP cP) := fun o => at_keep g1 (bel_alloc _ _)
  gi_wp2
  refine ⟨trivial, ?_⟩
  refine (CW.out _ _ _ ⟨_, _, _, rfl⟩ ⟨_, _, _, rfl⟩ _).mono ?_
  rintro e W3' ⟨rfl, rfl⟩
  obtain ⟨W3, hW3⟩ : ∃ W3, Kp (W3 = ((W2.alloc (Go.Obj.cells #[.slice none 0 0, .slice none 0 0, .slice (some ⟨w.heap.size + 3, 0, none⟩) nb nb] 56)).alloc (Go.Obj.cells #[.slice aN nb cN, .slice aP mP cP] 53)).alloc (Go.Obj.cells #[.int .i64 root] 2)) := ⟨_, ⟨rfl⟩⟩
  have hB23 : Below W2.heap.size W2 W3 := by rw [hW3.out]; exact bel_trans (bel_trans (bel_alloc _ _) (bel_alloc _ _)) (bel_alloc _ _)
  have hs3 : W3.heap.size = W2.heap.size + 3 := by rw [hW3.out]; simp
  have hbx3 : W3.heap[W2.heap.size]? = some (Go.Obj.cells #[.slice none 0 0, .slice none 0 0, .slice (some ⟨w.heap.size + 3, 0, none⟩) nb nb] 56 (0, 0)) := by rw [hW3.out]; exact keep_cells (keep_cells (new_cells W2 _) (bel_alloc _ _)) (bel_alloc _ _)
  have hgc : W3.heap[W2.heap.size + 1]? = some (Go.Obj.cells #[.slice aN nb cN, .slice aP mP cP] 53 (0, 0)) := by rw [hW3.out]; exact keep_cells (new_at (by simp)) (bel_alloc _ _)
  have hrc : W3.heap[W2.heap.size + 2]? = some (Go.Obj.cells #[.int .i64 root] 2 (0, 0)) := by rw [hW3.out]; exact new_at (by simp)
  have hw03 : Below w.heap.size w W3 := bel_trans (bel_trans hB1 hB2) hB23
  obtain ⟨S, hSd⟩ : ∃ S : Nat → Prop, S = fun k => k < w.heap.size ∨ (W2.heap.size < k ∧ k < W3.heap.size) := ⟨_, rfl⟩
  have hSi : ∀ k, S k ↔ k < w.heap.size ∨ (W2.heap.size < k ∧ k < W3.heap.size) := fun k => by rw [hSd]
  clear hSd
  have hSS : ∀ k, S k → k < W3.heap.size ∧ k ≠ W2.heap.size ∧ k ≠ w.heap.size + 3 := fun k hk => by rcases (hSi k).1 hk with q | q <;> omega
  have rest : ∀ u r, Ints lo .i64 w u r → RestOk S W3 u r := fun u r hr => by
    obtain ⟨b, o, ⟨⟨a, c, rfl, s1, s2⟩, s3⟩, hl, hc⟩ := hr.ex
    by_cases hr0 : 0 < r.length
    · exact ⟨b, o, ⟨⟨a, c, rfl, s1, s2⟩, s3⟩, (hSi b).2 (.inl (Lib.lt_of_cell (hc 0 hr0))), fun i hi => at_keep (hc i hi) hw03⟩
    · exact ⟨W2.heap.size + 1, 0, ⟨⟨a, c, rfl, s1, fun q => absurd q hr0⟩, s3⟩, (hSi _).2 (.inr ⟨by omega, by omega⟩), fun i hi => absurd hi (by omega)⟩
  have hGr : GrS S W3 (.slice aN nb cN) nb nx := by
    obtain ⟨b, o, s, hl, hc⟩ := G.out.ex
    refine ⟨b, o, s, ?_, fun i hi => ?_⟩
    · obtain ⟨u, h1, h2⟩ := hc 0 (by omega)
      exact (hSi b).2 (.inl (Lib.lt_of_cell h1))
    · obtain ⟨u, h1, h2⟩ := hc i hi
      exact ⟨u, at_keep h1 hw03, rest u _ h2⟩
  have hseq : SeqF Fence.wide (12 - 1) Try.prog 86 #[.pointer (some ⟨W2.heap.size + 2, 0, none⟩), .pointer (some ⟨W2.heap.size + 1, 0, none⟩)] stE S L W3 := by
    rw [hL.out]
    exact walk_seq (12 - 1) S W3 (W2.heap.size + 2) (W2.heap.size + 1) root nb nx _ _ hGr ⟨_, _, _, rfl⟩ (at_cells hrc rfl) (at_cells hgc rfl) (at_cells hgc rfl) ((hSi _).2 (.inr ⟨by omega, by omega⟩)) ((hSi _).2 (.inr ⟨by omega, by omega⟩)) (fun k hk => (hSS k hk).1) hroot hnb hnx.out k0 E hE.out
  obtain ⟨Ro, hRo⟩ : ∃ Ro, Kp (Ro = Go.Obj.cells #[.slice none 0 0, .slice none 0 0, .slice none 0 0] 56 (0, 0)) := ⟨_, ⟨rfl⟩⟩
  have hI0 : ArI w W3 W2.heap.size (w.heap.size + 3) nb Ro ((comes (L.take 0)).map (·.1)) ((comes (L.take 0)).map (fun e => aF e.2)) (numL ((comes (L.take 0)).map (·.1))) (fun _ => False) W3 (.slice none 0 0) (.slice none 0 0) := by
    refine ⟨hbx3, ⟨World.ownsRow_nil _ _ _ _⟩, ⟨World.ownsRow_nil _ _ _ _⟩, ?_, .inl rfl, .inl rfl, fun b => by simp [Value.ownBlock], hw03, ?_, Nat.le_refl _⟩
    · exact (hnu2.keep hB23).congr (fun i hi => by simp [comes, numL])
    · rw [hRo.out]
      exact keep_cells hr2 hB23
  have hab : AbF W3.heap.size (fun k T X => ∃ v1 v2, ArI w W3 W2.heap.size (w.heap.size + 3) nb Ro ((comes (L.take k)).map (·.1)) ((comes (L.take k)).map (fun e => aF e.2)) (numL ((comes (L.take k)).map (·.1))) T X v1 v2) :=
    ari_ab (C := fun k => (comes (L.take k)).map (·.1)) (D := fun k => (comes (L.take k)).map (fun e => aF e.2)) (Z := fun k => numL ((comes (L.take k)).map (·.1))) (by omega) (by omega) (by omega)
  replace hI0 := Kp.mk hI0
  replace hseq := Kp.mk hseq
  replace hGr := Kp.mk hGr
  replace hbx3 := Kp.mk hbx3
  replace hgc := Kp.mk hgc
  replace hrc := Kp.mk hrc
  replace hnu2 := Kp.mk hnu2
  replace hg1 := Kp.mk hg1
  replace hr1 := Kp.mk hr1
  replace hg2 := Kp.mk hg2
  replace hr2 := Kp.mk hr2
  clear rest g0 g1 k0' k1' hm1
  gi_wp2
  rw [← hW3.out]
  refine wpIn_rangeF rfl (by decide) (gf := 86) (lb := #[.pointer (some ⟨W2.heap.size + 2, 0, none⟩), .pointer (some ⟨W2.heap.size + 1, 0, none⟩)]) rfl trivial (enters_of Try.func86 (by kernel_rfl) rfl)
    hseq.out (Below.refl _ _) (fun k hk => (hSS k hk).1) (fun _ => rfl)
    (fun k T X => ∃ v1 v2, ArI w W3 W2.heap.size (w.heap.size + 3) nb Ro ((comes (L.take k)).map (·.1)) ((comes (L.take k)).map (fun e => aF e.2)) (numL ((comes (L.take k)).map (·.1))) T X v1 v2) (fun _ _ _ _ => False) hab (fun c => ⟨fun _ _ _ _ h _ _ => h.elim, fun _ _ _ h => h.elim⟩) (fun _ => False) ⟨_, _, hI0.out⟩
    (fun x a' X => ∃ B1, X.heap[B1]? = some (Go.Obj.cells #[.int .i64 x.1, .int .i64 x.2.1, .bool x.2.2] 124 (0, 0)) ∧ ∃ u0 u1 u2 u3 u7 u8 u9 u10 u11 u12 u13 u14 u15 u16 u17 u18 u19 u20 u21 u22 u23 u24 u25 u26 u27 u28 u29 u30 u31 u32 u33 u34 u35 u36 u37 u38 u39 u40 u41 u42 u43 u44 u45 u46, a' = { tmps := #[u0, u1, u2, u3, .pointer (some ⟨w.heap.size + 1, 0, none⟩), .pointer (some ⟨W2.heap.size, 0, none⟩), .pointer (some ⟨B1, 0, none⟩), u7, u8, u9, u10, u11, u12, u13, u14, u15, u16, u17, u18, u19, u20, u21, u22, u23, u24, u25, u26, u27, u28, u29, u30, u31, u32, u33, u34, u35, u36, u37, u38, u39, u40, u41, u42, u43, u44, u45, u46], defers := [] }) ?hAx ?assign ?body ?done ?stop
  case hAx =>
    rintro x a' u A E row ⟨B1, p1, p3⟩ hg hr
    refine ⟨B1, (hg.block B1 (Array.getElem?_eq_some_iff.1 p1).1 (fun e => ?_)).trans p1, p3⟩
    obtain ⟨-, o, ho, hc⟩ := hr B1 e.symm
    rw [p1] at ho
    cases ho
    cases hc
  case assign =>
    intro lr k hk X K hX hK
    generalize L[k] = y at *
    obtain ⟨yb, yf, yl⟩ := y
    simp only [stE, List.zip_toArray, List.zip_cons_cons, List.zip_nil_right, List.foldl_toArray', List.foldl_cons, List.foldl_nil, List.setIfInBounds_toArray, List.set_cons_succ, List.set_cons_zero, Array.zip, List.toList_toArray]
    gi_wp2
    exact hK _ _ (bel_alloc _ _) ⟨X.heap.size, new_cells _ _, _, _, _, _, _, _, _, _, _, _, _, _, _, _, _, _, _, _, _, _, _, _, _, _, _, _, _, _, _, _, _, _, _, _, _, _, _, _, _, _, _, _, _, _, rfl⟩
  case body =>
    rintro lr k hk a' T X hX ⟨v1, v2, hv⟩ ⟨B1, p1, u0, u1, u2, u3, u7, u8, u9, u10, u11, u12, u13, u14, u15, u16, u17, u18, u19, u20, u21, u22, u23, u24, u25, u26, u27, u28, u29, u30, u31, u32, u33, u34, u35, u36, u37, u38, u39, u40, u41, u42, u43, u44, u45, u46, rfl⟩
    have hstep := Kp.mk (comes_take L k hk)
    have hspl := comes_split L (k + 1)
    rw [hLc.out, hstep.out] at hspl
    generalize L[k] = y at *
    obtain ⟨yb, yf, yl⟩ := y
    dsimp only at p1 hstep hspl
    obtain ⟨C, hC⟩ : ∃ C, Kp (comes (L.take k) = C) := ⟨_, ⟨rfl⟩⟩
    rw [hC.out] at hv hstep hspl
    have c0 := at_cells p1 (j := 0) rfl
    have c1 := at_cells p1 (j := 1) rfl
    have c2 := at_cells p1 (j := 2) rfl
    cases yl with
    | true =>
      replace hv := Kp.mk hv
      replace p1 := Kp.mk p1
      replace hspl := Kp.mk hspl
      gi_wp2
      have hst2 : comes (L.take (k + 1)) = C := by rw [hstep.out]; simp
      exact ⟨T, fun b hb => .inl hb, KdT.refl _ _ _ _, v1, v2, by rw [hst2]; exact hv.out⟩
    | false =>
      rw [if_neg (by simp)] at hspl
      have hspl2 : prs = C ++ (yb, yf) :: comes (L.drop (k + 1)) := by rw [hspl]; simp
      obtain ⟨t, u, rfl, rfl, ht, hu, htC, hCn, hnum⟩ := hA.out.next hspl2
      have hst2 : comes (L.take (k + 1)) = C ++ [((t : Int), (u : Int))] := by rw [hstep.out]; simp
      have hmap1 : (C ++ [((t : Int), (u : Int))]).map (·.1) = C.map (·.1) ++ [(t : Int)] := by simp
      have hmap2 : (C ++ [((t : Int), (u : Int))]).map (fun e => aF e.2) = C.map (fun e => aF e.2) ++ [aF u] := by simp
      have hy : numL (C.map (·.1) ++ [(t : Int)]) u = aF u := by rw [hnum, haF.out]
      rw [← hst2] at hmap1 hmap2
      have hCm : (C.map (·.1)).length = C.length := by simp
      have hCm2 : (C.map (fun e => aF e.2)).length = C.length := by simp
      obtain ⟨bs, hbs⟩ : ∃ bs, C.map (·.1) = bs := ⟨_, rfl⟩
      obtain ⟨fs, hfs⟩ : ∃ fs, C.map (fun e => aF e.2) = fs := ⟨_, rfl⟩
      rw [hbs] at hv hCm hy htC hmap1
      rw [hfs] at hv hCm2 hmap2
      obtain ⟨m, hm⟩ : ∃ m, C.length = m := ⟨_, rfl⟩
      rw [hm] at hCm hCm2 hCn
      obtain ⟨y, hy2⟩ : ∃ y, aF u = y := ⟨_, rfl⟩
      rw [hy2] at hy hmap2
      replace hmap1 := Kp.mk hmap1
      replace hmap2 := Kp.mk hmap2
      clear hstep hspl hspl2 hst2 hnum hC hbs hfs hm
      replace hy2 := Kp.mk hy2
      -- the number is set
      obtain ⟨hv1, hs01⟩ := hv.num ht (m : Int) (by omega) (by omega) (by omega) hSS
      have hv1' : ArI w W3 W2.heap.size (w.heap.size + 3) nb Ro bs fs (numL (bs ++ [(t : Int)])) T (X.setCell ⟨w.heap.size + 3, t, none⟩ (.int .i64 (m : Int))) v1 v2 := { hv1 with nu := hv1.nu.congr (fun i hi => by rw [numL_snoc bs t htC i, hCm]; rfl) }
      obtain ⟨a1, c1', e1⟩ := hv.r1.shape
      obtain ⟨a2, c2', e2⟩ := hv.r2.shape
      rw [hCm] at e1
      rw [hCm2] at e2
      subst e1 e2
      have cb := at_cells hv.box (j := 0) rfl
      have cb2 := at_cells hv.box (j := 2) rfl
      have cn := hv.nu.at ht
      have fn := hv.nu.rw t
      have p1' : ∀ (Y : World), (∀ k, k < X.heap.size → k ≠ w.heap.size + 3 → k ≠ W2.heap.size → some k ≠ (Value.slice a1 m c1').ownBlock → Y.heap[k]? = X.heap[k]?) → Y.heap[B1]? = X.heap[B1]? := fun Y h => by
        refine h B1 (Array.getElem?_eq_some_iff.1 p1).1 (fun e => ?_) (fun e => ?_) ?_
        · obtain ⟨cur, q1, -⟩ := hv.nu.ex
          rw [← e, p1] at q1
          have := (Obj.cells.inj (Option.some.inj q1)).2.1
          revert this; decide
        · have q1 := hv.box
          rw [← e, p1] at q1
          have := (Obj.cells.inj (Option.some.inj q1)).2.1
          revert this; decide
        · exact own_ne hv.r1.r p1 (by decide)
      obtain ⟨XA, hXA⟩ : ∃ XA, XA = X.setCell ⟨w.heap.size + 3, t, none⟩ (.int .i64 (m : Int)) := ⟨_, rfl⟩
      rw [← hXA] at hv1 hs01 hv1'
      have hvB := hv1'.keep (bel_alloc XA (Go.Obj.cells #[.int .i64 (t : Int)] 2))
      have hsB := hv1'.step (S := S) (bel_alloc XA (Go.Obj.cells #[.int .i64 (t : Int)] 2)) (fun k hk => (hSS k hk).1)
      have hrB := hvB.r1.r
      rw [hCm] at hrB
      have hszA : XA.heap.size = X.heap.size := by rw [hXA]; simp [World.setCell]
      obtain ⟨g1, cap1, w2, hrun, hown, hgrow, hat, hlt⟩ := run_append_lies (P := Try.prog) (XA.alloc (Go.Obj.cells #[.int .i64 (t : Int)] 2)) 22 22 W3.heap.size 2 i0 _ 1 8 Try.underlying22 hi0 hz0 hz1 hz2 rfl (by omega) _ _ _ hrB ⟨XA.heap.size, 0, none⟩ 1 1 [.int .i64 (t : Int)] rfl (World.news_of_block (cs := #[.int .i64 (t : Int)]) (t := 2) (fr := (0, 0)) (new_cells _ _)) (by simp [Value.oneCell']) (by omega) (by unfold maxLen; omega) (by omega) hvB.sz (XA.heap.size + 1) (by simp)
      obtain ⟨T1, hvC, hkC, hgC⟩ := hvB.app1 (S := S) hgrow (by rw [hCm]; exact hown) (hat.imp id (fun q => by rw [q]; simp)) (by omega) (by omega) (by omega) (by omega) (by omega) hSS
      rw [hCm] at hvC hkC
      obtain ⟨X3, hX3⟩ : ∃ X3, Kp (X3 = w2.setCell ⟨W2.heap.size, 0, none⟩ (.slice (some ⟨g1, 0, none⟩) (m + 1) cap1)) := ⟨_, ⟨rfl⟩⟩
      rw [← hX3.out] at hvC hkC
      have hs13 : ArS W3 S T T1 X X3 := (hs01.trans hsB).trans ⟨hgC, hkC⟩
      have hB1X : X3.heap[B1]? = X.heap[B1]? := p1' X3 (fun k q1 q2 q3 q4 => by
        rw [hX3.out]
        refine (heap_set _ _ _ _ _ q3).trans ((hgrow.block k (by simp; omega) q4).trans (((MapKept.heap_alloc _ _).2 k (by omega)).trans ?_))
        rw [hXA]
        exact heap_set _ _ _ _ _ q2)
      have hbw2 : w2.heap[W2.heap.size]? = some (Go.Obj.cells #[.slice a1 m c1', .slice a2 m c2', .slice (some ⟨w.heap.size + 3, 0, none⟩) nb nb] 56 (0, 0)) := (hgrow.block _ (by have := hvB.sz; omega) (fun e => by have := (hrB.lt _ e.symm).1; omega)).trans hvB.box
      have q0 := at_cells hbw2 (j := 0) rfl
      have q1 := rw_cells hbw2 0
      have cbA := at_cells hv1'.box (j := 0) rfl
      have c0A : XA.cell? ⟨B1, 0, none⟩ = some (.int .i64 (t : Int)) := at_same c0 (p1' XA (fun k q1 q2 _ _ => by rw [hXA]; exact heap_set _ _ _ _ _ q2))
      have p3 : X3.heap[B1]? = _ := hB1X.trans p1
      have hyC := hvC.nu.at hu
      rw [hy] at hyC
      have k7 : Kp (∀ W', Below X3.heap.size X3 W' → W'.cell? ⟨W2.heap.size, 2, none⟩ = some (.slice (some ⟨w.heap.size + 3, 0, none⟩) nb nb) ∧ W'.cell? ⟨B1, 1, none⟩ = some (.int .i64 (u : Int)) ∧ W'.cell? ⟨w.heap.size + 3, u, none⟩ = some (.int .i64 y)) := ⟨fun W' hW' => ⟨at_keep (at_cells hvC.box (j := 2) rfl) hW', at_keep (at_cells p3 (j := 1) rfl) hW', at_keep hyC hW'⟩⟩
      have b7 := at_cells hvC.box (j := 1) rfl
      have b7d := at_keep b7 (bel_drew X3)
      have b7e := at_keep b7 (bel_trans (bel_drew X3) (bel_alloc X3.drew (Go.Obj.cells #[.int .i64 y] 2)))
      have b7f := at_keep b7 (bel_alloc X3 (Go.Obj.cells #[.int .i64 y] 2))
      have hvD := hvC.keep (bel_trans (bel_drew X3) (bel_alloc X3.drew (Go.Obj.cells #[.int .i64 y] 2)))
      have hsD := hvC.step (S := S) (bel_trans (bel_drew X3) (bel_alloc X3.drew (Go.Obj.cells #[.int .i64 y] 2))) (fun k hk => (hSS k hk).1)
      have hr4 := hvD.r2.r
      rw [hCm2] at hr4
      have hn5 : (X3.drew.alloc (Go.Obj.cells #[.int .i64 y] 2)).heap[X3.heap.size]? = some (Go.Obj.cells #[.int .i64 y] 2 (0, 0)) := new_cells X3.drew _
      have hs5 : W3.heap.size ≤ (X3.drew.alloc (Go.Obj.cells #[.int .i64 y] 2)).heap.size := hvD.sz
      have hs6 : (X3.drew.alloc (Go.Obj.cells #[.int .i64 y] 2)).heap.size = X3.heap.size + 1 := by rw [World.size_alloc]; rfl
      have hp3 : (X3.drew.alloc (Go.Obj.cells #[.int .i64 y] 2)).heap[B1]? = some (Go.Obj.cells #[.int .i64 (t : Int), .int .i64 (u : Int), .bool false] 124 (0, 0)) := keep_cells p3 (bel_trans (bel_drew X3) (bel_alloc X3.drew (Go.Obj.cells #[.int .i64 y] 2)))
      have hyD := hvD.nu.at hu
      rw [hy] at hyD
      have hBne : B1 ≠ W2.heap.size := fun e => by
        have q1 := hv.box
        rw [← e, p1] at q1
        have := (Obj.cells.inj (Option.some.inj q1)).2.1
        revert this; decide
      have hlast : Kp (∀ (g2 cap2 : Nat) (w6 : World), w6.ownsRow W3.heap.size 2 1 (.slice (some ⟨g2, 0, none⟩) (m + 1) cap2) (m + 1) (fs.map (Value.int .i64) ++ [.int .i64 y]) → (X3.drew.alloc (Go.Obj.cells #[.int .i64 y] 2)).grownBy w6 (Value.slice a2 m c2').ownBlock → ((Value.slice a2 m c2').ownBlock = some g2 ∨ g2 = X3.heap.size + 1) →
          (w6.cell? ⟨W2.heap.size, 2, none⟩ = some (.slice (some ⟨w.heap.size + 3, 0, none⟩) nb nb) ∧ w6.cell? ⟨B1, 1, none⟩ = some (.int .i64 (u : Int)) ∧ w6.cell? ⟨w.heap.size + 3, u, none⟩ = some (.int .i64 y)) ∧ w6.frozen? ⟨W2.heap.size, 1, none⟩ = false ∧ w6.cell? ⟨W2.heap.size, 1, none⟩ = some (.slice a2 m c2') ∧
          ((w6.setCell ⟨W2.heap.size, 1, none⟩ (.slice (some ⟨g2, 0, none⟩) (m + 1) cap2)).cell? ⟨W2.heap.size, 2, none⟩ = some (.slice (some ⟨w.heap.size + 3, 0, none⟩) nb nb) ∧ (w6.setCell ⟨W2.heap.size, 1, none⟩ (.slice (some ⟨g2, 0, none⟩) (m + 1) cap2)).cell? ⟨B1, 1, none⟩ = some (.int .i64 (u : Int)) ∧ (w6.setCell ⟨W2.heap.size, 1, none⟩ (.slice (some ⟨g2, 0, none⟩) (m + 1) cap2)).cell? ⟨w.heap.size + 3, u, none⟩ = some (.int .i64 y)) ∧
          ∃ T', Grew T T' X ∧ KdT S T W3.heap.size X (w6.setCell ⟨W2.heap.size, 1, none⟩ (.slice (some ⟨g2, 0, none⟩) (m + 1) cap2)) ∧ ∃ v1 v2, ArI w W3 W2.heap.size (w.heap.size + 3) nb Ro ((comes (L.take (k + 1))).map (·.1)) ((comes (L.take (k + 1))).map (fun e => aF e.2)) (numL ((comes (L.take (k + 1))).map (·.1))) T' (w6.setCell ⟨W2.heap.size, 1, none⟩ (.slice (some ⟨g2, 0, none⟩) (m + 1) cap2)) v1 v2) := ⟨fun g2 cap2 w6 h1 h2 h3 => by
        obtain ⟨T2, hvE, hkE, hgE⟩ := hvD.app2 (S := S) h2 (by rw [hCm2]; exact h1) (h3.imp id (fun q => by rw [q, hs6])) (by omega) (by omega) (by omega) (by omega) (by omega) hSS
        rw [hCm2] at hvE hkE
        have hbx6 : w6.heap[W2.heap.size]? = some (Go.Obj.cells #[.slice (some ⟨g1, 0, none⟩) (m + 1) cap1, .slice a2 m c2', .slice (some ⟨w.heap.size + 3, 0, none⟩) nb nb] 56 (0, 0)) := (h2.block _ (by omega) (fun e => by have := (hr4.lt _ e.symm).1; omega)).trans hvD.box
        have hb16 : w6.heap[B1]? = _ := (h2.block _ (Array.getElem?_eq_some_iff.1 hp3).1 (own_ne hr4 hp3 (by decide))).trans hp3
        have hn6 : At w6 (w.heap.size + 3) u (.int .i64 y) := at_same hyD (h2.block _ (by omega) (fun e => by have := (hr4.lt _ e.symm).1; omega))
        have hyE := hvE.nu.at hu
        rw [hy] at hyE
        refine ⟨⟨at_cells hbx6 (j := 2) rfl, at_cells hb16 (j := 1) rfl, hn6⟩, rw_cells hbx6 1, at_cells hbx6 (j := 1) rfl, ⟨at_cells hvE.box (j := 2) rfl, at_same (at_cells hb16 (j := 1) rfl) (heap_set _ _ _ _ _ hBne), hyE⟩, T2, (hs13.trans (hsD.trans ⟨hgE, hkE⟩)).g, (hs13.trans (hsD.trans ⟨hgE, hkE⟩)).k, .slice (some ⟨g1, 0, none⟩) (m + 1) cap1, .slice (some ⟨g2, 0, none⟩) (m + 1) cap2, ?_⟩
        rw [hmap1.out, hmap2.out]
        exact hvE⟩
      have ht0 : (0 : Int) ≤ (t : Int) := by omega
      have ht1 : (t : Int) < (nb : Int) := by omega
      have hu0 : (0 : Int) ≤ (u : Int) := by omega
      have hu1 : (u : Int) < (nb : Int) := by omega
      rw [hszA] at hrun
      rw [hXA] at hrun cbA c0A
      replace hrun := Kp.mk hrun
      replace hv := Kp.mk hv
      replace hv1 := Kp.mk hv1
      replace hv1' := Kp.mk hv1'
      replace hvB := Kp.mk hvB
      replace hvC := Kp.mk hvC
      replace hvD := Kp.mk hvD
      replace hXA := Kp.mk hXA
      replace hszA := Kp.mk hszA
      replace hy := Kp.mk hy
      replace p1 := Kp.mk p1
      replace p3 := Kp.mk p3
      replace hp3 := Kp.mk hp3
      replace hB1X := Kp.mk hB1X
      replace hbw2 := Kp.mk hbw2
      replace hCm := Kp.mk hCm
      replace hCm2 := Kp.mk hCm2
      clear p1' hs01 hsB hgrow hown hat hkC hgC hs13 hyC hyD hsD hrB htC hBne
      replace hr4 := Kp.mk hr4
      replace hn5 := Kp.mk hn5
      replace hs5 := Kp.mk hs5
      replace hs6 := Kp.mk hs6
      replace b7 := Kp.mk b7
      replace b7d := Kp.mk b7d
      replace b7e := Kp.mk b7e
      replace b7f := Kp.mk b7f
      replace hab := Kp.mk hab
      replace hSS := Kp.mk hSS
      replace hSi := Kp.mk hSi
      gi_wp2_with (gi_at_builtin; refine wpListIn_append_run2 _ rfl (.tmp 29) (.tmp 32) 22 rfl hrun.out ?_)
      rw [← hX3.out]
      replace b7 := b7.out
      replace b7d := b7d.out
      replace b7e := b7e.out
      replace b7f := b7f.out
      replace hr4 := hr4.out
      replace hn5 := hn5.out
      replace hs5 := hs5.out
      replace hs6 := hs6.out
      refine wpIn_region_held (S := fun W' => W'.cell? ⟨W2.heap.size, 2, none⟩ = some (.slice (some ⟨w.heap.size + 3, 0, none⟩) nb nb) ∧ W'.cell? ⟨B1, 1, none⟩ = some (.int .i64 (u : Int)) ∧ W'.cell? ⟨w.heap.size + 3, u, none⟩ = some (.int .i64 y)) (by kernel_rfl) (by kernel_rfl) (by rintro ⟨_, _, h⟩; exact h) (k7.out _ (bel_drew _)) (fun hHeld => ?_)
      refine wpAnyH_take (i := 0) (v := .pointer (some ⟨W2.heap.size, 1, none⟩)) rfl (by kernel_rfl) (by kernel_rfl) (by kernel_rfl) (fun _ _ _ h => h) (Or.inl ⟨by rfl, fun wq hSw => by (try dsimp only at hSw); go_simp⟩) hHeld ?_
      try simp only [Act.put, List.getElem_toArray, List.getElem_cons_succ, List.getElem_cons_zero, List.setIfInBounds_toArray, List.set_cons_zero, List.set_cons_succ]
      refine wpAnyH_take (i := 2) (v := .pointer (some ⟨W2.heap.size, 2, none⟩)) rfl (by kernel_rfl) (by kernel_rfl) (by kernel_rfl) (fun _ _ _ h => h) (Or.inl ⟨by rfl, fun wq hSw => by (try dsimp only at hSw); go_simp⟩) hHeld ?_
      try simp only [Act.put, List.getElem_toArray, List.getElem_cons_succ, List.getElem_cons_zero, List.setIfInBounds_toArray, List.set_cons_zero, List.set_cons_succ]
      refine wpAnyH_take (i := 3) (v := .slice (some ⟨w.heap.size + 3, 0, none⟩) nb nb) rfl (by kernel_rfl) (by kernel_rfl) (by kernel_rfl) (fun _ _ _ h => h) (Or.inl ⟨by rfl, fun wq hSw => by (try dsimp only at hSw); go_simp⟩) hHeld ?_
      try simp only [Act.put, List.getElem_toArray, List.getElem_cons_succ, List.getElem_cons_zero, List.setIfInBounds_toArray, List.set_cons_zero, List.set_cons_succ]
      refine wpAnyH_take (i := 4) (v := .pointer (some ⟨B1, 1, none⟩)) rfl (by kernel_rfl) (by kernel_rfl) (by kernel_rfl) (fun _ _ _ h => h) (Or.inl ⟨by rfl, fun wq hSw => by (try dsimp only at hSw); go_simp⟩) hHeld ?_
      try simp only [Act.put, List.getElem_toArray, List.getElem_cons_succ, List.getElem_cons_zero, List.setIfInBounds_toArray, List.set_cons_zero, List.set_cons_succ]
      refine wpAnyH_take (i := 5) (v := .int .i64 (u : Int)) rfl (by kernel_rfl) (by kernel_rfl) (by kernel_rfl) (fun _ _ _ h => h) (Or.inl ⟨by rfl, fun wq hSw => by (try dsimp only at hSw); go_simp⟩) hHeld ?_
      try simp only [Act.put, List.getElem_toArray, List.getElem_cons_succ, List.getElem_cons_zero, List.setIfInBounds_toArray, List.set_cons_zero, List.set_cons_succ]
      refine wpAnyH_take (i := 6) (v := .pointer (some ⟨w.heap.size + 3, u, none⟩)) rfl (by kernel_rfl) (by kernel_rfl) (by kernel_rfl) (fun _ _ _ h => h) (Or.inl ⟨by rfl, fun wq hSw => by (try dsimp only at hSw); go_simp⟩) hHeld ?_
      try simp only [Act.put, List.getElem_toArray, List.getElem_cons_succ, List.getElem_cons_zero, List.setIfInBounds_toArray, List.set_cons_zero, List.set_cons_succ]
      refine wpAnyH_take (i := 7) (v := .int .i64 y) rfl (by kernel_rfl) (by kernel_rfl) (by kernel_rfl) (fun _ _ _ h => h) (Or.inl ⟨by rfl, fun wq hSw => by (try dsimp only at hSw); go_simp⟩) hHeld ?_
      try simp only [Act.put, List.getElem_toArray, List.getElem_cons_succ, List.getElem_cons_zero, List.setIfInBounds_toArray, List.set_cons_zero, List.set_cons_succ]
      refine wpAnyH_ready (rs := [1, 8]) (by kernel_rfl) (by simp) ?_
      refine AllReadyH.cons rfl (fun K hK => ?_) (AllReadyH.cons rfl (fun K hK => ?_) AllReadyH.nil)
      · go_simp
        refine hK.out _ _ (k7.out _ (bel_drew _)) (fun hHeld => ?_)
        clear hK K
        try simp only [Act.put, List.getElem_toArray, List.getElem_cons_succ, List.getElem_cons_zero, List.setIfInBounds_toArray, List.set_cons_zero, List.set_cons_succ]
        refine wpAnyH_ready (rs := [8]) (by kernel_rfl) (by simp) ?_
        refine AllReadyH.cons rfl (fun K hK => ?_) AllReadyH.nil
        go_simp
        refine hK.out _ _ (k7.out _ (bel_trans (bel_drew _) (bel_alloc _ _))) (fun hHeld => ?_)
        clear hK K
        try simp only [Act.put, List.getElem_toArray, List.getElem_cons_succ, List.getElem_cons_zero, List.setIfInBounds_toArray, List.set_cons_zero, List.set_cons_succ]
        refine wpAnyH_ready (rs := [9]) (by kernel_rfl) (by simp) ?_
        refine AllReadyH.cons rfl (fun K hK => ?_) AllReadyH.nil
        refine step_append_lies _ (by rfl) _ _ _ (by rfl) W3.heap.size 2 i0 _ 1 8 Try.underlying22 hi0 hz0 hz1 hz2 rfl (by omega) (.slice a2 m c2') m (fs.map (Value.int .i64)) (by rfl) hr4 ⟨X3.heap.size, 0, none⟩ 1 1 [.int .i64 y] (by rfl) (by rfl) (World.news_of_block (cs := #[.int .i64 y]) (t := 2) (fr := (0, 0)) hn5) (by simp [Value.oneCell']) (by omega) (by unfold maxLen; omega) (by omega) hs5 (X3.heap.size + 1) hs6 ?_
        intro g2 cap2 w6 hown2 hgrow2 hat2 hlt2
        obtain ⟨z1, z2, z3, z4, hfin⟩ := hlast.out g2 cap2 w6 hown2 hgrow2 hat2
        refine hK.out _ _ z1 (fun hHeld => ?_)
        clear hK K
        try simp only [Act.put, List.getElem_toArray, List.getElem_cons_succ, List.getElem_cons_zero, List.setIfInBounds_toArray, List.set_cons_zero, List.set_cons_succ]
        refine wpAnyH_take (i := 10) (v := .pointer (some ⟨W2.heap.size, 1, none⟩)) rfl (by kernel_rfl) (by kernel_rfl) (by kernel_rfl) (fun _ _ _ h => h) (Or.inl ⟨by rfl, fun wq hSw => by (try dsimp only at hSw); go_simp⟩) hHeld ?_
        try simp only [Act.put, List.getElem_toArray, List.getElem_cons_succ, List.getElem_cons_zero, List.setIfInBounds_toArray, List.set_cons_zero, List.set_cons_succ]
        refine wpAnyH_ready (rs := [11]) (by kernel_rfl) (by simp) ?_
        refine AllReadyH.cons rfl (fun K hK => ?_) AllReadyH.nil
        go_simp
        refine hK.out _ _ z4 (fun hHeld => ?_)
        clear hK K
        try simp only [Act.put, List.getElem_toArray, List.getElem_cons_succ, List.getElem_cons_zero, List.setIfInBounds_toArray, List.set_cons_zero, List.set_cons_succ]
        refine wpAnyH_done (by kernel_rfl) ?_ _
        gi_wp2
        exact hfin
      · go_simp
        refine hK.out _ _ (k7.out _ (bel_trans (bel_drew _) (bel_alloc _ _))) (fun hHeld => ?_)
        clear hK K
        try simp only [Act.put, List.getElem_toArray, List.getElem_cons_succ, List.getElem_cons_zero, List.setIfInBounds_toArray, List.set_cons_zero, List.set_cons_succ]
        refine wpAnyH_ready (rs := [1]) (by kernel_rfl) (by simp) ?_
        refine AllReadyH.cons rfl (fun K hK => ?_) AllReadyH.nil
        go_simp
        refine hK.out _ _ (k7.out _ (bel_trans (bel_drew _) (bel_alloc _ _))) (fun hHeld => ?_)
        clear hK K
        try simp only [Act.put, List.getElem_toArray, List.getElem_cons_succ, List.getElem_cons_zero, List.setIfInBounds_toArray, List.set_cons_zero, List.set_cons_succ]
        refine wpAnyH_ready (rs := [9]) (by kernel_rfl) (by simp) ?_
        refine AllReadyH.cons rfl (fun K hK => ?_) AllReadyH.nil
        refine step_append_lies _ (by rfl) _ _ _ (by rfl) W3.heap.size 2 i0 _ 1 8 Try.underlying22 hi0 hz0 hz1 hz2 rfl (by omega) (.slice a2 m c2') m (fs.map (Value.int .i64)) (by rfl) hr4 ⟨X3.heap.size, 0, none⟩ 1 1 [.int .i64 y] (by rfl) (by rfl) (World.news_of_block (cs := #[.int .i64 y]) (t := 2) (fr := (0, 0)) hn5) (by simp [Value.oneCell']) (by omega) (by unfold maxLen; omega) (by omega) hs5 (X3.heap.size + 1) hs6 ?_
        intro g2 cap2 w6 hown2 hgrow2 hat2 hlt2
        obtain ⟨z1, z2, z3, z4, hfin⟩ := hlast.out g2 cap2 w6 hown2 hgrow2 hat2
        refine hK.out _ _ z1 (fun hHeld => ?_)
        clear hK K
        try simp only [Act.put, List.getElem_toArray, List.getElem_cons_succ, List.getElem_cons_zero, List.setIfInBounds_toArray, List.set_cons_zero, List.set_cons_succ]
        refine wpAnyH_take (i := 10) (v := .pointer (some ⟨W2.heap.size, 1, none⟩)) rfl (by kernel_rfl) (by kernel_rfl) (by kernel_rfl) (fun _ _ _ h => h) (Or.inl ⟨by rfl, fun wq hSw => by (try dsimp only at hSw); go_simp⟩) hHeld ?_
        try simp only [Act.put, List.getElem_toArray, List.getElem_cons_succ, List.getElem_cons_zero, List.setIfInBounds_toArray, List.set_cons_zero, List.set_cons_succ]
        refine wpAnyH_ready (rs := [11]) (by kernel_rfl) (by simp) ?_
        refine AllReadyH.cons rfl (fun K hK => ?_) AllReadyH.nil
        go_simp
        refine hK.out _ _ z4 (fun hHeld => ?_)
        clear hK K
        try simp only [Act.put, List.getElem_toArray, List.getElem_cons_succ, List.getElem_cons_zero, List.setIfInBounds_toArray, List.set_cons_zero, List.set_cons_succ]
        refine wpAnyH_done (by kernel_rfl) ?_ _
        gi_wp2
        exact hfin
  case done =>
    rintro D T X hD ⟨v1, v2, h⟩ hK hT
    rw [List.take_length, hLc.out] at h
    have hpos : 0 < prs.length := by
      have := hA.out.hd
      exact (List.getElem?_eq_some_iff.1 this).1
    obtain ⟨b1, c1, e1, l1, -, row1⟩ := h.r1.row (by simpa using hpos)
    obtain ⟨b2, c2, e2, l2, -, row2⟩ := h.r2.row (by simpa using hpos)
    rw [List.length_map] at e1 l1 row1 e2 l2 row2
    subst e1 e2
    have hXs := h.sz
    have a0 := at_cells h.box (j := 0) rfl
    have a1 := at_cells h.box (j := 1) rfl
    have a2 := at_cells h.box (j := 2) rfl
    have hres := h.res
    rw [hRo.out] at hres
    have r0 := at_cells hres (j := 0) rfl
    have r1 := at_cells hres (j := 1) rfl
    have r2 := at_cells hres (j := 2) rfl
    have z0 := rw_cells hres 0
    have z1 := rw_cells hres 1
    have z2 := rw_cells hres 2
    have row2' : RowI X b2 prs.length (fun i => (frN prs i : Int)) := row2.congr (fun i hi => by
      rw [haF.out]
      unfold frN
      simp [hi])
    have nu := h.nu
    have hDX := (Array.getElem?_eq_some_iff.1 hK).1
    have nb1 := row1.lt
    have nb2 := row2.lt
    have d1 : b1 ≠ D := fun e => by
      obtain ⟨cur, q, -⟩ := row1.ex
      rw [e, hK] at q; cases q
    have d2 : b2 ≠ D := fun e => by
      obtain ⟨cur, q, -⟩ := row2.ex
      rw [e, hK] at q; cases q
    have d1r : b1 ≠ w.heap.size + 1 := fun e => by
      obtain ⟨cur, q, -⟩ := row1.ex
      rw [e, hres] at q
      have := (Obj.cells.inj (Option.some.inj q)).2.1
      revert this; decide
    have d2r : b2 ≠ w.heap.size + 1 := fun e => by
      obtain ⟨cur, q, -⟩ := row2.ex
      rw [e, hres] at q
      have := (Obj.cells.inj (Option.some.inj q)).2.1
      revert this; decide
    have hbel := h.bel
    replace h := Kp.mk h
    replace row1 := Kp.mk row1
    replace row2 := Kp.mk row2
    replace row2' := Kp.mk row2'
    replace nu := Kp.mk nu
    replace hres := Kp.mk hres
    replace hSS := Kp.mk hSS
    replace hSi := Kp.mk hSi
    replace hab := Kp.mk hab
    gi_wp2
    obtain ⟨XF, hXF⟩ : ∃ XF, Kp (XF = (((X.setCell ⟨w.heap.size + 1, 0, none⟩ (.slice (some ⟨b1, 0, none⟩) prs.length c1)).setCell ⟨w.heap.size + 1, 1, none⟩ (.slice (some ⟨b2, 0, none⟩) prs.length c2)).setCell ⟨w.heap.size + 1, 2, none⟩ (.slice (some ⟨w.heap.size + 3, 0, none⟩) nb nb))) := ⟨_, ⟨rfl⟩⟩
    rw [← hXF.out]
    have hF : ∀ k, k ≠ w.heap.size + 1 → XF.heap[k]? = X.heap[k]? := fun k hk => by
      rw [hXF.out]
      exact (heap_set _ _ _ _ _ hk).trans ((heap_set _ _ _ _ _ hk).trans (heap_set _ _ _ _ _ hk))
    have hFs : XF.heap.size = X.heap.size := by rw [hXF.out]; simp [World.setCell]
    have hFo : XF.os = X.os ∧ XF.tape = X.tape ∧ XF.output = X.output := by rw [hXF.out]; exact ⟨rfl, rfl, rfl⟩
    have hK5 : XF.heap[D]? = some (.deferred (some [])) := (hF D (by omega)).trans hK
    have hF1 : XF.heap[w.heap.size + 1]? = some (Go.Obj.cells #[.slice (some ⟨b1, 0, none⟩) prs.length c1, .slice (some ⟨b2, 0, none⟩) prs.length c2, .slice (some ⟨w.heap.size + 3, 0, none⟩) nb nb] 56 (0, 0)) := by
      rw [hXF.out]
      exact (set_cells (set_cells (set_cells hres.out 0 _) 1 _) 2 _).trans rfl
    have hPk : ∀ (o : Obj) k, k ≠ D → (XF.putObj D o).heap[k]? = XF.heap[k]? := fun o k hk => World.putObj_heap_other hk
    have cc0 : ∀ o, (XF.putObj D o).cell? ⟨w.heap.size + 1, 0, none⟩ = some (.slice (some ⟨b1, 0, none⟩) prs.length c1) := fun o => at_cells ((hPk o _ (by omega)).trans hF1) rfl
    have cc1 : ∀ o, (XF.putObj D o).cell? ⟨w.heap.size + 1, 1, none⟩ = some (.slice (some ⟨b2, 0, none⟩) prs.length c2) := fun o => at_cells ((hPk o _ (by omega)).trans hF1) rfl
    have cc2 : ∀ o, (XF.putObj D o).cell? ⟨w.heap.size + 1, 2, none⟩ = some (.slice (some ⟨w.heap.size + 3, 0, none⟩) nb nb) := fun o => at_cells ((hPk o _ (by omega)).trans hF1) rfl
    refine ⟨by simp, .inl ⟨_, _, rfl, run_takeDeferred hK5, ?_⟩⟩
    refine ⟨.agg #[.slice (some ⟨b1, 0, none⟩) prs.length c1, .slice (some ⟨b2, 0, none⟩) prs.length c2, .slice (some ⟨w.heap.size + 3, 0, none⟩) nb nb], ?_, b1, b2, w.heap.size + 3, c1, c2, rfl, ?_, ?_, ?_, ?_, l1, l2⟩
    · simp [results, Try.results53, go_sem, cc0, cc1, cc2]
    · exact (row1.out.same ((hPk _ b1 d1).trans (hF b1 d1r))).congr (fun i hi => by simp)
    · exact row2'.out.same ((hPk _ b2 d2).trans (hF b2 d2r))
    · exact nu.out.same ((hPk _ _ (by omega)).trans (hF _ (by omega)))
    · refine ⟨hFo.1.trans hbel.os, hFo.2.1.trans hbel.tape, hFo.2.2.trans hbel.output, by have := hbel.size; simp; omega, fun k hk => (hPk _ k (by omega)).trans ((hF k (by omega)).trans (hbel.block k hk))⟩
  case stop =>
    rintro D c k T X _ _ h _ _
    exact h.elim
end Go.Proofs.Ytbfpfjkjeekbdaa
