/- The specification's walk that goes down: its contract. -/
import Derived.Test.YtoajibpconhkdaaDf1
import Derived.Test.YtoajibpconhkdaaGs1
namespace Go.Proofs.Ytoajibpconhkdaa
open Go.ChangeShapes Go.WideShapes Go.ChangeAt Go.RowKit
set_option linter.unusedVariables false
set_option linter.unusedSimpArgs false
/-- A row of Booleans: which blocks are on the list. -/
structure SeenAt (w : World) (b n : Nat) (s : List Int) : Prop where
  ex : ∃ cur, w.heap[b]? = some (Go.Obj.cells cur 4 (0, 0)) ∧ ∀ i : Nat, i < n → cur[i]? = some (.bool (s.contains (i : Int)))
section
variable {w w' : World} {b n : Nat} {s : List Int}
theorem SeenAt.at (h : SeenAt w b n s) {i : Nat} (hi : i < n) : At w b i (.bool (s.contains (i : Int))) := by
  obtain ⟨cur, h1, h2⟩ := h.ex
  exact at_cells h1 (h2 i hi)
theorem SeenAt.rw (h : SeenAt w b n s) (i : Nat) : w.frozen? ⟨b, i, none⟩ = false := by
  obtain ⟨cur, h1, h2⟩ := h.ex
  exact rw_cells h1 i
theorem SeenAt.lt (h : SeenAt w b n s) : b < w.heap.size := by
  obtain ⟨cur, h1, h2⟩ := h.ex
  exact (Array.getElem?_eq_some_iff.1 h1).1
theorem SeenAt.keep (h : SeenAt w b n s) (hb : Below w.heap.size w w') : SeenAt w' b n s := by
  obtain ⟨cur, h1, h2⟩ := h.ex
  exact ⟨cur, keep_cells h1 hb, h2⟩
theorem SeenAt.kept {row : Option Nat} (h : SeenAt w b n s) (hg : w.grownBy w' row) (hne : some b ≠ row) : SeenAt w' b n s := by
  obtain ⟨cur, h1, h2⟩ := h.ex
  exact ⟨cur, (hg.block _ (Array.getElem?_eq_some_iff.1 h1).1 hne).trans h1, h2⟩
theorem SeenAt.add (h : SeenAt w b n s) {j : Nat} (hj : j < n) : SeenAt (w.setCell ⟨b, j, none⟩ (.bool true)) b n (s ++ [(j : Int)]) := by
  obtain ⟨cur, h1, h2⟩ := h.ex
  refine ⟨_, set_cells h1 j _, fun i hi => ?_⟩
  have hc := (Array.getElem?_eq_some_iff.1 (h2 j hj)).1
  rw [List.contains_append]
  by_cases e : i = j
  · subst e
    simp [hc]
  · have : ([(j : Int)].contains (i : Int)) = false := by simp; omega
    rw [this, Bool.or_false]
    simp only [Array.getElem?_setIfInBounds]
    rw [if_neg (Ne.symm e)]
    exact h2 i hi
end
/-- But for the block sb and a row, what lay lies. -/
structure Fr (w w' : World) (sb : Nat) (row : Option Nat) : Prop where
  os : w'.os = w.os
  tape : w'.tape = w.tape
  output : w'.output = w.output
  size : w.heap.size ≤ w'.heap.size
  block : ∀ k, k < w.heap.size → k ≠ sb → some k ≠ row → w'.heap[k]? = w.heap[k]?
theorem Fr.below {w0 w w' : World} {sb E : Nat} {row : Option Nat} (h : Fr w w' sb row) (hb : Below E w0 w) (hE : E ≤ w.heap.size) (h1 : E ≤ sb) (h2 : ∀ g, row = some g → E ≤ g) : Below E w0 w' :=
  ⟨h.os.trans hb.os, h.tape.trans hb.tape, h.output.trans hb.output, Nat.le_trans hb.size h.size, fun k hk => (h.block k (by omega) (by omega) (fun e => by have := h2 k e.symm; omega)).trans (hb.block k hk)⟩
theorem Fr.below_then {w w1 w2 : World} {sb : Nat} {row : Option Nat} (h : Fr w w1 sb row) (hb : Below w1.heap.size w1 w2) : Fr w w2 sb row :=
  ⟨hb.os.trans h.os, hb.tape.trans h.tape, hb.output.trans h.output, Nat.le_trans h.size hb.size, fun k hk h1 h2 => (hb.block k (Nat.lt_of_lt_of_le hk h.size)).trans (h.block k hk h1 h2)⟩
theorem Fr.of_below {w w' : World} {sb : Nat} {row : Option Nat} (h : Below w.heap.size w w') : Fr w w' sb row := ⟨h.os, h.tape, h.output, h.size, fun k hk _ _ => h.block k hk⟩
theorem Fr.trans {w w1 w2 : World} {sb : Nat} {row row' : Option Nat} (h : Fr w w1 sb row) (h' : Fr w1 w2 sb row') (hr : row' = row ∨ ∀ g, row' = some g → w.heap.size ≤ g) : Fr w w2 sb row :=
  ⟨h'.os.trans h.os, h'.tape.trans h.tape, h'.output.trans h.output, Nat.le_trans h.size h'.size, fun k hk h1 h2 => (h'.block k (Nat.lt_of_lt_of_le hk h.size) h1 (fun e => by
    rcases hr with q | q
    · rw [q] at e; exact h2 e
    · have := q k e.symm; omega)).trans (h.block k hk h1 h2)⟩
theorem Fr.set {w : World} {sb : Nat} {row : Option Nat} (j : Nat) (u : Value) : Fr w (w.setCell ⟨sb, j, none⟩ u) sb row := ⟨rfl, rfl, rfl, by simp [World.setCell], fun k _ h1 _ => heap_set _ _ _ _ _ h1⟩
theorem Fr.grown {w w' : World} {sb : Nat} {row : Option Nat} (h : w.grownBy w' row) : Fr w w' sb row := ⟨h.os, h.tape, h.output, h.size, fun k hk _ h2 => h.block k hk h2⟩
theorem bel_trans' {E : Nat} {a b c : World} (h : Below E a b) (k : Below b.heap.size b c) (hE : E ≤ b.heap.size := by omega) : Below E a c := h.trans (k.mono hE)
theorem rec_take {nx : Int → List Int} {xs : List Int} {i : Nat} (hi : i < xs.length) : xs.drop i = xs[i] :: xs.drop (i + 1) := List.drop_eq_getElem_cons hi
theorem OwnI.ne {w : World} {base B : Nat} {v : Value} {xs : List Int} {arr : Array Value} {t : TypeId} {z : Nat × Nat} (h : OwnI w base v xs) (hB : w.heap[B]? = some (Go.Obj.cells arr t z)) (ht : t ≠ 2) : some B ≠ v.ownBlock := own_ne h.r hB ht
theorem OwnI.kept {w w' : World} {base : Nat} {v : Value} {xs : List Int} {row : Option Nat} (h : OwnI w base v xs) (hg : w.grownBy w' row) (hne : v.ownBlock = none ∨ v.ownBlock ≠ row) : OwnI w' base v xs := ⟨h.r.kept hg hne⟩
set_option maxRecDepth 100000 in
set_option maxHeartbeats 8000000 in
theorem walkS (nx : Int → List Int) (n lo sb : Nat) (w0 : World) (an ap : Option Addr) (cn mp cp : Nat) (G : Rws lo w0 (.slice an n cn) n (fun i => nx i)) (hn : n ≤ 1048576) (hnx : ∀ i : Nat, i < n → (nx i).length ≤ 1048576 ∧ ∀ y ∈ nx i, 0 ≤ y ∧ y < n) (hsb : w0.heap.size ≤ sb) :
    ∀ (k : Nat) (s : List Int) (b : Nat) (xs : List Int) (v : Value) (w : World), unS n s ≤ k → b < n → s.contains (b : Int) = false → Below w0.heap.size w0 w → SeenAt w sb n s → OwnI w (sb + 1) v xs → xs.length + unS n s ≤ 1048576 →
    Calls Try.prog 41 #[.agg #[.slice an n cn, .slice ap mp cp], .int .i64 b, .slice (some ⟨sb, 0, none⟩) n n, v] w fun e w' => ∃ v' s' L, e = .returned v' ∧ Rec nx true b [] s s' L ∧ SeenAt w' sb n s' ∧ OwnI w' (sb + 1) v' (xs ++ L) ∧ Fr w w' sb v.ownBlock ∧ (v'.ownBlock = v.ownBlock ∨ ∀ g, v'.ownBlock = some g → w.heap.size ≤ g) ∧ L.length + unS n s' ≤ unS n s := by
  obtain ⟨hb, ho, ⟨⟨_, _, eG, g1, g2⟩, g3⟩, -, gc⟩ := G.ex
  cases eG
  replace gc := Kp.mk gc
  replace hnx := Kp.mk hnx
  intro k
  induction k with
  | zero =>
    intro s b xs v w hk hb2 hs
    have := unS_add n hb2 hs
    omega
  | succ k ih =>
    intro s b xs v w hk hb2 hs hB hS hO hxl
    obtain rfl := g2 (by omega)
    have IH := Kp.mk ih
    clear ih g2
    have hlt1 := unS_add n hb2 hs
    obtain ⟨vu, hcell, hrow⟩ := gc.out b hb2
    obtain ⟨gb, go, ⟨⟨ax, cu, rfl, u1, u2⟩, u3⟩, -, uc⟩ := hrow.ex
    obtain ⟨hnl, hny⟩ := hnx.out b hb2
    obtain ⟨a0, c0', hsv⟩ := hO.shape
    subst hsv
    have hbE : w0.heap.size ≤ w.heap.size := hB.size
    have hsw := hS.lt
    have hSr := hS.rw b
    have hSa := hS.at hb2
    have hb0 : (0 : Int) ≤ (b : Int) := by omega
    have hb1 : (b : Int) < (n : Int) := by omega
    obtain ⟨Bo, hBo⟩ : ∃ Bo, Kp (Bo = Go.Obj.cells #[.slice (some ⟨hb, ho, none⟩) n cn, .slice ap mp cp] 59 (0, 0)) := ⟨_, ⟨rfl⟩⟩
    obtain ⟨W1, hW1⟩ : ∃ W1, Kp (W1 = (w.setCell ⟨sb, b, none⟩ (.bool true)).alloc (Go.Obj.cells #[.slice (some ⟨hb, ho, none⟩) n cn, .slice ap mp cp] 59)) := ⟨_, ⟨rfl⟩⟩
    have hA := bel_alloc w (Go.Obj.cells #[.slice (some ⟨hb, ho, none⟩) n cn, .slice ap mp cp] 59)
    have hS1 : SeenAt W1 sb n (s ++ [(b : Int)]) := by rw [hW1.out]; exact (hS.add hb2).keep (bel_alloc _ _)
    have hO1 : OwnI W1 (sb + 1) (.slice a0 xs.length c0') xs := by
      rw [hW1.out]
      exact (hO.kept (Fam.setHd.gset _ sb b _) (.inr fun e => by have := (hO.r.lt _ e).1; omega)).keep (bel_alloc _ _)
    have hbx : W1.heap[w.heap.size]? = some Bo := by
      rw [hW1.out, hBo.out]
      have := new_cells (w.setCell ⟨sb, b, none⟩ (.bool true)) (Go.Obj.cells #[.slice (some ⟨hb, ho, none⟩) n cn, .slice ap mp cp] 59)
      rwa [show (w.setCell ⟨sb, b, none⟩ (.bool true)).heap.size = w.heap.size by simp [World.setCell]] at this
    have hF1 : Fr w W1 sb (Value.slice a0 xs.length c0').ownBlock := by
      rw [hW1.out]
      exact (Fr.set _ _).below_then (bel_alloc _ _)
    have hSA : ∀ o, (w.alloc o).cell? ⟨sb, b, none⟩ = some (.bool (s.contains (b : Int))) := fun o => at_keep hSa (bel_alloc _ _)
    have hSR : ∀ o, (w.alloc o).frozen? ⟨sb, b, none⟩ = false := fun o => (hS.keep (bel_alloc w o)).rw b
    have SK : Kp (∀ W', W'.heap[w.heap.size]? = some Bo → Below w0.heap.size w0 W' → (W'.cell? ⟨w.heap.size, 0, none⟩ = some (.slice (some ⟨hb, ho, none⟩) n cn) ∧ W'.cell? ⟨w.heap.size, 1, none⟩ = some (.slice ap mp cp) ∧ W'.cell? ⟨hb, ho + b, none⟩ = some (.slice ax (nx b).length cu))) := ⟨fun W' h1 h2 => by
      rw [hBo.out] at h1
      exact ⟨at_cells h1 rfl, at_cells h1 rfl, at_keep hcell h2⟩⟩
    have UC : Kp (∀ W', Below w0.heap.size w0 W' → ∀ i (h : i < (nx b).length), At W' gb (go + i) (.int .i64 (nx b)[i])) := ⟨fun W' h i hi => at_keep (uc i hi) h⟩
    have hn1 : xs.length + unS n (s ++ [(b : Int)]) ≤ 1048576 := by omega
    have hBE1 : w0.heap.size ≤ W1.heap.size := by have := hF1.size; omega
    have hB1 := hF1.below hB hbE hsb (fun g hg => by have := (hO.r.lt _ hg).1; omega)
    obtain ⟨i0, hi0, hz0, hz1, hz2⟩ := info_parts info64
    replace hny := Kp.mk hny
    replace hS := Kp.mk hS
    replace hO := Kp.mk hO
    replace hcell := Kp.mk hcell
    replace u2 := Kp.mk u2
    clear hrow uc hA
    go_enter Try.func41, Try.ntmps41
    go_upto_region 2 with fail
    rw [← hW1.out]
    clear hSA hSR hSa hSr
    go_wp2_with fail
    go_loopw [3, 9] (fun r q wr => ∃ (i : Nat) (s1 L1 : List Int), i ≤ (nx b).length ∧ q = .int .i64 i ∧ Kp (∀ s' L', Rec nx false 0 ((nx b).drop i) s1 s' L' → Rec nx false 0 (nx b) (s ++ [(b : Int)]) s' (L1 ++ L')) ∧ SeenAt wr sb n s1 ∧ OwnI wr (sb + 1) r (xs ++ L1) ∧ Fr w wr sb (Value.slice a0 xs.length c0').ownBlock ∧
      (r.ownBlock = (Value.slice a0 xs.length c0').ownBlock ∨ ∀ g, r.ownBlock = some g → w.heap.size ≤ g) ∧ L1.length + unS n s1 ≤ unS n (s ++ [(b : Int)]) ∧ wr.heap[w.heap.size]? = some Bo) (fun r q _ => (nx b).length - (intOf q).toNat)
    case atStart => exact ⟨0, s ++ [(b : Int)], [], Nat.zero_le _, rfl, ⟨fun s' L' h => by simpa using h⟩, hS1, by simpa using hO1, hF1, .inl rfl, by simp, hbx⟩
    case round =>
      clear hS1 hO1 hF1 hbx hB1 hBE1
      obtain ⟨i, s1, L1, hi, rfl, hR, hS1, hO1, hF1, hv1, hn2, hbx⟩ := hrel
      have hBE2 : w0.heap.size ≤ wr.heap.size := by have := hF1.size; omega
      have hBw2 := hF1.below hB hbE hsb (fun g hg => by have := (hO.out.r.lt _ hg).1; omega)
      obtain ⟨y0, y1, q1⟩ := SK.out wr hbx hBw2
      by_cases hil : i < (nx b).length
      · obtain rfl := u2.out (by omega)
        have c0 := UC.out wr hBw2 i hil
        obtain ⟨hc0, hc1⟩ := hny.out (nx b)[i] (List.getElem_mem hil)
        have hdr := Kp.mk (rec_take (nx := nx) hil)
        generalize hce : (nx b)[i] = c at *
        replace hce := Kp.mk hce
        obtain ⟨t, rfl⟩ : ∃ t : Nat, c = t := ⟨c.toNat, by omega⟩
        have ht : t < n := by omega
        have sa := hS1.at ht
        have hi0' : (0 : Int) ≤ (i : Int) := by omega
        have hi1' : (i : Int) < ((nx b).length : Int) := by omega
        by_cases hm : s1.contains (t : Int) = true
        · rw [hm] at sa
          have hR2 : Kp (∀ s' L', Rec nx false 0 ((nx b).drop (i + 1)) s1 s' L' → Rec nx false 0 (nx b) (s ++ [(b : Int)]) s' (L1 ++ L')) := ⟨fun s' L' h => hR.out s' L' (by rw [hdr.out]; exact Rec.skip _ _ _ _ _ hm h)⟩
          replace hm := Kp.mk hm
          clear hR
          go_wp2_with fail
          exact ⟨⟨i + 1, s1, L1, by omega, by go_num, hR2, hS1, hO1, hF1, hv1, hn2, hbx⟩, by simp [intOf]; omega⟩
        · have hcs : s1.contains (t : Int) = false := by simpa using hm
          rw [hcs] at sa
          have hxl2 : (xs ++ L1).length + unS n s1 ≤ 1048576 := by rw [List.length_append]; omega
          have hIH := Kp.mk (IH.out s1 t (xs ++ L1) _ wr.drew (by omega) ht hcs (bel_trans' hBw2 (bel_drew wr)) (hS1.keep (bel_drew wr)) (hO1.keep (bel_drew wr)) hxl2)
          obtain ⟨ys, hys⟩ : ∃ ys, Kp (xs ++ L1 = ys) := ⟨_, ⟨rfl⟩⟩
          rw [hys.out] at hO1 hIH hxl2
          obtain ⟨a1, c1, hsv1⟩ := hO1.shape
          subst hsv1
          replace hm := Kp.mk hm
          replace hcs := Kp.mk hcs
          go_upto_region 6 with fail
          refine wp_region_held_drew (S := fun W' => W'.cell? ⟨w.heap.size, 0, none⟩ = some (.slice (some ⟨hb, ho, none⟩) n cn) ∧ W'.cell? ⟨w.heap.size, 1, none⟩ = some (.slice ap mp cp) ∧ W'.cell? ⟨hb, ho + b, none⟩ = some (.slice (some ⟨gb, go, none⟩) (nx b).length cu) ∧ W'.cell? ⟨gb, go + i, none⟩ = some (.int .i64 t)) (by kernel_rfl) ⟨y0, y1, q1, c0⟩ (fun hHeld => ?_)
          refine wpAnyH_take (i := 0) (v := .agg #[.slice (some ⟨hb, ho, none⟩) n cn, .slice ap mp cp]) rfl (by kernel_rfl) (by kernel_rfl) (by kernel_rfl) (fun _ _ _ h => h) (Or.inl ⟨by rfl, fun wq hSw => by (try dsimp only at hSw); go_simp⟩) hHeld ?_
          try simp only [Act.put, List.getElem_toArray, List.getElem_cons_succ, List.getElem_cons_zero, List.setIfInBounds_toArray, List.set_cons_zero, List.set_cons_succ]
          refine wpAnyH_take (i := 1) (v := .pointer (some ⟨w.heap.size, 0, none⟩)) rfl (by kernel_rfl) (by kernel_rfl) (by kernel_rfl) (fun _ _ _ h => h) (Or.inl ⟨by rfl, fun wq hSw => by (try dsimp only at hSw); go_simp⟩) hHeld ?_
          try simp only [Act.put, List.getElem_toArray, List.getElem_cons_succ, List.getElem_cons_zero, List.setIfInBounds_toArray, List.set_cons_zero, List.set_cons_succ]
          refine wpAnyH_take (i := 2) (v := .slice (some ⟨hb, ho, none⟩) n cn) rfl (by kernel_rfl) (by kernel_rfl) (by kernel_rfl) (fun _ _ _ h => h) (Or.inl ⟨by rfl, fun wq hSw => by (try dsimp only at hSw); go_simp⟩) hHeld ?_
          try simp only [Act.put, List.getElem_toArray, List.getElem_cons_succ, List.getElem_cons_zero, List.setIfInBounds_toArray, List.set_cons_zero, List.set_cons_succ]
          refine wpAnyH_take (i := 3) (v := .int .i64 b) rfl (by kernel_rfl) (by kernel_rfl) (by kernel_rfl) (fun _ _ _ h => h) (Or.inl ⟨by rfl, fun wq hSw => by (try dsimp only at hSw); go_simp⟩) hHeld ?_
          try simp only [Act.put, List.getElem_toArray, List.getElem_cons_succ, List.getElem_cons_zero, List.setIfInBounds_toArray, List.set_cons_zero, List.set_cons_succ]
          refine wpAnyH_take (i := 4) (v := .pointer (some ⟨hb, ho + b, none⟩)) rfl (by kernel_rfl) (by kernel_rfl) (by kernel_rfl) (fun _ _ _ h => h) (Or.inl ⟨by rfl, fun wq hSw => by (try dsimp only at hSw); go_simp⟩) hHeld ?_
          try simp only [Act.put, List.getElem_toArray, List.getElem_cons_succ, List.getElem_cons_zero, List.setIfInBounds_toArray, List.set_cons_zero, List.set_cons_succ]
          refine wpAnyH_take (i := 5) (v := .slice (some ⟨gb, go, none⟩) (nx b).length cu) rfl (by kernel_rfl) (by kernel_rfl) (by kernel_rfl) (fun _ _ _ h => h) (Or.inl ⟨by rfl, fun wq hSw => by (try dsimp only at hSw); go_simp⟩) hHeld ?_
          try simp only [Act.put, List.getElem_toArray, List.getElem_cons_succ, List.getElem_cons_zero, List.setIfInBounds_toArray, List.set_cons_zero, List.set_cons_succ]
          refine wpAnyH_take (i := 6) (v := .int .i64 i) rfl (by kernel_rfl) (by kernel_rfl) (by kernel_rfl) (fun _ _ _ h => h) (Or.inl ⟨by rfl, fun wq hSw => by (try dsimp only at hSw); go_simp⟩) hHeld ?_
          try simp only [Act.put, List.getElem_toArray, List.getElem_cons_succ, List.getElem_cons_zero, List.setIfInBounds_toArray, List.set_cons_zero, List.set_cons_succ]
          refine wpAnyH_take (i := 7) (v := .pointer (some ⟨gb, go + i, none⟩)) rfl (by kernel_rfl) (by kernel_rfl) (by kernel_rfl) (fun _ _ _ h => h) (Or.inl ⟨by rfl, fun wq hSw => by (try dsimp only at hSw); go_simp⟩) hHeld ?_
          try simp only [Act.put, List.getElem_toArray, List.getElem_cons_succ, List.getElem_cons_zero, List.setIfInBounds_toArray, List.set_cons_zero, List.set_cons_succ]
          refine wpAnyH_take (i := 8) (v := .int .i64 t) rfl (by kernel_rfl) (by kernel_rfl) (by kernel_rfl) (fun _ _ _ h => h) (Or.inl ⟨by rfl, fun wq hSw => by (try dsimp only at hSw); go_simp⟩) hHeld ?_
          try simp only [Act.put, List.getElem_toArray, List.getElem_cons_succ, List.getElem_cons_zero, List.setIfInBounds_toArray, List.set_cons_zero, List.set_cons_succ]
          refine wpAnyH_take (i := 9) (v := .slice (some ⟨sb, 0, none⟩) n n) rfl (by kernel_rfl) (by kernel_rfl) (by kernel_rfl) (fun _ _ _ h => h) (Or.inl ⟨by rfl, fun wq hSw => by (try dsimp only at hSw); go_simp⟩) hHeld ?_
          try simp only [Act.put, List.getElem_toArray, List.getElem_cons_succ, List.getElem_cons_zero, List.setIfInBounds_toArray, List.set_cons_zero, List.set_cons_succ]
          refine wpAnyH_take (i := 10) (v := .slice a1 ys.length c1) rfl (by kernel_rfl) (by kernel_rfl) (by kernel_rfl) (fun _ _ _ h => h) (Or.inl ⟨by rfl, fun wq hSw => by (try dsimp only at hSw); go_simp⟩) hHeld ?_
          try simp only [Act.put, List.getElem_toArray, List.getElem_cons_succ, List.getElem_cons_zero, List.setIfInBounds_toArray, List.set_cons_zero, List.set_cons_succ]
          refine wpAnyH_ready (rs := [11]) (by kernel_rfl) (by simp) ?_
          refine AllReadyH.cons rfl (fun K hK => ?_) AllReadyH.nil
          go_simp
          refine hIH.out.mono ?_
          rintro e w2 ⟨v2, s2, L2, rfl, hR2, hS2, hO2, hF2, hv2, hn3⟩
          obtain ⟨zs, hzs⟩ : ∃ zs, Kp (ys ++ L2 = zs) := ⟨_, ⟨rfl⟩⟩
          rw [hzs.out] at hO2
          obtain ⟨a2, c2, rfl⟩ := hO2.shape
          have hF2' : Fr wr w2 sb (Value.slice a1 ys.length c1).ownBlock := ⟨hF2.os, hF2.tape, hF2.output, hF2.size, hF2.block⟩
          have hB2 := hF2'.below hBw2 hBE2 hsb (fun g hg => by have := (hO1.r.lt _ hg).1; omega)
          have hbx2 := (hF2'.block w.heap.size (Array.getElem?_eq_some_iff.1 hbx).1 (by omega) (hO1.ne (by rw [hBo.out] at hbx; exact hbx) (by decide))).trans hbx
          have S2 : (fun W' => W'.cell? ⟨w.heap.size, 0, none⟩ = some (.slice (some ⟨hb, ho, none⟩) n cn) ∧ W'.cell? ⟨w.heap.size, 1, none⟩ = some (.slice ap mp cp) ∧ W'.cell? ⟨hb, ho + b, none⟩ = some (.slice (some ⟨gb, go, none⟩) (nx b).length cu) ∧ W'.cell? ⟨gb, go + i, none⟩ = some (.int .i64 t)) w2 := by obtain ⟨z0, z1, z2⟩ := SK.out w2 hbx2 hB2; have z3 := UC.out w2 hB2 i hil; rw [hce.out] at z3; exact ⟨z0, z1, z2, z3⟩
          refine hK.out _ _ S2 (fun hHeld => ?_)
          clear hK K
          try simp only [Act.put, List.getElem_toArray, List.getElem_cons_succ, List.getElem_cons_zero, List.setIfInBounds_toArray, List.set_cons_zero, List.set_cons_succ]
          refine wpAnyH_take (i := 12) (v := .slice a2 zs.length c2) rfl (by kernel_rfl) (by kernel_rfl) (by kernel_rfl) (fun _ _ _ h => h) (Or.inl ⟨by rfl, fun wq hSw => by (try dsimp only at hSw); go_simp⟩) hHeld ?_
          try simp only [Act.put, List.getElem_toArray, List.getElem_cons_succ, List.getElem_cons_zero, List.setIfInBounds_toArray, List.set_cons_zero, List.set_cons_succ]
          refine wpAnyH_done (by kernel_rfl) ?_ _
          go_wp2_with fail
          have hR2' : Kp (∀ s' L', Rec nx false 0 ((nx b).drop (i + 1)) s2 s' L' → Rec nx false 0 (nx b) (s ++ [(b : Int)]) s' ((L1 ++ L2) ++ L')) := ⟨fun s' L' h => by
            rw [List.append_assoc]
            exact hR.out s' _ (by rw [hdr.out]; exact Rec.down _ _ _ _ _ _ _ hcs.out hR2 h)⟩
          refine ⟨⟨i + 1, s2, L1 ++ L2, by omega, by go_num, hR2', hS2, by rw [← List.append_assoc, hys.out, hzs.out]; exact hO2, hF1.trans hF2' hv1, ?_, ?_, hbx2⟩, by simp [intOf]; omega⟩
          · rcases hv2 with q | q
            · rw [q]; exact hv1
            · exact .inr fun g hg => by have := q g hg; have := hF1.size; simp at *; omega
          · rw [List.length_append]; omega
      · have hR2 := Kp.mk (hR.out s1 [] (by rw [List.drop_eq_nil_of_le (by omega)]; exact Rec.nil _))
        obtain ⟨ys, hys⟩ : ∃ ys, Kp (xs ++ L1 = ys) := ⟨_, ⟨rfl⟩⟩
        have hyl : ys.length ≤ 1048576 := by rw [← hys.out, List.length_append]; omega
        rw [hys.out] at hO1
        obtain ⟨a1, c1, hsv1⟩ := hO1.shape
        subst hsv1
        have hsb1 : sb + 1 ≤ wr.heap.size := hS1.lt
        clear hR
        go_wp2_with (at_builtin; refine wpList_append_lies _ rfl _ _ _ rfl (sb + 1) 2 i0 _ 1 8 Try.underlying22 hi0 hz0 hz1 hz2 rfl (by omega) (.slice a1 ys.length c1) ys.length (ys.map (Value.int .i64)) rfl (hO1.r.alloc _) ⟨wr.heap.size, 0, none⟩ 1 1 [.int .i64 b] rfl rfl (World.news_of_block (cs := #[.int .i64 b]) (t := 2) (fr := (0, 0)) (heap_alloc_new wr _)) (by simp [Value.oneCell']) (by omega) (by unfold maxLen; omega) (by omega) (by simp; omega) (wr.heap.size + 1) (by simp) ?_; intro gg cap w3 hown3 hgrow hat hlt3)
        go_ret
        have hrn : ∀ g, (Value.slice a1 ys.length c1).ownBlock = some g → sb + 1 ≤ g := fun g hg => (hO1.r.lt _ hg).1
        have hg2 : Fr wr w3 sb (Value.slice a1 ys.length c1).ownBlock := (Fr.of_below (bel_alloc wr (Go.Obj.cells #[.int .i64 b] 2))).trans (Fr.grown hgrow) (.inl rfl)
        refine ⟨_, s1, L1 ++ [(b : Int)], rfl, ?_, ?_, ⟨?_⟩, hF1.trans hg2 hv1, ?_, ?_⟩
        · have := hR2.out
          rw [List.append_nil] at this
          exact Rec.block _ _ _ _ this
        · exact (hS1.keep (bel_alloc _ _)).kept hgrow (fun e => by have := hrn _ e.symm; omega)
        · rw [← List.append_assoc, hys.out]
          simpa using hown3
        · rcases hat with q | q
          · rcases hv1 with z | z
            · exact .inl (q.symm.trans z)
            · exact .inr fun g hg => z g (by rw [q]; exact hg)
          · refine .inr fun g hg => ?_
            have hg' : gg = g := by simpa [Value.ownBlock] using hg
            have := hF1.size
            omega
        · rw [List.length_append, List.length_singleton]
          omega
end Go.Proofs.Ytoajibpconhkdaa
