/- The program's walk: the state that it keeps in memory. -/
import Derived.Test.YtbfpfjkjeekbdaaRa
import Derived.Test.YtbfpfjkjeekbdaaDf1
import Derived.Test.YtbfpfjkjeekbdaaGi1
import Derived.Maps.OwnIn
namespace Go.Proofs.Ytbfpfjkjeekbdaa
open Go.ChangeShapes Go.WideShapes Go.ChangeAt Go.RowKit
set_option linter.unusedVariables false
set_option linter.unusedSimpArgs false
/-- A list that is read in blocks of a set. -/
structure RestOk (S : Nat → Prop) (W : World) (rv : Value) (r : List Int) : Prop where
  ex : ∃ b o, Sl rv r.length b o ∧ S b ∧ ∀ i (h : i < r.length), At W b (o + i) (.int .i64 r[i])
/-- A block on the way: its number, where it was come from, what it has not looked at, and that as a value. -/
structure Vs where
  b : Int
  f : Int
  r : List Int
  v : Value
abbrev vsC (x : Vs) : List Value := [.int .i64 x.b, .int .i64 x.f, .bool false, x.v]
def waC (ws : List Vs) : List Value := ws.flatMap vsC
theorem waC_len (ws : List Vs) : (waC ws).length = ws.length * 4 := by
  induction ws with
  | nil => rfl
  | cons x r ih => unfold waC at *; rw [List.flatMap_cons, List.length_append, ih]; simp; omega
theorem waC_app (a b : List Vs) : waC (a ++ b) = waC a ++ waC b := by simp [waC]
/-- The way, as the walk with a list has it. -/
def wayOf (ws : List Vs) : List (Int × Int × List Int) := ws.reverse.map (fun x => (x.b, x.f, x.r))
theorem wayOf_snoc (us : List Vs) (x : Vs) : wayOf (us ++ [x]) = (x.b, x.f, x.r) :: wayOf us := by simp [wayOf]
/-- What holds in the midst of a walk. -/
structure WkI (S : Nat → Prop) (W wr : World) (J : Nat → (Nat → Prop) → World → Prop) (T : Nat → Prop) (Mb cnt : Nat) (wv : Value) (ws : List Vs) (s : List Int) (j : Nat) : Prop where
  j : J j T wr
  hS : ∀ m, S m → wr.heap[m]? = W.heap[m]?
  set : SetI wr Mb cnt s
  way : wr.ownsRow W.heap.size 148 4 wv ws.length (waC ws)
  rest : ∀ x ∈ ws, RestOk S W x.v x.r
  sz : W.heap.size ≤ wr.heap.size
  mb : W.heap.size ≤ Mb
  tm : ¬ T Mb
  tw : ∀ g, wv.ownBlock = some g → ¬ T g
section
variable {S : Nat → Prop} {W wr w' : World} {J : Nat → (Nat → Prop) → World → Prop} {T T' : Nat → Prop} {Mb cnt : Nat} {wv : Value} {ws us : List Vs} {s : List Int} {j : Nat}
theorem SetI.lt {w : World} {b n : Nat} {acc : List Int} (h : SetI w b n acc) : b < w.heap.size := by
  obtain ⟨D, h1, h2⟩ := h.ex
  exact h1.lt
theorem SetI.row_ne {w : World} {b n : Nat} {acc : List Int} (h : SetI w b n acc) {base size m : Nat} {e : TypeId} {v : Value} {xs : List Value} (ho : w.ownsRow base e size v m xs) : some b ≠ v.ownBlock := by
  obtain ⟨D, ⟨es, clock, h1, -⟩, h2⟩ := h.ex
  rcases ho.2 with ⟨rfl, _⟩ | ⟨g, cap, cur, rfl, hb, hg, _⟩
  · simp [Value.ownBlock]
  · intro q
    simp only [Value.ownBlock, Option.some.injEq] at q
    rw [q, hg] at h1
    cases h1
theorem row_kept' {w w' : World} {base n size : Nat} {e : TypeId} {v : Value} {xs : List Value} (h : w.ownsRow base e size v n xs) (hb : ∀ g, v.ownBlock = some g → w'.heap[g]? = w.heap[g]?) : w'.ownsRow base e size v n xs := by
  refine ⟨h.1, ?_⟩
  rcases h.2 with h0 | ⟨g, cap, cur, rfl, hb1, hg, rest⟩
  · exact .inl h0
  · exact .inr ⟨g, cap, cur, rfl, hb1, (hb g rfl).trans hg, rest⟩
theorem SetI.kept' {w w' : World} {b n : Nat} {acc : List Int} (h : SetI w b n acc) (hb : w'.heap[b]? = w.heap[b]?) : SetI w' b n acc := by
  obtain ⟨D, ⟨es, clock, h1, r⟩, h2⟩ := h.ex
  exact ⟨D, ⟨es, clock, hb.trans h1, r⟩, h2⟩
/-- The walk's own blocks lie as they lay, and what the rounds speak of too. -/
theorem WkI.move (h : WkI S W wr J T Mb cnt wv ws s j) (hJ : AbF W.heap.size J) (hSl : ∀ m, S m → m < W.heap.size) (hos : w'.os = wr.os) (htp : w'.tape = wr.tape) (hou : w'.output = wr.output) (hsz : wr.heap.size ≤ w'.heap.size)
    (hb : ∀ k, k < wr.heap.size → (k < W.heap.size ∨ T k ∨ k = Mb ∨ wv.ownBlock = some k) → w'.heap[k]? = wr.heap[k]?) : WkI S W w' J T Mb cnt wv ws s j :=
  ⟨hJ.ab j T wr w' h.j h.sz ⟨hos, htp, hou, hsz, fun k hk => hb k (by have := h.sz; omega) (.inl hk), fun k hk => hb k (hJ.lt j T wr h.j k hk) (.inr (.inl hk))⟩,
    fun m hm => (hb m (by have := hSl m hm; have := h.sz; omega) (.inl (hSl m hm))).trans (h.hS m hm), h.set.kept' (hb _ h.set.lt (.inr (.inr (.inl rfl)))),
    row_kept' h.way (fun g hg => hb g (h.way.lt _ hg).2 (.inr (.inr (.inr hg)))), h.rest, Nat.le_trans h.sz hsz, h.mb, h.tm, h.tw⟩
theorem WkI.below (h : WkI S W wr J T Mb cnt wv ws s j) (hJ : AbF W.heap.size J) (hSl : ∀ m, S m → m < W.heap.size) (hb : Below wr.heap.size wr w') : WkI S W w' J T Mb cnt wv ws s j :=
  h.move hJ hSl hb.os hb.tape hb.output hb.size (fun k hk _ => hb.block k hk)
/-- Behind a round. -/
theorem WkI.round (h : WkI S W wr J T Mb cnt wv ws s j) (hg : Grew T T' wr) (hk : KdT S T W.heap.size wr w') (hj : J (j + 1) T' w') : WkI S W w' J T' Mb cnt wv ws s (j + 1) := by
  have nt : ∀ k, k < wr.heap.size → ¬ T k → ¬ T' k := fun k hk hT q => by
    rcases hg k q with q | q
    · exact hT q
    · omega
  exact ⟨hj, fun m hm => (hk.low m hm).trans (h.hS m hm), h.set.kept' (hk.high _ h.mb h.set.lt h.tm), row_kept' h.way (fun g hg => hk.high g (h.way.lt _ hg).1 (h.way.lt _ hg).2 (h.tw g hg)), h.rest, Nat.le_trans h.sz hk.size, h.mb,
    nt _ h.set.lt h.tm, fun g hg => nt g (h.way.lt _ hg).2 (h.tw g hg)⟩
/-- Behind an addition to the set. -/
theorem WkI.add (h : WkI S W wr J T Mb cnt wv ws s j) (hJ : AbF W.heap.size J) (hSl : ∀ m, S m → m < W.heap.size) {cnt' : Nat} {s' : List Int} (hg : wr.grownBy w' (some Mb)) (hs : SetI w' Mb cnt' s') : WkI S W w' J T Mb cnt' wv ws s' j := by
  have hb : ∀ k, k < wr.heap.size → k ≠ Mb → w'.heap[k]? = wr.heap[k]? := fun k hk hne => hg.block k hk (by simp; exact hne)
  refine ⟨hJ.ab j T wr w' h.j h.sz ⟨hg.os, hg.tape, hg.output, hg.size, fun k hk => hb k (by have := h.sz; omega) (by have := h.mb; omega), fun k hk => hb k (hJ.lt j T wr h.j k hk) (fun e => h.tm (e ▸ hk))⟩,
    fun m hm => (hb m (by have := hSl m hm; have := h.sz; omega) (by have := hSl m hm; have := h.mb; omega)).trans (h.hS m hm), hs, row_kept' h.way (fun g hg => hb g (h.way.lt _ hg).2 (fun e => h.set.row_ne h.way (by rw [hg, e]))), h.rest, Nat.le_trans h.sz hg.size, h.mb, h.tm, h.tw⟩
/-- The way's row: its block and cells. -/
theorem WkI.row (h : WkI S W wr J T Mb cnt wv ws s j) (h0 : 0 < ws.length) : ∃ g cap cur, wv = .slice (some ⟨g, 0, none⟩) ws.length cap ∧ wr.heap[g]? = some (Go.Obj.cells cur 148 (0, 0)) ∧ ws.length ≤ cap ∧ cap ≤ maxLen ∧ cur.size = cap * 4 ∧ cur.toList.take (ws.length * 4) = waC ws ∧ W.heap.size ≤ g := by
  obtain ⟨-, ⟨rfl, q⟩ | ⟨g, cap, cur, e, h1, h2, h3, h4, h5, h6⟩⟩ := h.way
  · omega
  · exact ⟨g, cap, cur, e, h2, h3, h4, h5, h6, h1⟩
theorem waC_at (us : List Vs) (x : Vs) (q : Nat) (hq : q < 4) : (waC (us ++ [x]))[us.length * 4 + q]? = (vsC x)[q]? := by
  rw [waC_app, List.getElem?_append_right (by rw [waC_len]; omega), waC_len]
  simp only [waC, List.flatMap_cons, List.flatMap_nil, List.append_nil]
  congr 1
  omega
/-- The cells of the block that the walk is at. -/
theorem top_cells {cur : Array Value} {us : List Vs} {x : Vs} (h6 : cur.toList.take ((us ++ [x]).length * 4) = waC (us ++ [x])) : ∀ q, q < 4 → ∀ y, (vsC x)[q]? = some y → cur[us.length * 4 + q]? = some y := by
  intro q hq y hy
  rw [← waC_at us x q hq, ← h6, List.getElem?_take] at hy
  split at hy
  · simpa using hy
  · cases hy
/-- The way is cut by its last block. -/
theorem WkI.pop {x : Vs} {g cap : Nat} (h : WkI S W wr J T Mb cnt (.slice (some ⟨g, 0, none⟩) (us ++ [x]).length cap) (us ++ [x]) s j) : WkI S W wr J T Mb cnt (.slice (some ⟨g, 0, none⟩) us.length cap) us s j := by
  refine ⟨h.j, h.hS, h.set, ?_, fun y hy => h.rest y (by simp [hy]), h.sz, h.mb, h.tm, h.tw⟩
  obtain ⟨-, ⟨e, q⟩ | ⟨g', cap', cur, e, h1, h2, h3, h4, h5, h6⟩⟩ := h.way
  · cases e
  · cases e
    refine ⟨waC_len us, .inr ⟨g, cap, cur, rfl, h1, h2, by simp at h3; omega, h4, h5, ?_⟩⟩
    have e1 : cur.toList.take (us.length * 4) = (cur.toList.take ((us ++ [x]).length * 4)).take (us.length * 4) := by rw [List.take_take, Nat.min_eq_left (by simp; omega)]
    rw [e1, h6, waC_app, List.take_append_of_le_length (by rw [waC_len]; omega), ← waC_len us, List.take_length]
/-- What the block at the way's end has not looked at is written anew. -/
theorem WkI.setRest {x : Vs} {g cap : Nat} (h : WkI S W wr J T Mb cnt (.slice (some ⟨g, 0, none⟩) (us ++ [x]).length cap) (us ++ [x]) s j) (hJ : AbF W.heap.size J) (hSl : ∀ m, S m → m < W.heap.size) {r' : List Int} {rv' : Value} (hr : RestOk S W rv' r') :
    WkI S W (wr.setCell ⟨g, us.length * 4 + 3, none⟩ rv') J T Mb cnt (.slice (some ⟨g, 0, none⟩) (us ++ [{ x with r := r', v := rv' }]).length cap) (us ++ [{ x with r := r', v := rv' }]) s j := by
  have hgW : W.heap.size ≤ g := (h.way.lt g rfl).1
  have hb : ∀ k, k ≠ g → (wr.setCell ⟨g, us.length * 4 + 3, none⟩ rv').heap[k]? = wr.heap[k]? := fun k hk => heap_set _ _ _ _ _ hk
  have hsz : wr.heap.size ≤ (wr.setCell ⟨g, us.length * 4 + 3, none⟩ rv').heap.size := by simp [World.setCell]
  refine ⟨hJ.ab j T wr _ h.j h.sz ⟨rfl, rfl, rfl, hsz, fun k hk => hb k (by omega), fun k hk => hb k (fun e => h.tw g rfl (e ▸ hk))⟩, fun m hm => (hb m (by have := hSl m hm; omega)).trans (h.hS m hm), h.set.kept' (hb _ (fun e => h.set.row_ne h.way (by rw [e]; rfl))), ?_, ?_, Nat.le_trans h.sz hsz, h.mb, h.tm, h.tw⟩
  · obtain ⟨hl, ⟨e, q⟩ | ⟨g', cap', cur, e, h1, h2, h3, h4, h5, h6⟩⟩ := h.way
    · cases e
    · cases e
      have hlen : (us ++ [{ x with r := r', v := rv' }]).length = (us ++ [x]).length := by simp
      have hi : us.length * 4 + 3 < cur.size := by rw [h5]; simp at h3; omega
      rw [hlen]
      refine ⟨by rw [waC_len, hlen], .inr ⟨g, cap, cur.setIfInBounds (us.length * 4 + 3) rv', rfl, hgW, set_cells h2 _ _, h3, h4, by simp [h5], ?_⟩⟩
      apply List.ext_getElem?
      intro i
      have hA : (cur.toList.take ((us ++ [x]).length * 4))[i]? = (waC (us ++ [x]))[i]? := by rw [h6]
      rw [Array.toList_setIfInBounds, List.getElem?_take]
      rw [List.getElem?_take] at hA
      by_cases hlt : i < (us ++ [x]).length * 4
      · rw [if_pos hlt] at hA ⊢
        rw [List.getElem?_set]
        by_cases e : us.length * 4 + 3 = i
        · subst e
          rw [if_pos rfl, if_pos (by simpa using hi), waC_at us _ 3 (by omega)]
          rfl
        · rw [if_neg e, hA]
          by_cases hu : i < us.length * 4
          · rw [waC_app, waC_app, List.getElem?_append_left (by rw [waC_len]; exact hu), List.getElem?_append_left (by rw [waC_len]; exact hu)]
          · obtain ⟨q, rfl⟩ : ∃ q, i = us.length * 4 + q := ⟨i - us.length * 4, by omega⟩
            have hq : q < 4 := by simp at hlt; omega
            rw [waC_at us x q hq, waC_at us _ q hq]
            have : q ≠ 3 := by omega
            match q, hq with
            | 0, _ => rfl
            | 1, _ => rfl
            | 2, _ => rfl
            | 3, _ => omega
      · rw [if_neg hlt, List.getElem?_eq_none (by rw [waC_len, hlen]; omega)]
  · intro y hy
    rcases List.mem_append.1 hy with hy | hy
    · exact h.rest y (by simp [hy])
    · obtain rfl := List.mem_singleton.1 hy
      exact hr
/-- A block is put at the way's end. -/
theorem WkI.push (h : WkI S W wr J T Mb cnt wv ws s j) (hJ : AbF W.heap.size J) (hSl : ∀ m, S m → m < W.heap.size) {x : Vs} {g cap : Nat} {o : Obj} (hg : (wr.alloc o).grownBy w' wv.ownBlock)
    (hown : w'.ownsRow W.heap.size 148 4 (.slice (some ⟨g, 0, none⟩) (ws.length + 1) cap) (ws.length + 1) (waC ws ++ vsC x)) (hat : wv.ownBlock = some g ∨ g = wr.heap.size + 1) (hr : RestOk S W x.v x.r) :
    WkI S W w' J T Mb cnt (.slice (some ⟨g, 0, none⟩) (ws ++ [x]).length cap) (ws ++ [x]) s j := by
  have h2 := h.below hJ hSl (bel_alloc wr o)
  have hb : ∀ k, k < (wr.alloc o).heap.size → some k ≠ wv.ownBlock → w'.heap[k]? = (wr.alloc o).heap[k]? := hg.block
  have hWn : ∀ k, k < W.heap.size → some k ≠ wv.ownBlock := fun k hk e => by have := (h.way.lt _ e.symm).1; omega
  refine ⟨hJ.ab j T _ w' h2.j h2.sz ⟨hg.os, hg.tape, hg.output, hg.size, fun k hk => hb k (by have := h2.sz; omega) (hWn k hk), fun k hk => hb k (hJ.lt j T _ h2.j k hk) (fun e => h.tw k e.symm hk)⟩,
    fun m hm => (hb m (by have := hSl m hm; have := h2.sz; omega) (hWn m (hSl m hm))).trans (h2.hS m hm), h2.set.kept' (hb _ h2.set.lt (h.set.row_ne h.way)), ?_, ?_, Nat.le_trans h2.sz hg.size, h.mb, h.tm, ?_⟩
  · rw [waC_app, List.length_append]
    simpa [waC] using hown
  · intro y hy
    rcases List.mem_append.1 hy with hy | hy
    · exact h.rest y hy
    · obtain rfl := List.mem_singleton.1 hy
      exact hr
  · intro g' hg'
    simp only [Value.ownBlock, Option.some.injEq] at hg'
    rcases hat with q | q
    · exact hg' ▸ h.tw g q
    · intro hT
      have := hJ.lt j T wr h.j g' hT
      omega
theorem WkI.push2 (h : WkI S W wr J T Mb cnt wv ws s j) (hJ : AbF W.heap.size J) (hSl : ∀ m, S m → m < W.heap.size) {x : Vs} {g cap : Nat} (hg : wr.grownBy w' wv.ownBlock)
    (hown : w'.ownsRow W.heap.size 148 4 (.slice (some ⟨g, 0, none⟩) (ws.length + 1) cap) (ws.length + 1) (waC ws ++ vsC x)) (hat : wv.ownBlock = some g ∨ g = wr.heap.size) (hr : RestOk S W x.v x.r) :
    WkI S W w' J T Mb cnt (.slice (some ⟨g, 0, none⟩) (ws ++ [x]).length cap) (ws ++ [x]) s j := by
  have hb : ∀ k, k < wr.heap.size → some k ≠ wv.ownBlock → w'.heap[k]? = wr.heap[k]? := hg.block
  have hWn : ∀ k, k < W.heap.size → some k ≠ wv.ownBlock := fun k hk e => by have := (h.way.lt _ e.symm).1; omega
  refine ⟨hJ.ab j T _ w' h.j h.sz ⟨hg.os, hg.tape, hg.output, hg.size, fun k hk => hb k (by have := h.sz; omega) (hWn k hk), fun k hk => hb k (hJ.lt j T _ h.j k hk) (fun e => h.tw k e.symm hk)⟩,
    fun m hm => (hb m (by have := hSl m hm; have := h.sz; omega) (hWn m (hSl m hm))).trans (h.hS m hm), h.set.kept' (hb _ h.set.lt (h.set.row_ne h.way)), ?_, ?_, Nat.le_trans h.sz hg.size, h.mb, h.tm, ?_⟩
  · rw [waC_app, List.length_append]
    simpa [waC] using hown
  · intro y hy
    rcases List.mem_append.1 hy with hy | hy
    · exact h.rest y hy
    · obtain rfl := List.mem_singleton.1 hy
      exact hr
  · intro g' hg'
    simp only [Value.ownBlock, Option.some.injEq] at hg'
    rcases hat with q | q
    · exact hg' ▸ h.tw g q
    · intro hT
      have := hJ.lt j T wr h.j g' hT
      omega
end
end Go.Proofs.Ytbfpfjkjeekbdaa
