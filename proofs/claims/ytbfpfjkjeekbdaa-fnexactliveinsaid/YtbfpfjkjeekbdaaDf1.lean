/- A walk through a graph: with a list of what is left to do, and by going down. -/
import Derived.Test.YtbfpfjkjeekbdaaGr1
namespace Go.Proofs.Ytbfpfjkjeekbdaa
set_option linter.unusedVariables false
set_option linter.unusedSimpArgs false
/-- The walk with a list: each block with the one from which it was come to and the next ones that it has not looked at; what comes of it: comings and leavings in order. -/
inductive Walks (nx : Int → List Int) : Nat → List (Int × Int × List Int) → List Int → List (Int × Int × Bool) → Prop
  | nil (s : List Int) : Walks nx 0 [] s []
  | leave (k : Nat) (b f : Int) (st : List (Int × Int × List Int)) (s : List Int) (E : List (Int × Int × Bool)) (h : Walks nx k st s E) : Walks nx (k + 1) ((b, f, []) :: st) s ((b, f, true) :: E)
  | skip (k : Nat) (b f c : Int) (r : List Int) (st : List (Int × Int × List Int)) (s : List Int) (E : List (Int × Int × Bool)) (hc : s.contains c = true) (h : Walks nx k ((b, f, r) :: st) s E) : Walks nx (k + 1) ((b, f, c :: r) :: st) s E
  | come (k : Nat) (b f c : Int) (r : List Int) (st : List (Int × Int × List Int)) (s : List Int) (E : List (Int × Int × Bool)) (hc : s.contains c = false) (h : Walks nx k ((c, b, nx c) :: (b, f, r) :: st) (s ++ [c]) E) : Walks nx (k + 1) ((b, f, c :: r) :: st) s ((c, b, false) :: E)
/-- Going down: from a block, and through a list of blocks. -/
inductive Rec (nx : Int → List Int) : Bool → Int → List Int → List Int → List Int → List Int → Prop
  | block (b : Int) (s s' L : List Int) (h : Rec nx false 0 (nx b) (s ++ [b]) s' L) : Rec nx true b [] s s' (L ++ [b])
  | nil (s : List Int) : Rec nx false 0 [] s s []
  | skip (c : Int) (r s s' L : List Int) (hc : s.contains c = true) (h : Rec nx false 0 r s s' L) : Rec nx false 0 (c :: r) s s' L
  | down (c : Int) (r s s1 s2 L1 L2 : List Int) (hc : s.contains c = false) (h1 : Rec nx true c [] s s1 L1) (h2 : Rec nx false 0 r s1 s2 L2) : Rec nx false 0 (c :: r) s s2 (L1 ++ L2)
/-- The blocks that are left, in order. -/
def lefts (E : List (Int × Int × Bool)) : List Int := (E.filter (fun e => e.2.2)).map (·.1)
theorem lefts_leave (b f : Int) (E : List (Int × Int × Bool)) : lefts ((b, f, true) :: E) = b :: lefts E := by simp [lefts]
theorem lefts_come (b f : Int) (E : List (Int × Int × Bool)) : lefts ((b, f, false) :: E) = lefts E := by simp [lefts]
theorem Walks.det {nx : Int → List Int} {k k' : Nat} {st : List (Int × Int × List Int)} {s : List Int} {E E' : List (Int × Int × Bool)} (h : Walks nx k st s E) (h' : Walks nx k' st s E') : E = E' := by
  induction h generalizing k' E' with
  | nil s => cases h'; rfl
  | leave k b f st s E h ih => cases h' with | leave _ _ _ _ _ E2 h2 => rw [ih h2]
  | skip k b f c r st s E hc h ih =>
    cases h' with
    | skip _ _ _ _ _ _ _ _ hc2 h2 => exact ih h2
    | come _ _ _ _ _ _ _ E2 hc2 h2 => rw [hc] at hc2; cases hc2
  | come k b f c r st s E hc h ih =>
    cases h' with
    | skip _ _ _ _ _ _ _ _ hc2 h2 => rw [hc] at hc2; cases hc2
    | come _ _ _ _ _ _ _ E2 hc2 h2 => rw [ih h2]
/-- What going down leaves, the list leaves. -/
theorem Rec.walks {nx : Int → List Int} {q : Bool} {b : Int} {r s s' L : List Int} (h : Rec nx q b r s s' L) :
    (q = false → ∀ (b f : Int) (st : List (Int × Int × List Int)) (E : List (Int × Int × Bool)) (k : Nat), Walks nx k ((b, f, []) :: st) s' E → ∃ k' E', Walks nx k' ((b, f, r) :: st) s E' ∧ lefts E' = L ++ lefts E) ∧
    (q = true → ∀ (f : Int) (st : List (Int × Int × List Int)) (E : List (Int × Int × Bool)) (k : Nat), Walks nx k st s' E → ∃ k' E', Walks nx k' ((b, f, nx b) :: st) (s ++ [b]) E' ∧ lefts E' = L ++ lefts E) := by
  induction h with
  | block b s s' L h ih =>
    refine ⟨fun e => (by cases e), fun _ f st E k hE => ?_⟩
    obtain ⟨k', E', h1, h2⟩ := ih.1 rfl b f st _ _ (Walks.leave k b f st s' E hE)
    exact ⟨k', E', h1, by rw [h2, lefts_leave]; simp⟩
  | nil s => exact ⟨fun _ b f st E k hE => ⟨k, E, hE, rfl⟩, fun e => (by cases e)⟩
  | skip c r s s' L hc h ih =>
    refine ⟨fun _ b f st E k hE => ?_, fun e => (by cases e)⟩
    obtain ⟨k', E', h1, h2⟩ := ih.1 rfl b f st E k hE
    exact ⟨_, E', Walks.skip k' b f c r st s E' hc h1, h2⟩
  | down c r s s1 s2 L1 L2 hc h1 h2 ih1 ih2 =>
    refine ⟨fun _ b f st E k hE => ?_, fun e => (by cases e)⟩
    obtain ⟨k2, E2, w2, l2⟩ := ih2.1 rfl b f st E k hE
    obtain ⟨k1, E1, w1, l1⟩ := ih1.2 rfl b ((b, f, r) :: st) E2 k2 w2
    exact ⟨_, (c, b, false) :: E1, Walks.come k1 b f c r st s E1 hc w1, by rw [lefts_come, l1, l2, List.append_assoc]⟩
theorem Rec.root {nx : Int → List Int} {b f : Int} {s s' L : List Int} (h : Rec nx true b [] s s' L) : ∃ k E, Walks nx k [(b, f, nx b)] (s ++ [b]) E ∧ lefts E = L := by
  obtain ⟨k, E, h1, h2⟩ := h.walks.2 rfl f [] [] 0 (Walks.nil s')
  exact ⟨k, E, h1, by rw [h2]; simp [lefts]⟩
/-- The walk with a list, blocks alone. -/
inductive Lw (nx : Int → List Int) : Nat → List (Int × List Int) → List Int → List Int → Prop
  | nil (s : List Int) : Lw nx 0 [] s []
  | leave (k : Nat) (b : Int) (st : List (Int × List Int)) (s L : List Int) (h : Lw nx k st s L) : Lw nx (k + 1) ((b, []) :: st) s (b :: L)
  | skip (k : Nat) (b c : Int) (r : List Int) (st : List (Int × List Int)) (s L : List Int) (hc : s.contains c = true) (h : Lw nx k ((b, r) :: st) s L) : Lw nx (k + 1) ((b, c :: r) :: st) s L
  | come (k : Nat) (b c : Int) (r : List Int) (st : List (Int × List Int)) (s L : List Int) (hc : s.contains c = false) (h : Lw nx k ((c, nx c) :: (b, r) :: st) (s ++ [c]) L) : Lw nx (k + 1) ((b, c :: r) :: st) s L
theorem Walks.lw {nx : Int → List Int} {k : Nat} {st : List (Int × Int × List Int)} {s : List Int} {E : List (Int × Int × Bool)} (h : Walks nx k st s E) : Lw nx k (st.map (fun x => (x.1, x.2.2))) s (lefts E) := by
  induction h with
  | nil s => exact Lw.nil s
  | leave k b f st s E h ih => rw [lefts_leave]; exact Lw.leave _ _ _ _ _ ih
  | skip k b f c r st s E hc h ih => exact Lw.skip _ _ _ _ _ _ _ hc ih
  | come k b f c r st s E hc h ih => rw [lefts_come]; exact Lw.come _ _ _ _ _ _ _ hc ih
/-- How many of the first n blocks are not on a list. -/
def unS (n : Nat) (s : List Int) : Nat := ((List.range n).filter (fun i : Nat => !s.contains (i : Int))).length
theorem filter_len_le {α : Type} {p q : α → Bool} (h : ∀ x, p x = true → q x = true) : ∀ l : List α, (l.filter p).length ≤ (l.filter q).length
  | [] => Nat.le_refl _
  | x :: r => by
    have := filter_len_le h r
    rw [List.filter_cons, List.filter_cons]
    by_cases e : p x = true
    · rw [if_pos e, if_pos (h x e)]; simp; exact this
    · rw [if_neg e]
      split
      · simp; omega
      · exact this
theorem filter_len_lt {α : Type} {p q : α → Bool} (h : ∀ x, p x = true → q x = true) {y : α} (h1 : p y = false) (h2 : q y = true) : ∀ l : List α, y ∈ l → (l.filter p).length < (l.filter q).length
  | [], hy => by simp at hy
  | x :: r, hy => by
    have hle := filter_len_le h r
    rw [List.filter_cons, List.filter_cons]
    rcases List.mem_cons.1 hy with rfl | hy
    · rw [if_neg (by simp [h1]), if_pos h2]; simp; omega
    · have := filter_len_lt h h1 h2 r hy
      by_cases e : p x = true
      · rw [if_pos e, if_pos (h x e)]; simp; exact this
      · rw [if_neg e]
        split
        · simp; omega
        · exact this
theorem unS_mono (n : Nat) {s s' : List Int} (h : ∀ x, s.contains x = true → s'.contains x = true) : unS n s' ≤ unS n s := by
  refine filter_len_le (fun x hx => ?_) _
  simp only [Bool.not_eq_true'] at hx ⊢
  cases e : s.contains (x : Int) with
  | false => rfl
  | true => rw [h _ e] at hx; cases hx
theorem unS_add (n : Nat) {s : List Int} {b : Nat} (hb : b < n) (hs : s.contains (b : Int) = false) : unS n (s ++ [(b : Int)]) < unS n s := by
  refine filter_len_lt (fun x hx => ?_) (y := b) (by simp) (by simpa using hs) _ (List.mem_range.2 hb)
  simp only [List.contains_append, Bool.not_or, Bool.and_eq_true] at hx
  exact hx.1
theorem unS_nil (n : Nat) (s : List Int) : unS n s ≤ n := by
  have := List.length_filter_le (fun i : Nat => !s.contains (i : Int)) (List.range n)
  rw [List.length_range] at this
  exact this
theorem Rec.mono {nx : Int → List Int} {q : Bool} {b : Int} {r s s' L : List Int} (h : Rec nx q b r s s' L) : ∀ x, s.contains x = true → s'.contains x = true := by
  induction h with
  | block b s s' L h ih => exact fun x hx => ih x (by rw [List.contains_append, hx]; rfl)
  | nil s => exact fun x hx => hx
  | skip c r s s' L hc h ih => exact ih
  | down c r s s1 s2 L1 L2 hc h1 h2 ih1 ih2 => exact fun x hx => ih2 x (ih1 x hx)
/-- How much is left to do: it lessens by one with each move. -/
def wkM (nx : Int → List Int) (n : Nat) (st : List (Int × Int × List Int)) (s : List Int) : Nat := (st.map (fun x => x.2.2.length + 1)).sum + (((List.range n).filter (fun i : Nat => !s.contains (i : Int))).map (fun i : Nat => (nx (i : Int)).length + 1)).sum
theorem sum_filter_add (g : Nat → Nat) (p q : Nat → Bool) (b : Nat) : ∀ (l : List Nat), l.Nodup → b ∈ l → p b = true → q b = false → (∀ x, x ≠ b → p x = q x) → ((l.filter p).map g).sum = ((l.filter q).map g).sum + g b
  | [], _, hb, _, _, _ => by simp at hb
  | x :: r, hn, hb, h1, h2, h3 => by
    rw [List.filter_cons, List.filter_cons]
    rw [List.nodup_cons] at hn
    by_cases e : x = b
    · subst e
      rw [if_pos h1, if_neg (by simp [h2])]
      have e2 : r.filter p = r.filter q := List.filter_congr fun y hy => h3 y (fun e => hn.1 (e ▸ hy))
      rw [e2]
      simp
      omega
    · have ih := sum_filter_add g p q b r hn.2 (by rcases List.mem_cons.1 hb with q | q; exact absurd q.symm e; exact q) h1 h2 h3
      rw [h3 x e]
      split
      · simp; omega
      · exact ih
theorem nodup_range' (n : Nat) : (List.range n).Nodup := List.nodup_range
/-- There is always a walk. -/
theorem exists_walk (nx : Int → List Int) (n : Nat) (hnx : ∀ i : Nat, i < n → ∀ y ∈ nx i, 0 ≤ y ∧ y < n) : ∀ (m : Nat) (st : List (Int × Int × List Int)) (s : List Int), wkM nx n st s ≤ m → (∀ x ∈ st, ∀ y ∈ x.2.2, 0 ≤ y ∧ y < n) → ∃ k E, Walks nx k st s E := by
  intro m
  induction m with
  | zero =>
    intro st s hm hv
    cases st with
    | nil => exact ⟨_, _, Walks.nil s⟩
    | cons x st => simp [wkM] at hm
  | succ m ih =>
    intro st s hm hv
    cases st with
    | nil => exact ⟨_, _, Walks.nil s⟩
    | cons x st =>
      obtain ⟨b, f, r⟩ := x
      cases r with
      | nil =>
        obtain ⟨k, E, h⟩ := ih st s (by unfold wkM at *; simp only [List.map_cons, List.sum_cons, List.length_nil] at hm; omega) (fun x hx => hv x (by simp [hx]))
        exact ⟨_, _, Walks.leave k b f st s E h⟩
      | cons c r =>
        have hv' : ∀ x ∈ (b, f, r) :: st, ∀ y ∈ x.2.2, 0 ≤ y ∧ y < n := fun x hx y hy => by
          rcases List.mem_cons.1 hx with rfl | hx
          · exact hv (b, f, c :: r) (by simp) y (by simp at hy ⊢; exact .inr hy)
          · exact hv x (by simp [hx]) y hy
        cases hc : s.contains c with
        | true =>
          obtain ⟨k, E, h⟩ := ih ((b, f, r) :: st) s (by unfold wkM at *; simp only [List.map_cons, List.sum_cons, List.length_cons] at hm ⊢; omega) hv'
          exact ⟨_, _, Walks.skip k b f c r st s E hc h⟩
        | false =>
          obtain ⟨c0, c1⟩ := hv (b, f, c :: r) (by simp) c (by simp)
          obtain ⟨t, rfl⟩ : ∃ t : Nat, c = t := ⟨c.toNat, by omega⟩
          have hs := sum_filter_add (fun i : Nat => (nx (i : Int)).length + 1) (fun i : Nat => !s.contains (i : Int)) (fun i : Nat => !(s ++ [(t : Int)]).contains (i : Int)) t (List.range n) (nodup_range' n) (List.mem_range.2 (by omega)) (by simpa using hc) (by simp) (fun x hx => by
            have : ([(t : Int)].contains (x : Int)) = false := by simp; omega
            simp only [List.contains_append, this, Bool.or_false])
          obtain ⟨k, E, h⟩ := ih (((t : Int), b, nx t) :: (b, f, r) :: st) (s ++ [(t : Int)]) (by unfold wkM at *; simp only [List.map_cons, List.sum_cons, List.length_cons] at hm ⊢; omega) (fun x hx y hy => by
            rcases List.mem_cons.1 hx with rfl | hx
            · exact hnx t (by omega) y hy
            · exact hv' x hx y hy)
          exact ⟨_, _, Walks.come k b f _ r st s E hc h⟩
theorem exists_root (nx : Int → List Int) (n : Nat) (hnx : ∀ i : Nat, i < n → ∀ y ∈ nx i, 0 ≤ y ∧ y < n) (b : Nat) (hb : b < n) : ∃ k E, Walks nx k [((b : Int), (b : Int), nx b)] [(b : Int)] E :=
  exists_walk nx n hnx _ _ _ (Nat.le_refl _) (fun x hx y hy => by
    obtain rfl := List.mem_singleton.1 hx
    exact hnx b hb y hy)
end Go.Proofs.Ytbfpfjkjeekbdaa
