/- Dominators by semidominators, over numbers in the order of coming: the mathematics alone. -/
import Derived.Test.YtbfpfjkjeekbdaaDf1
namespace Go.Proofs.Ytbfpfjkjeekbdaa
/-- A way along edges, each of whose blocks, the ends too, lies in S. -/
inductive Way {α : Type} (E : α → α → Prop) (S : α → Prop) : α → α → Prop
  | nil (a : α) : S a → Way E S a a
  | cons (a b c : α) : S a → E a b → Way E S b c → Way E S a c
theorem Way.trans {α : Type} {E : α → α → Prop} {S : α → Prop} {a b c : α} (h : Way E S a b) (h' : Way E S b c) : Way E S a c := by
  induction h with
  | nil a _ => exact h'
  | cons a b c hs he _ ih => exact .cons _ _ _ hs he (ih h')
theorem Way.mono {α : Type} {E : α → α → Prop} {S T : α → Prop} {a b : α} (h : Way E S a b) (hst : ∀ v, S v → T v) : Way E T a b := by
  induction h with
  | nil a h => exact .nil _ (hst _ h)
  | cons a b c hs he _ ih => exact .cons _ _ _ (hst _ hs) he ih
theorem Way.first {α : Type} {E : α → α → Prop} {S : α → Prop} {a b : α} (h : Way E S a b) : S a := by cases h <;> assumption
theorem Way.last {α : Type} {E : α → α → Prop} {S : α → Prop} {a b : α} (h : Way E S a b) : S b := by
  induction h with
  | nil a h => exact h
  | cons a b c _ _ _ ih => exact ih
theorem Way.snoc {α : Type} {E : α → α → Prop} {S : α → Prop} {a b c : α} (h : Way E S a b) (he : E b c) (hc : S c) : Way E S a c :=
  h.trans (.cons _ _ _ h.last he (.nil _ hc))
/-- What a walk that goes deep first says of its numbers: an upper one lies on the way by which a lower one was first come to. -/
structure Deep (M : Nat) (E Up : Nat → Nat → Prop) (from' : Nat → Nat) : Prop where
  inside : ∀ a b, E a b → a < M ∧ b < M
  lt : ∀ a b, Up a b → a ≠ b → b < M
  refl : ∀ a, Up a a
  trans : ∀ a b c, Up a b → Up b c → Up a c
  le : ∀ a b, Up a b → a ≤ b
  mid : ∀ a y b, Up a b → a ≤ y → y ≤ b → Up a y
  edge : ∀ a b, E a b → a < b → Up a b
  tree : ∀ b, 0 < b → b < M → E (from' b) b ∧ from' b < b ∧ Up (from' b) b
  over : ∀ a b, Up a b → a ≠ b → Up a (from' b)
  root : ∀ b, b < M → Up 0 b
theorem Deep.way {M : Nat} {E Up : Nat → Nat → Prop} {fr : Nat → Nat} (D : Deep M E Up fr) {a b : Nat} (h : Up a b) : Way E (fun v => Up a v ∧ Up v b) a b := by
  induction b using Nat.strongRecOn with
  | _ b ih =>
    by_cases hab : a = b
    · subst hab
      exact .nil _ ⟨D.refl _, D.refl _⟩
    · have hlt : a < b := by have := D.le _ _ h; omega
      obtain ⟨he, hl, hu⟩ := D.tree b (by omega) (D.lt _ _ h hab)
      refine ((ih _ hl (D.over _ _ h hab)).mono (fun v hv => ⟨hv.1, D.trans _ _ _ hv.2 hu⟩)).snoc he ⟨h, D.refl _⟩
/-- The least block of a way lies above its end. -/
theorem Deep.least {M : Nat} {E Up : Nat → Nat → Prop} {fr : Nat → Nat} (D : Deep M E Up fr) {S : Nat → Prop} {a b : Nat} (h : Way E S a b) : ∃ c, S c ∧ c ≤ a ∧ Up c b := by
  induction h with
  | nil a h => exact ⟨a, h, Nat.le_refl _, D.refl _⟩
  | cons a b c hs he _ ih =>
    obtain ⟨x, h1, h2, h3⟩ := ih
    by_cases hx : x ≤ a
    · exact ⟨x, h1, hx, h3⟩
    · exact ⟨a, hs, Nat.le_refl _, D.trans _ _ _ (D.mid _ _ _ (D.edge _ _ he (by omega)) (by omega) h2) h3⟩
/-- A way leads from s to w over greater ones than w alone. -/
def Semi (E : Nat → Nat → Prop) (s w : Nat) : Prop := E s w ∨ ∃ a b, E s a ∧ Way E (fun v => w < v) a b ∧ E b w
/-- Each way from 0 to b goes through a. -/
def Dom (E : Nat → Nat → Prop) (a b : Nat) : Prop := ¬ Way E (fun v => v ≠ a) 0 b
theorem Dom.self (E : Nat → Nat → Prop) (a : Nat) : Dom E a a := fun h => h.last rfl
theorem Dom.up {M : Nat} {E Up : Nat → Nat → Prop} {fr : Nat → Nat} (D : Deep M E Up fr) {a b : Nat} (hb : b < M) (h : Dom E a b) : Up a b := by
  refine Classical.byContradiction fun hn => h ((D.way (D.root b hb)).mono (fun v hv e => ?_))
  subst e
  exact hn hv.2
theorem Dom.prev {E : Nat → Nat → Prop} {a b c : Nat} (h : Dom E a b) (hab : a ≠ b) (he : E c b) : Dom E a c := fun hw => h (hw.snoc he (Ne.symm hab))
theorem Dom.semi {M : Nat} {E Up : Nat → Nat → Prop} {fr : Nat → Nat} (D : Deep M E Up fr) {x w s : Nat} (h : Dom E x w) (hx : x ≠ w) (hs : Semi E s w) : x ≤ s := by
  have hsM : s < M ∧ w < M := by
    rcases hs with q | ⟨a, b, q1, -, q2⟩
    · exact D.inside _ _ q
    · exact ⟨(D.inside _ _ q1).1, (D.inside _ _ q2).2⟩
  have hxw : x < w := by have := D.le _ _ (h.up D hsM.2); omega
  refine Classical.byContradiction fun hn => h ?_
  have h1 : Way E (fun v => v ≠ x) 0 s := (D.way (D.root s hsM.1)).mono (fun v hv e => by have := D.le _ _ hv.2; omega)
  rcases hs with he | ⟨a, b, h2, h3, h4⟩
  · exact h1.snoc he (Ne.symm hx)
  · exact (h1.trans (.cons _ _ _ h1.last h2 (h3.mono (fun v hv => by omega)))).snoc h4 (Ne.symm hx)
/-- On a way that begins outside T and ends in it: the step into T for the first time, behind the last block that is less than x. -/
theorem Way.enter {E : Nat → Nat → Prop} {S T : Nat → Prop} {x a b : Nat} (h : Way E S a b) (hS : ∀ v, S v → v ≠ x) (hb : T b) :
    (∃ y z, y < x ∧ T z ∧ (E y z ∨ ∃ p q, E y p ∧ Way E (fun v => x < v ∧ ¬ T v) p q ∧ E q z) ∧ Way E S z b) ∨ (∃ z, T z ∧ (a = z ∨ ∃ q, Way E (fun v => x < v ∧ ¬ T v) a q ∧ E q z) ∧ Way E S z b) := by
  induction h with
  | nil a h => exact .inr ⟨a, hb, .inl rfl, .nil _ h⟩
  | cons a c b hs he hw ih =>
    rcases ih hb with h1 | ⟨z, hz, h2, h3⟩
    · exact .inl h1
    · by_cases hax : a < x
      · refine .inl ⟨a, z, hax, hz, ?_, h3⟩
        rcases h2 with rfl | ⟨q, h4, h5⟩
        · exact .inl he
        · exact .inr ⟨c, q, he, h4, h5⟩
      · have hxa : x < a := by have := hS a hs; omega
        by_cases hta : T a
        · exact .inr ⟨a, hta, .inl rfl, .cons _ _ _ hs he hw⟩
        · refine .inr ⟨z, hz, .inr ?_, h3⟩
          rcases h2 with rfl | ⟨q, h4, h5⟩
          · exact ⟨a, .nil _ ⟨hxa, hta⟩, he⟩
          · exact ⟨q, .cons _ _ _ ⟨hxa, hta⟩ he h4, h5⟩
/-- What dominates the block that w was come to from, and lies at or above each block of w's half ways, dominates w. -/
theorem Dom.of_semi {M : Nat} {E Up : Nat → Nat → Prop} {fr : Nat → Nat} (D : Deep M E Up fr) {x w : Nat} (hw : 0 < w) (hwM : w < M) (h : Dom E x (fr w)) (hs : ∀ s, Semi E s w → x ≤ s) : Dom E x w := by
  intro hway
  obtain ⟨he, hl, hu⟩ := D.tree w hw hwM
  have hxf := h.up D (by omega)
  have hxw : x < w := by have := D.le _ _ hxf; omega
  have hxu : Up x w := D.trans _ _ _ hxf hu
  have key : ∀ y z, y < x → (x < z ∧ Up z w) → (E y z ∨ ∃ p q, E y p ∧ Way E (fun v => x < v ∧ ¬ (x < v ∧ Up v w)) p q ∧ E q z) → False := by
    intro y z hy hz hyz
    have hsz : Semi E y z := by
      rcases hyz with q | ⟨p, q, h1, h2, h3⟩
      · exact .inl q
      · refine .inr ⟨p, q, h1, ?_, h3⟩
        -- each block between is greater than z
        have : ∀ {u v}, Way E (fun v => x < v ∧ ¬ (x < v ∧ Up v w)) u v → E v z → Way E (fun v => z < v) u v := by
          intro u v hh hvz
          have big : ∀ {u v}, Way E (fun v => x < v ∧ ¬ (x < v ∧ Up v w)) u v → E v z → z < u := by
            intro u v hh hvz
            refine Classical.byContradiction fun hn => ?_
            have hw2 : Way E (fun v => x < v ∧ (Up v w → v = z)) u z := (hh.mono (fun v hv => ⟨hv.1, fun q => absurd ⟨hv.1, q⟩ hv.2⟩)).snoc hvz ⟨hz.1, fun _ => rfl⟩
            obtain ⟨c, ⟨c1, c2⟩, c3, c4⟩ := D.least hw2
            have hcz := c2 (D.trans _ _ _ c4 hz.2)
            subst hcz
            have huz : u = c := by omega
            subst huz
            exact hh.first.2 hz
          induction hh with
          | nil a h => exact .nil _ (big (.nil _ h) hvz)
          | cons a b c hs' he' hw' ih => exact .cons _ _ _ (big (.cons _ _ _ hs' he' hw') hvz) he' (ih hvz)
        exact this h2 h3
    by_cases hzw : z = w
    · subst hzw
      have := hs y hsz
      omega
    · -- the way over y and z to the block that w was come to from does without x
      refine h ?_
      have hyM : y < M := by
        rcases hyz with q | ⟨p, q, h3, -⟩
        · exact (D.inside _ _ q).1
        · exact (D.inside _ _ h3).1
      have h1 : Way E (fun v => v ≠ x) 0 y := (D.way (D.root y hyM)).mono (fun v hv e => by have := D.le _ _ hv.2; omega)
      have h2 : Way E (fun v => v ≠ x) z (fr w) := (D.way (D.over _ _ hz.2 hzw)).mono (fun v hv e => by have := D.le _ _ hv.1; omega)
      refine Way.trans ?_ h2
      rcases hyz with q | ⟨p, q, h3, h4, h5⟩
      · exact h1.snoc q h2.first
      · exact (h1.trans (.cons _ _ _ h1.last h3 (h4.mono (fun v hv => by have := hv.1; omega)))).snoc h5 h2.first
  rcases hway.enter (T := fun v => x < v ∧ Up v w) (x := x) (fun v hv => hv) ⟨hxw, D.refl _⟩ with ⟨y, z, hy, hz, hyz, -⟩ | ⟨z, hz, h2, -⟩
  · exact key y z hy hz hyz
  · -- the way begins at 0, which is less than x, for x is not 0
    have h0 : (0 : Nat) ≠ x := hway.first
    rcases h2 with e | ⟨q, h3, -⟩
    · have := hz.1; omega
    · have := h3.first.1; omega
/-- THE DOMINATORS OF A BLOCK: itself, and those of the block that it was come to from that lie at or above all its half ways. -/
theorem dom_iff {M : Nat} {E Up : Nat → Nat → Prop} {fr : Nat → Nat} (D : Deep M E Up fr) {x w : Nat} (hw : 0 < w) (hwM : w < M) : (Dom E x w ∧ x ≠ w) ↔ (Dom E x (fr w) ∧ ∀ s, Semi E s w → x ≤ s) := by
  obtain ⟨he, hl, hu⟩ := D.tree w hw hwM
  constructor
  · rintro ⟨h, hx⟩
    exact ⟨h.prev hx he, fun s hs => h.semi D hx hs⟩
  · rintro ⟨h, hs⟩
    refine ⟨h.of_semi D hw hwM hs, ?_⟩
    have := hs _ (.inl he)
    omega
/-- What the program takes the least of gives half ways. -/
theorem Semi.of_over {M : Nat} {E Up : Nat → Nat → Prop} {fr : Nat → Nat} (D : Deep M E Up fr) {c u v w : Nat} (hu : w < u) (huv : Up u v) (he : E v w) (h : Semi E c u) : Semi E c w := by
  have h1 : Way E (fun y => w < y) u v := (D.way huv).mono (fun y hy => by have := D.le _ _ hy.1; omega)
  rcases h with q | ⟨a, b, h2, h3, h4⟩
  · exact .inr ⟨u, v, q, h1, he⟩
  · exact .inr ⟨a, v, h2, ((h3.mono (fun y hy => by omega)).snoc h4 hu).trans h1, he⟩
/-- The block of a way that lies above its end and is come to first: what stands ahead of it on the way is greater. -/
theorem Deep.head {M : Nat} {E Up : Nat → Nat → Prop} {fr : Nat → Nat} (D : Deep M E Up fr) {S : Nat → Prop} {a b : Nat} (h : Way E S a b) : ∃ u, S u ∧ Up u b ∧ (a = u ∨ ∃ q, Way E (fun v => u < v) a q ∧ E q u) := by
  induction h with
  | nil a h => exact ⟨a, h, D.refl _, .inl rfl⟩
  | cons a c b hs he hw ih =>
    obtain ⟨u, h1, h2, h3⟩ := ih
    by_cases hau : a ≤ u
    · -- then a lies above u
      refine ⟨a, hs, ?_, .inl rfl⟩
      have hw2 : Way E (fun v => a ≤ v ∧ (v = a ∨ v = u ∨ u < v)) a u := by
        rcases h3 with rfl | ⟨q, h4, h5⟩
        · exact .cons _ _ _ ⟨Nat.le_refl _, .inl rfl⟩ he (.nil _ ⟨hau, .inr (.inl rfl)⟩)
        · exact .cons _ _ _ ⟨Nat.le_refl _, .inl rfl⟩ he ((h4.mono (fun v hv => ⟨by omega, .inr (.inr hv)⟩)).snoc h5 ⟨hau, .inr (.inl rfl)⟩)
      obtain ⟨x, ⟨x1, -⟩, x2, x3⟩ := D.least hw2
      obtain rfl : x = a := by omega
      exact D.trans _ _ _ x3 h2
    · refine ⟨u, h1, h2, .inr ?_⟩
      rcases h3 with rfl | ⟨q, h4, h5⟩
      · exact ⟨a, .nil _ (by omega), he⟩
      · exact ⟨q, .cons _ _ _ (by omega) he h4, h5⟩
/-- And each half way has one of them at or above its begin. -/
theorem Semi.to_over {M : Nat} {E Up : Nat → Nat → Prop} {fr : Nat → Nat} (D : Deep M E Up fr) {s w : Nat} (h : Semi E s w) : (E s w ∧ s ≤ w) ∨ ∃ c u v, c ≤ s ∧ w < u ∧ Up u v ∧ E v w ∧ Semi E c u := by
  rcases h with he | ⟨a, b, h1, h2, h3⟩
  · by_cases hs : s ≤ w
    · exact .inl ⟨he, hs⟩
    · obtain ⟨e1, e2, -⟩ := D.tree s (by omega) (D.inside _ _ he).1
      exact .inr ⟨fr s, s, s, by omega, by omega, D.refl _, he, .inl e1⟩
  · obtain ⟨u, hu, hub, h4⟩ := D.head h2
    refine .inr ⟨s, u, b, Nat.le_refl _, hu, hub, h3, ?_⟩
    rcases h4 with rfl | ⟨q, h5, h6⟩
    · exact .inl h1
    · exact .inr ⟨a, q, h1, h5, h6⟩
end Go.Proofs.Ytbfpfjkjeekbdaa
namespace Go.Proofs.Ytbfpfjkjeekbdaa
set_option linter.unusedVariables false
set_option linter.unusedSimpArgs false
/-- The blocks that are come to, each with the one from which. -/
def comes (E : List (Int × Int × Bool)) : List (Int × Int) := (E.filter (fun e => !e.2.2)).map (fun e => (e.1, e.2.1))
theorem comes_leave (b f : Int) (E : List (Int × Int × Bool)) : comes ((b, f, true) :: E) = comes E := by simp [comes]
theorem comes_come (b f : Int) (E : List (Int × Int × Bool)) : comes ((b, f, false) :: E) = (b, f) :: comes E := by simp [comes]
/-- a is b, or lies on the way by which b was come to. -/
inductive UpR (M : Nat) (fr : Nat → Nat) (a : Nat) : Nat → Prop
  | refl : UpR M fr a a
  | step (b : Nat) : 0 < b → b < M → UpR M fr a (fr b) → UpR M fr a b
theorem UpR.trans {M : Nat} {fr : Nat → Nat} {a b c : Nat} (h : UpR M fr a b) (h' : UpR M fr b c) : UpR M fr a c := by
  induction h' with
  | refl => exact h
  | step b h0 h1 _ ih => exact .step _ h0 h1 ih
theorem UpR.inv {M : Nat} {fr : Nat → Nat} {a b : Nat} (h : UpR M fr a b) (hab : a ≠ b) : 0 < b ∧ b < M ∧ UpR M fr a (fr b) := by
  cases h with
  | refl => exact absurd rfl hab
  | step _ h0 h1 h2 => exact ⟨h0, h1, h2⟩
/-- A next block has a number, and is lower where that is greater. -/
def Done (M : Nat) (fr : Nat → Nat) (s : List Int) (a : Nat) (c : Int) : Prop := ∃ j, s[j]? = some c ∧ (a < j → UpR M fr a j)
theorem get_snoc {α : Type} {s : List α} {c x : α} {i : Nat} (h : s[i]? = some x) : (s ++ [c])[i]? = some x := by
  rw [List.getElem?_append_left (List.getElem?_eq_some_iff.1 h).1]; exact h
theorem Done.snoc {M : Nat} {fr : Nat → Nat} {s : List Int} {a : Nat} {c d : Int} (h : Done M fr s a c) : Done M fr (s ++ [d]) a c := by
  obtain ⟨j, h1, h2⟩ := h
  exact ⟨j, get_snoc h1, h2⟩
structure Dv (M : Nat) (fr : Nat → Nat) (nx : Int → List Int) (s : List Int) (zs : List (Nat × Int × Int × List Int)) : Prop where
  here : ∀ z ∈ zs, s[z.1]? = some z.2.1
  sub : ∀ z ∈ zs, ∀ c ∈ z.2.2.2, c ∈ nx z.2.1
  on : ∀ z ∈ zs, ∀ c ∈ nx z.2.1, c ∈ z.2.2.2 ∨ Done M fr s z.1 c
  low : ∀ z ∈ zs, ∀ y, z.1 ≤ y → y < s.length → UpR M fr z.1 y
  up : ∀ z ∈ zs, ∀ a, UpR M fr a z.1 → ∃ q ∈ zs, q.1 = a
  dec : zs.Pairwise (fun x y => y.1 < x.1)
  mid : ∀ a x y, UpR M fr a x → x < s.length → a ≤ y → y ≤ x → UpR M fr a y
  off : ∀ a b, s[a]? = some b → (∀ z ∈ zs, z.1 ≠ a) → ∀ c ∈ nx b, Done M fr s a c
  tree : ∀ b x, 0 < b → s[b]? = some x → ∃ p, s[fr b]? = some p ∧ x ∈ nx p ∧ fr b < b
  nd : s.Nodup
theorem lt_of_get {α : Type} {s : List α} {i : Nat} {x : α} (h : s[i]? = some x) : i < s.length := (List.getElem?_eq_some_iff.1 h).1
theorem get_inj {s : List Int} (hn : s.Nodup) {i j : Nat} {x : Int} (h : s[i]? = some x) (h' : s[j]? = some x) : i = j := by
  obtain ⟨h1, h2⟩ := List.getElem?_eq_some_iff.1 h
  obtain ⟨h3, h4⟩ := List.getElem?_eq_some_iff.1 h'
  have hp := List.pairwise_iff_getElem.1 hn
  rcases Nat.lt_trichotomy i j with q | q | q
  · exact absurd (h2.trans h4.symm) (hp i j h1 h3 q)
  · exact q
  · exact absurd (h4.trans h2.symm) (hp j i h3 h1 q)
theorem UpR.le' {M : Nat} {fr : Nat → Nat} {s : List Int} (ht : ∀ b x, 0 < b → s[b]? = some x → fr b < b) {a b : Nat} (h : UpR M fr a b) : b < s.length → a ≤ b := by
  induction h with
  | refl => intro _; exact Nat.le_refl _
  | step b h0 h1 _ ih =>
    intro hb
    have := ht b _ h0 (List.getElem?_eq_getElem hb)
    have := ih (by omega)
    omega
theorem Dv.le {M : Nat} {fr : Nat → Nat} {nx : Int → List Int} {s : List Int} {zs : List (Nat × Int × Int × List Int)} (D : Dv M fr nx s zs) {a b : Nat} (h : UpR M fr a b) (hb : b < s.length) : a ≤ b :=
  h.le' (s := s) (fun b x h0 hx => by obtain ⟨_, _, _, q⟩ := D.tree b x h0 hx; exact q) hb
theorem Dv.leave {M : Nat} {fr : Nat → Nat} {nx : Int → List Int} {s : List Int} {n : Nat} {b f : Int} {zs : List (Nat × Int × Int × List Int)} (D : Dv M fr nx s ((n, b, f, []) :: zs)) : Dv M fr nx s zs := by
  have hm : ∀ z ∈ zs, z ∈ (n, b, f, []) :: zs := fun z hz => List.mem_cons_of_mem _ hz
  have hd := List.pairwise_cons.1 D.dec
  refine ⟨fun z hz => D.here z (hm z hz), fun z hz => D.sub z (hm z hz), fun z hz => D.on z (hm z hz), fun z hz => D.low z (hm z hz), fun z hz a ha => ?_, hd.2, D.mid, fun a x hx hz c hc => ?_, D.tree, D.nd⟩
  · obtain ⟨q, hq, e⟩ := D.up z (hm z hz) a ha
    rcases List.mem_cons.1 hq with rfl | hq
    · have h1 := D.le ha (lt_of_get (D.here z (hm z hz)))
      have h2 := hd.1 z hz
      dsimp only at e h2
      omega
    · exact ⟨q, hq, e⟩
  · by_cases e : n = a
    · subst e
      have h1 := D.here _ List.mem_cons_self
      dsimp only at h1
      rw [hx] at h1
      injection h1 with h1
      subst h1
      rcases D.on _ List.mem_cons_self c hc with q | q
      · cases q
      · exact q
    · refine D.off a x hx (fun z hz' => ?_) c hc
      rcases List.mem_cons.1 hz' with rfl | hz'
      · exact e
      · exact hz z hz'
theorem Dv.skip {M : Nat} {fr : Nat → Nat} {nx : Int → List Int} {s : List Int} {n : Nat} {b f c : Int} {r : List Int} {zs : List (Nat × Int × Int × List Int)} (D : Dv M fr nx s ((n, b, f, c :: r) :: zs)) (hc : s.contains c = true) : Dv M fr nx s ((n, b, f, r) :: zs) := by
  have hd := List.pairwise_cons.1 D.dec
  have hz0 : (n, b, f, c :: r) ∈ (n, b, f, c :: r) :: zs := List.mem_cons_self
  have old : ∀ z ∈ zs, z ∈ (n, b, f, c :: r) :: zs := fun z hz => List.mem_cons_of_mem _ hz
  refine ⟨fun z hz => ?_, fun z hz => ?_, fun z hz => ?_, fun z hz => ?_, fun z hz a ha => ?_, List.pairwise_cons.2 ⟨hd.1, hd.2⟩, D.mid, fun a x hx hz => ?_, D.tree, D.nd⟩
  · rcases List.mem_cons.1 hz with rfl | hz
    · exact D.here (n, b, f, c :: r) hz0
    · exact D.here _ (old z hz)
  · rcases List.mem_cons.1 hz with rfl | hz
    · exact fun y hy => D.sub _ hz0 y (List.mem_cons_of_mem _ hy)
    · exact D.sub _ (old z hz)
  · rcases List.mem_cons.1 hz with rfl | hz
    · intro y hy
      rcases D.on _ hz0 y hy with q | q
      · rcases List.mem_cons.1 q with e0 | q
        · obtain ⟨j, hj, e⟩ := List.getElem_of_mem (List.contains_iff_mem.1 hc)
          exact .inr ⟨j, by rw [List.getElem?_eq_getElem hj, e, e0], fun hlt => D.low (n, b, f, c :: r) hz0 j (by dsimp only at hlt ⊢; omega) hj⟩
        · exact .inl q
      · exact .inr q
    · exact D.on _ (old z hz)
  · rcases List.mem_cons.1 hz with rfl | hz
    · exact D.low (n, b, f, c :: r) hz0
    · exact D.low _ (old z hz)
  · have : ∃ q ∈ (n, b, f, c :: r) :: zs, q.1 = a := by
      rcases List.mem_cons.1 hz with rfl | hz
      · exact D.up (n, b, f, c :: r) hz0 a ha
      · exact D.up _ (old z hz) a ha
    obtain ⟨q, hq, e⟩ := this
    rcases List.mem_cons.1 hq with rfl | hq
    · exact ⟨_, List.mem_cons_self, e⟩
    · exact ⟨q, List.mem_cons_of_mem _ hq, e⟩
  · refine D.off a x hx (fun z hz' => ?_)
    rcases List.mem_cons.1 hz' with rfl | hz'
    · exact hz (n, b, f, r) List.mem_cons_self
    · exact hz z (List.mem_cons_of_mem _ hz')
theorem Dv.come {M : Nat} {fr : Nat → Nat} {nx : Int → List Int} {s : List Int} {n : Nat} {b f c : Int} {r : List Int} {zs : List (Nat × Int × Int × List Int)} (D : Dv M fr nx s ((n, b, f, c :: r) :: zs)) (hc : s.contains c = false) (hM : s.length < M) (hf : fr s.length < s.length ∧ s[fr s.length]? = some b) :
    Dv M fr nx (s ++ [c]) ((s.length, c, b, nx c) :: (n, b, f, r) :: zs) := by
  have hd := List.pairwise_cons.1 D.dec
  have hz0 : (n, b, f, c :: r) ∈ (n, b, f, c :: r) :: zs := List.mem_cons_self
  have old : ∀ z ∈ zs, z ∈ (n, b, f, c :: r) :: zs := fun z hz => List.mem_cons_of_mem _ hz
  have hnb : s[n]? = some b := D.here _ hz0
  have hnl := lt_of_get hnb
  have hfn : fr s.length = n := get_inj D.nd hf.2 hnb
  have hlen : (s ++ [c]).length = s.length + 1 := by simp
  have new : ∀ {a}, UpR M fr a n → UpR M fr a s.length := fun h => .step _ (by omega) hM (by rw [hfn]; exact h)
  have inv : ∀ {a}, UpR M fr a s.length → a = s.length ∨ UpR M fr a n := fun {a} h => by
    by_cases e : a = s.length
    · exact .inl e
    · exact .inr (by have := (h.inv e).2.2; rwa [hfn] at this)
  have hlast : (s ++ [c])[s.length]? = some c := by simp
  have upo : ∀ q ∈ (n, b, f, c :: r) :: zs, ∃ q' ∈ (s.length, c, b, nx c) :: (n, b, f, r) :: zs, q'.1 = q.1 := fun q hq => by
    rcases List.mem_cons.1 hq with rfl | hq
    · exact ⟨(n, b, f, r), by simp, rfl⟩
    · exact ⟨q, by simp [hq], rfl⟩
  have lowo : ∀ z ∈ (n, b, f, c :: r) :: zs, ∀ y, z.1 ≤ y → y < (s ++ [c]).length → UpR M fr z.1 y := fun z hz y h1 h2 => by
    rw [hlen] at h2
    by_cases e : y = s.length
    · subst e
      refine new (D.low z hz n ?_ hnl)
      rcases List.mem_cons.1 hz with rfl | hz
      · exact Nat.le_refl _
      · exact Nat.le_of_lt (hd.1 z hz)
    · exact D.low z hz y h1 (by omega)
  refine ⟨fun z hz => ?_, fun z hz => ?_, fun z hz => ?_, fun z hz => ?_, fun z hz a ha => ?_, ?_, fun a x y hx hxl h1 h2 => ?_, fun a x hx hz y hy => ?_, fun i x h0 hx => ?_, ?_⟩
  · rcases List.mem_cons.1 hz with rfl | hz
    · exact hlast
    rcases List.mem_cons.1 hz with rfl | hz
    · exact get_snoc hnb
    · exact get_snoc (D.here _ (old z hz))
  · rcases List.mem_cons.1 hz with rfl | hz
    · exact fun y hy => hy
    rcases List.mem_cons.1 hz with rfl | hz
    · exact fun y hy => D.sub _ hz0 y (List.mem_cons_of_mem _ hy)
    · exact D.sub _ (old z hz)
  · rcases List.mem_cons.1 hz with rfl | hz
    · exact fun y hy => .inl hy
    rcases List.mem_cons.1 hz with rfl | hz
    · intro y hy
      rcases D.on _ hz0 y hy with q | q
      · rcases List.mem_cons.1 q with rfl | q
        · exact .inr ⟨s.length, hlast, fun _ => new .refl⟩
        · exact .inl q
      · exact .inr q.snoc
    · intro y hy
      rcases D.on _ (old z hz) y hy with q | q
      · exact .inl q
      · exact .inr q.snoc
  · rcases List.mem_cons.1 hz with rfl | hz
    · intro y h1 h2
      rw [hlen] at h2
      dsimp only at h1 ⊢
      obtain rfl : y = s.length := by omega
      exact .refl
    rcases List.mem_cons.1 hz with rfl | hz
    · exact lowo (n, b, f, c :: r) hz0
    · exact lowo _ (old z hz)
  · have go : ∀ q ∈ (n, b, f, c :: r) :: zs, UpR M fr a q.1 → ∃ q' ∈ (s.length, c, b, nx c) :: (n, b, f, r) :: zs, q'.1 = a := fun q hq h => by
      obtain ⟨p, hp, rfl⟩ := D.up q hq a h
      exact upo p hp
    rcases List.mem_cons.1 hz with rfl | hz
    · rcases inv ha with rfl | q
      · exact ⟨_, List.mem_cons_self, rfl⟩
      · exact go _ hz0 q
    rcases List.mem_cons.1 hz with rfl | hz
    · exact go _ hz0 ha
    · exact go _ (old z hz) ha
  · refine List.pairwise_cons.2 ⟨fun z hz => ?_, List.pairwise_cons.2 ⟨hd.1, hd.2⟩⟩
    rcases List.mem_cons.1 hz with rfl | hz
    · exact hnl
    · exact lt_of_get (D.here _ (old z hz))
  · rw [hlen] at hxl
    by_cases e : x = s.length
    · subst e
      by_cases ey : y = s.length
      · subst ey; exact hx
      rcases inv hx with rfl | q
      · omega
      · obtain ⟨p, hp, rfl⟩ := D.up _ hz0 a q
        exact D.low p hp y h1 (by omega)
    · exact D.mid a x y hx (by omega) h1 h2
  · have ha : a ≠ s.length := fun e => hz _ List.mem_cons_self e.symm
    have hal : a < s.length := by have := lt_of_get hx; rw [hlen] at this; omega
    rw [List.getElem?_append_left hal] at hx
    refine (D.off a x hx (fun z hz' => ?_) y hy).snoc
    rcases List.mem_cons.1 hz' with rfl | hz'
    · exact hz (n, b, f, r) (by simp)
    · exact hz z (by simp [hz'])
  · by_cases e : i = s.length
    · subst e
      rw [hlast] at hx
      injection hx with hx
      subst hx
      rw [hfn]
      exact ⟨b, get_snoc hnb, D.sub _ hz0 c List.mem_cons_self, hnl⟩
    · have hil : i < s.length := by have := lt_of_get hx; rw [hlen] at this; omega
      rw [List.getElem?_append_left hil] at hx
      obtain ⟨p, h1, h2, h3⟩ := D.tree i x h0 hx
      exact ⟨p, get_snoc h1, h2, h3⟩
  · rw [List.nodup_append]
    refine ⟨D.nd, by simp, fun x hx y hy => ?_⟩
    obtain rfl := List.mem_singleton.1 hy
    intro e
    subst e
    rw [List.contains_iff_mem.2 hx] at hc
    cases hc
/-- The walk's end: every number is off. -/
theorem Walks.dv {nx : Int → List Int} {k : Nat} {st : List (Int × Int × List Int)} {s : List Int} {E : List (Int × Int × Bool)} (h : Walks nx k st s E) {M : Nat} {fr : Nat → Nat} {arr : List Int} (hM : M = arr.length) :
    ∀ zs, zs.map (·.2) = st → Dv M fr nx s zs → arr = s ++ (comes E).map (·.1) → (∀ j e, (comes E)[j]? = some e → fr (s.length + j) < s.length + j ∧ arr[fr (s.length + j)]? = some e.2) → Dv M fr nx arr [] := by
  induction h with
  | nil s =>
    intro zs hz D ha _
    obtain rfl := List.map_eq_nil_iff.1 hz
    have : arr = s := by rw [ha]; simp [comes]
    rw [this]; exact D
  | leave k b f st s E h ih =>
    intro zs hz D ha hf
    obtain ⟨⟨n, z2⟩, zs', rfl, hz1, hz2⟩ := List.map_eq_cons_iff.1 hz
    dsimp only at hz1
    subst hz1
    rw [comes_leave] at ha hf
    exact ih zs' hz2 D.leave ha hf
  | skip k b f c r st s E hc h ih =>
    intro zs hz D ha hf
    obtain ⟨⟨n, z2⟩, zs', rfl, hz1, hz2⟩ := List.map_eq_cons_iff.1 hz
    dsimp only at hz1
    subst hz1
    exact ih ((n, b, f, r) :: zs') (by simp [hz2]) (D.skip hc) ha hf
  | come k b f c r st s E hc h ih =>
    intro zs hz D ha hf
    obtain ⟨⟨n, z2⟩, zs', rfl, hz1, hz2⟩ := List.map_eq_cons_iff.1 hz
    dsimp only at hz1
    subst hz1
    rw [comes_come] at ha hf
    have h0 := hf 0 (c, b) rfl
    rw [Nat.add_zero] at h0
    have hsM : s.length < M := by rw [hM, ha]; simp
    have h1 : s[fr s.length]? = some b := by
      have := h0.2
      rwa [ha, List.getElem?_append_left h0.1] at this
    refine ih ((s.length, c, b, nx c) :: (n, b, f, r) :: zs') (by simp [hz2]) (D.come hc hsM ⟨h0.1, h1⟩) (by rw [ha]; simp) (fun j e he => ?_)
    have := hf (j + 1) e (by simpa using he)
    have el : (s ++ [c]).length + j = s.length + (j + 1) := by simp; omega
    rw [el]
    exact this
/-- Edges between numbers. -/
def EN (nx : Int → List Int) (arr : List Int) (a b : Nat) : Prop := ∃ x y, arr[a]? = some x ∧ arr[b]? = some y ∧ y ∈ nx x
theorem Dv.deep {M : Nat} {fr : Nat → Nat} {nx : Int → List Int} {arr : List Int} (D : Dv M fr nx arr []) (hM : M = arr.length) : Deep M (EN nx arr) (UpR M fr) fr := by
  have tr : ∀ b, 0 < b → b < M → EN nx arr (fr b) b ∧ fr b < b ∧ UpR M fr (fr b) b := fun b h0 hb => by
    obtain ⟨p, h1, h2, h3⟩ := D.tree b arr[b] h0 (List.getElem?_eq_getElem (by omega))
    exact ⟨⟨p, _, h1, List.getElem?_eq_getElem (by omega), h2⟩, h3, .step _ h0 hb .refl⟩
  have lt : ∀ a b, UpR M fr a b → a ≠ b → b < M := fun a b h e => (h.inv e).2.1
  have le : ∀ a b, UpR M fr a b → a ≤ b := fun a b h => by
    by_cases e : a = b
    · omega
    · exact D.le h (by have := lt a b h e; omega)
  refine ⟨?_, lt, fun a => .refl, fun a b c h h' => h.trans h', le, fun a y b h h1 h2 => ?_, ?_, tr, fun a b h e => (h.inv e).2.2, ?_⟩
  · rintro a b ⟨x, y, h1, h2, -⟩
    rw [hM]
    exact ⟨lt_of_get h1, lt_of_get h2⟩
  · by_cases e : a = b
    · obtain rfl : y = b := by omega
      exact h
    · exact D.mid a b y h (by have := lt a b h e; omega) h1 h2
  · rintro a b ⟨x, y, h1, h2, h3⟩ hab
    obtain ⟨j, hj, hu⟩ := D.off a x h1 (fun z hz => by cases hz) y h3
    obtain rfl := get_inj D.nd hj h2
    exact hu hab
  · intro b
    induction b using Nat.strongRecOn with
    | _ b ih =>
      intro hb
      by_cases e : b = 0
      · subst e; exact .refl
      · obtain ⟨-, h1, -⟩ := tr b (by omega) hb
        exact .step _ (by omega) hb (ih _ h1 (by omega))
/-- A walk from a block: its numbers go deep, and it comes to each next one of a block that it comes to. -/
theorem Walks.deep {nx : Int → List Int} {k : Nat} {b f : Int} {E : List (Int × Int × Bool)} (h : Walks nx k [(b, f, nx b)] [b] E) {fr : Nat → Nat} {arr : List Int} (ha : arr = b :: (comes E).map (·.1)) (hf : ∀ j e, (comes E)[j]? = some e → fr (j + 1) < j + 1 ∧ arr[fr (j + 1)]? = some e.2) :
    Dv arr.length fr nx arr [] ∧ Deep arr.length (EN nx arr) (UpR arr.length fr) fr := by
  have D0 : Dv arr.length fr nx [b] [(0, b, f, nx b)] := by
    refine ⟨fun z hz => ?_, fun z hz => ?_, fun z hz => ?_, fun z hz => ?_, fun z hz a h => ?_, by simp, fun a x y hx hl h1 h2 => ?_, fun a x hx hz => ?_, fun i x h0 hx => ?_, by simp⟩
    · obtain rfl := List.mem_singleton.1 hz; rfl
    · obtain rfl := List.mem_singleton.1 hz; exact fun c hc => hc
    · obtain rfl := List.mem_singleton.1 hz; exact fun c hc => .inl hc
    · obtain rfl := List.mem_singleton.1 hz
      intro y h1 h2
      obtain rfl : y = 0 := by simpa using h2
      exact .refl
    · obtain rfl := List.mem_singleton.1 hz
      dsimp only at h
      by_cases e : a = 0
      · exact ⟨_, List.mem_cons_self, e.symm⟩
      · have := (h.inv e).1; omega
    · obtain rfl : x = 0 := by simpa using hl
      obtain rfl : y = 0 := by omega
      exact hx
    · have : a = 0 := by have := lt_of_get hx; simpa using this
      exact absurd this.symm (hz _ List.mem_cons_self)
    · have := lt_of_get hx
      simp at this
      omega
  have D := h.dv (M := arr.length) (fr := fr) rfl [(0, b, f, nx b)] rfl D0 (by rw [ha]; rfl) (fun j e he => by
    have := hf j e he
    rw [show [b].length + j = j + 1 by simp; omega]
    exact this)
  exact ⟨D, D.deep rfl⟩
end Go.Proofs.Ytbfpfjkjeekbdaa
namespace Go.Proofs.Ytbfpfjkjeekbdaa
set_option linter.unusedVariables false
set_option linter.unusedSimpArgs false
/-- A way that meets a is a way to a, and one on from there. -/
theorem Way.split {E : Nat → Nat → Prop} {S : Nat → Prop} {b c : Nat} (a : Nat) (h : Way E S b c) : Way E (fun v => S v ∧ v ≠ a) b c ∨ (Way E S b a ∧ Way E S a c) := by
  induction h with
  | nil b hb =>
    by_cases e : b = a
    · subst e; exact .inr ⟨.nil _ hb, .nil _ hb⟩
    · exact .inl (.nil _ ⟨hb, e⟩)
  | cons b d c hb he hw ih =>
    by_cases e : b = a
    · subst e; exact .inr ⟨.nil _ hb, .cons _ _ _ hb he hw⟩
    · rcases ih with q | ⟨q1, q2⟩
      · exact .inl (.cons _ _ _ ⟨hb, e⟩ he q)
      · exact .inr ⟨.cons _ _ _ hb he q1, q2⟩
theorem Dom.trans {E : Nat → Nat → Prop} {x a w : Nat} (h : Dom E x a) (h' : Dom E a w) : Dom E x w := by
  intro hw
  rcases hw.split a with q | ⟨q, -⟩
  · exact h' (q.mono fun v hv => hv.2)
  · exact h q
/-- a is the nearest dominator of w. -/
structure Near (E : Nat → Nat → Prop) (a w : Nat) : Prop where
  dom : Dom E a w
  lt : a < w
  all : ∀ x, Dom E x w → x ≠ w → Dom E x a
theorem Near.det {M : Nat} {E Up : Nat → Nat → Prop} {fr : Nat → Nat} (D : Deep M E Up fr) {a b w : Nat} (hw : w < M) (h : Near E a w) (h' : Near E b w) : a = b := by
  have h1 := D.le _ _ ((h.all b h'.dom (by have := h'.lt; omega)).up D (by have := h.lt; omega))
  have h2 := D.le _ _ ((h'.all a h.dom (by have := h.lt; omega)).up D (by have := h'.lt; omega))
  omega
/-- Climbing until no more than l. -/
inductive Climb (ab : Nat → Nat) (l : Nat) : Nat → Nat → Prop
  | stop (a : Nat) : a ≤ l → Climb ab l a a
  | up (a r : Nat) : l < a → Climb ab l (ab a) r → Climb ab l a r
theorem Climb.near {M : Nat} {E Up : Nat → Nat → Prop} {fr : Nat → Nat} (D : Deep M E Up fr) {ab : Nat → Nat} {w l : Nat} (hw : 0 < w) (hwM : w < M) (hl : Semi E l w) (hmin : ∀ s, Semi E s w → l ≤ s) (hab : ∀ v, 0 < v → v < w → Near E (ab v) v) {r : Nat} (h : Climb ab l (fr w) r) : Near E r w := by
  have main : ∀ {a r}, Climb ab l a r → a < w → Dom E a (fr w) → (∀ x, Dom E x (fr w) → x ≤ l → Dom E x a) → Near E r w := by
    intro a r h
    induction h with
    | stop a hal =>
      intro haw hd hx
      have h1 := (dom_iff D hw hwM).2 ⟨hd, fun s hs => Nat.le_trans hal (hmin s hs)⟩
      exact ⟨h1.1, haw, fun x q e => by
        have h2 := (dom_iff D hw hwM).1 ⟨q, e⟩
        exact hx x h2.1 (h2.2 l hl)⟩
    | up a r hla _ ih =>
      intro haw hd hx
      have hn := hab a (by omega) haw
      exact ih (by have := hn.lt; omega) (hn.dom.trans hd) (fun x q e => hn.all x (hx x q e) (by omega))
  exact main h (D.tree w hw hwM).2.1 (Dom.self _ _) (fun x q _ => q)
/-- What dominates a block: itself, and what dominates its nearest dominator. -/
theorem Near.iff {E : Nat → Nat → Prop} {a w x : Nat} (h : Near E a w) : Dom E x w ↔ x = w ∨ Dom E x a := by
  constructor
  · intro q
    by_cases e : x = w
    · exact .inl e
    · exact .inr (h.all x q e)
  · rintro (rfl | q)
    · exact Dom.self _ _
    · exact q.trans h.dom
/-- So dominating is lying above in the tree of nearest dominators. -/
theorem Near.up {M : Nat} {E Up : Nat → Nat → Prop} {fr : Nat → Nat} (D : Deep M E Up fr) {ab : Nat → Nat} (hab : ∀ v, 0 < v → v < M → Near E (ab v) v) (x : Nat) : ∀ b, b < M → (Dom E x b ↔ UpR M ab x b) := by
  intro b
  induction b using Nat.strongRecOn with
  | _ b ih =>
    intro hb
    by_cases h0 : b = 0
    · subst h0
      constructor
      · intro q
        have : x = 0 := Nat.le_zero.1 (D.le _ _ (q.up D hb))
        subst this
        exact .refl
      · intro q
        by_cases e : x = 0
        · subst e; exact Dom.self _ _
        · have := (q.inv e).1; omega
    · have hn := hab b (by omega) hb
      rw [hn.iff, ih _ hn.lt (by have := hn.lt; omega)]
      constructor
      · rintro (rfl | q)
        · exact .refl
        · exact .step _ (by omega) hb q
      · intro q
        by_cases e : x = b
        · exact .inl e
        · exact .inr (q.inv e).2.2
/-- Stretches of numbers, one for each of the first M: within that of the one above, behind its begin; those of two beneath one are apart. -/
structure Stretch (M : Nat) (ab st sz : Nat → Nat) : Prop where
  lt : ∀ c, 0 < c → c < M → ab c < c
  pos : ∀ c, c < M → 0 < sz c
  inn : ∀ c, 0 < c → c < M → st (ab c) < st c ∧ st c + sz c ≤ st (ab c) + sz (ab c)
  apart : ∀ c d, 0 < c → c < d → d < M → ab c = ab d → st c + sz c ≤ st d
theorem UpR.le2 {M : Nat} {ab : Nat → Nat} (hlt : ∀ c, 0 < c → c < M → ab c < c) {a b : Nat} (h : UpR M ab a b) : a ≤ b := by
  induction h with
  | refl => exact Nat.le_refl _
  | step b h0 h1 _ ih => have := hlt b h0 h1; omega
theorem Stretch.sub {M : Nat} {ab st sz : Nat → Nat} (T : Stretch M ab st sz) {a b : Nat} (h : UpR M ab a b) : st a ≤ st b ∧ st b + sz b ≤ st a + sz a := by
  induction h with
  | refl => exact ⟨Nat.le_refl _, Nat.le_refl _⟩
  | step b h0 h1 _ ih => have := T.inn b h0 h1; omega
/-- The one beneath p on the way to a. -/
theorem UpR.child {M : Nat} {ab : Nat → Nat} {p a : Nat} (h : UpR M ab p a) (hp : p ≠ a) : ∃ c, 0 < c ∧ c < M ∧ ab c = p ∧ UpR M ab c a := by
  induction h with
  | refl => exact absurd rfl hp
  | step b h0 h1 h2 ih =>
    by_cases e : p = ab b
    · exact ⟨b, h0, h1, e.symm, .refl⟩
    · obtain ⟨c, c0, c1, c2, c3⟩ := ih e
      exact ⟨c, c0, c1, c2, .step _ h0 h1 c3⟩
theorem Stretch.off {M : Nat} {ab st sz : Nat → Nat} (T : Stretch M ab st sz) : ∀ n a b, a + b ≤ n → a < M → b < M → ¬ UpR M ab a b → ¬ UpR M ab b a → st a + sz a ≤ st b ∨ st b + sz b ≤ st a := by
  have two : ∀ c d, 0 < c → 0 < d → c < M → d < M → c ≠ d → ab c = ab d → st c + sz c ≤ st d ∨ st d + sz d ≤ st c := fun c d c0 d0 c1 d1 ne e => by
    rcases Nat.lt_or_gt_of_ne ne with q | q
    · exact .inl (T.apart c d c0 q d1 e)
    · exact .inr (T.apart d c d0 q c1 e.symm)
  have half : ∀ n, (∀ a b, a + b < n → a < M → b < M → ¬ UpR M ab a b → ¬ UpR M ab b a → st a + sz a ≤ st b ∨ st b + sz b ≤ st a) → ∀ a b, a + b = n → a < b → a < M → b < M → ¬ UpR M ab a b → ¬ UpR M ab b a → st a + sz a ≤ st b ∨ st b + sz b ≤ st a := by
    intro n ih a b hn hlt ha hb h1 h2
    have hb0 : 0 < b := by omega
    have hp := T.lt b hb0 hb
    have hi := T.inn b hb0 hb
    have h3 : ¬ UpR M ab a (ab b) := fun q => h1 (.step _ hb0 hb q)
    by_cases h4 : UpR M ab (ab b) a
    · have hne : ab b ≠ a := fun e => h3 (by rw [e]; exact .refl)
      obtain ⟨c, c0, c1, c2, c3⟩ := h4.child hne
      have hcb : c ≠ b := fun e => h2 (by rw [← e]; exact c3)
      have h5 := T.sub c3
      have h6 := two c b c0 hb0 c1 hb hcb c2
      omega
    · have := ih a (ab b) (by omega) ha (by omega) h3 h4
      omega
  intro n
  induction n using Nat.strongRecOn with
  | _ n ih =>
    intro a b hab ha hb h1 h2
    have hne : a ≠ b := fun e => h1 (by rw [e]; exact .refl)
    have hih : ∀ a' b', a' + b' < a + b → a' < M → b' < M → ¬ UpR M ab a' b' → ¬ UpR M ab b' a' → st a' + sz a' ≤ st b' ∨ st b' + sz b' ≤ st a' := fun a' b' hlt => ih (a' + b') (by omega) a' b' (Nat.le_refl _)
    rcases Nat.lt_or_gt_of_ne hne with q | q
    · exact half (a + b) hih a b rfl q ha hb h1 h2
    · exact (half (a + b) hih b a (by omega) q hb ha h2 h1).symm
/-- LYING ABOVE, BY STRETCHES. -/
theorem Stretch.iff {M : Nat} {ab st sz : Nat → Nat} (T : Stretch M ab st sz) {a b : Nat} (ha : a < M) (hb : b < M) : UpR M ab a b ↔ st a ≤ st b ∧ st b < st a + sz a := by
  have pa := T.pos a ha
  have pb := T.pos b hb
  constructor
  · intro h
    have := T.sub h
    omega
  · intro h
    refine Classical.byContradiction fun hn => ?_
    by_cases h2 : UpR M ab b a
    · -- then b lies strictly above a, and begins ahead of it
      have hne : b ≠ a := fun e => hn (by rw [e]; exact .refl)
      obtain ⟨c, c0, c1, c2, c3⟩ := h2.child hne
      have h3 := T.sub c3
      have h4 := T.inn c c0 c1
      rw [c2] at h4
      omega
    · have := T.off _ a b (Nat.le_refl _) ha hb hn h2
      omega
end Go.Proofs.Ytbfpfjkjeekbdaa
namespace Go.Proofs.Ytbfpfjkjeekbdaa
set_option linter.unusedVariables false
set_option linter.unusedSimpArgs false
/-- An edge from a block to a next one. -/
def EB (nx : Int → List Int) (x y : Int) : Prop := y ∈ nx x
/-- A way over blocks from one with a number is one over numbers. -/
theorem Dv.number {M : Nat} {fr : Nat → Nat} {nx : Int → List Int} {arr : List Int} (D : Dv M fr nx arr []) {S : Int → Prop} {x y : Int} (h : Way (EB nx) S x y) : ∀ i, arr[i]? = some x → ∃ j, arr[j]? = some y ∧ Way (EN nx arr) (fun v => ∃ z, arr[v]? = some z ∧ S z) i j := by
  induction h with
  | nil x hx => exact fun i hi => ⟨i, hi, .nil _ ⟨x, hi, hx⟩⟩
  | cons x z y hx he _ ih =>
    intro i hi
    obtain ⟨k, hk, -⟩ := D.off i x hi (fun q hq => by cases hq) z he
    obtain ⟨j, hj, hw⟩ := ih k hk
    exact ⟨j, hj, .cons _ _ _ ⟨x, hi, hx⟩ ⟨x, z, hi, hk, he⟩ hw⟩
/-- And back. -/
theorem EN.blocks {nx : Int → List Int} {arr : List Int} {T : Nat → Prop} {i j : Nat} (h : Way (EN nx arr) T i j) : ∀ x y, arr[i]? = some x → arr[j]? = some y → Way (EB nx) (fun z => ∃ v, arr[v]? = some z ∧ T v) x y := by
  induction h with
  | nil i hi =>
    intro x y h1 h2
    rw [h1] at h2
    cases h2
    exact .nil _ ⟨i, h1, hi⟩
  | cons i k j hi he _ ih =>
    intro x y h1 h2
    obtain ⟨x', z, e1, e2, e3⟩ := he
    rw [h1] at e1
    cases e1
    exact .cons _ _ _ ⟨i, h1, hi⟩ e3 (ih z y e2 h2)
/-- A block lies on each way from the root to another, and there is such a way. -/
def DomB (nx : Int → List Int) (root a b : Int) : Prop := Way (EB nx) (fun _ => True) root b ∧ ¬ Way (EB nx) (fun z => z ≠ a) root b
/-- What can be come to has a number. -/
theorem Dv.reach {M : Nat} {fr : Nat → Nat} {nx : Int → List Int} {arr : List Int} {root : Int} (D : Dv M fr nx arr []) (hM : M = arr.length) (h0 : arr[0]? = some root) (y : Int) : Way (EB nx) (fun _ => True) root y ↔ y ∈ arr := by
  constructor
  · intro h
    obtain ⟨j, hj, -⟩ := D.number h 0 h0
    exact List.mem_of_getElem? hj
  · intro h
    obtain ⟨j, hj⟩ := List.getElem?_of_mem h
    have G := D.deep hM
    exact ((G.way (G.root j (by rw [hM]; exact lt_of_get hj))).mono (fun _ _ => trivial) |> fun w => (EN.blocks (T := fun _ => True) w root y h0 hj).mono (fun _ _ => trivial))
/-- Dominating, by numbers. -/
theorem Dv.dom {M : Nat} {fr : Nat → Nat} {nx : Int → List Int} {arr : List Int} {root : Int} (D : Dv M fr nx arr []) (hM : M = arr.length) (h0 : arr[0]? = some root) (x y : Int) : DomB nx root x y ↔ ∃ a b, arr[a]? = some x ∧ arr[b]? = some y ∧ Dom (EN nx arr) a b := by
  constructor
  · rintro ⟨h1, h2⟩
    obtain ⟨b, hb⟩ := List.getElem?_of_mem ((D.reach hM h0 y).1 h1)
    by_cases hx : x ∈ arr
    · obtain ⟨a, ha⟩ := List.getElem?_of_mem hx
      refine ⟨a, b, ha, hb, fun hw => h2 ((EN.blocks hw root y h0 hb).mono ?_)⟩
      rintro z ⟨v, hv, hne⟩ rfl
      exact hne (get_inj D.nd hv ha)
    · -- a block without a number lies on no way
      exfalso
      have G := D.deep hM
      have hw := G.way (G.root b (by rw [hM]; exact lt_of_get hb))
      refine h2 ((EN.blocks hw root y h0 hb).mono ?_)
      rintro z ⟨v, hv, -⟩ rfl
      exact hx (List.mem_of_getElem? hv)
  · rintro ⟨a, b, ha, hb, hd⟩
    refine ⟨(D.reach hM h0 y).2 (List.mem_of_getElem? hb), fun hw => hd ?_⟩
    obtain ⟨j, hj, hw2⟩ := D.number hw 0 h0
    obtain rfl := get_inj D.nd hj hb
    refine hw2.mono ?_
    rintro v ⟨z, hz, hne⟩ rfl
    rw [ha] at hz
    cases hz
    exact hne rfl
end Go.Proofs.Ytbfpfjkjeekbdaa
namespace Go.Proofs.Ytbfpfjkjeekbdaa
set_option linter.unusedVariables false
set_option linter.unusedSimpArgs false
/-- l is the least from which a half way leads to w. -/
def Least (E : Nat → Nat → Prop) (l w : Nat) : Prop := Semi E l w ∧ ∀ s, Semi E s w → l ≤ s
/-- m is the least of ls over what lies above v, or is v, from first on. -/
def LowOf (M : Nat) (fr ls : Nat → Nat) (first v m : Nat) : Prop := (∃ u, UpR M fr u v ∧ first ≤ u ∧ m = ls u) ∧ ∀ u, UpR M fr u v → first ≤ u → m ≤ ls u
/-- What the program keeps: a number's cut-short way up, and the least over what it passes by. -/
structure Asc (M : Nat) (fr ls up low : Nat → Nat) (first : Nat) : Prop where
  anew : ∀ v, v < first → v < M → low v = v ∧ up v = fr v
  over : ∀ v, first ≤ v → v < M → UpR M fr (up v) v ∧ up v < v
  isDone : ∀ v u, first ≤ v → v < M → UpR M fr u v → up v < u → first ≤ u
  has : ∀ v, first ≤ v → v < M → ∃ u, UpR M fr u v ∧ up v < u ∧ low v = ls u
  least : ∀ v u, first ≤ v → v < M → UpR M fr u v → up v < u → low v ≤ ls u
/-- Two above one: one of them is above the other. -/
theorem UpR.chain {M : Nat} {fr : Nat → Nat} {a b v : Nat} (h : UpR M fr a v) (h' : UpR M fr b v) : UpR M fr a b ∨ UpR M fr b a := by
  induction h with
  | refl => exact .inr h'
  | step v h0 h1 h2 ih =>
    by_cases e : b = v
    · subst e; exact .inl (.step _ h0 h1 h2)
    · exact ih (h'.inv e).2.2
theorem Asc.start (M : Nat) (fr ls : Nat → Nat) : Asc M fr ls fr (fun v => v) M :=
  ⟨fun v _ _ => ⟨rfl, rfl⟩, fun v h1 h2 => by omega, fun v u h1 h2 => by omega, fun v h1 h2 => by omega, fun v u h1 h2 => by omega⟩
/-- One more is done. -/
theorem Asc.next {M : Nat} {fr ls up low : Nat → Nat} {n : Nat} (A : Asc M fr ls up low (n + 1)) (hfr : ∀ b, 0 < b → b < M → fr b < b) (h0 : 0 < n) (hn : n < M) : Asc M fr ls up (fun v => if v = n then ls n else low v) n := by
  have hup := (A.anew n (by omega) hn).2
  have own : ∀ u, UpR M fr u n → up n < u → u = n := fun u h1 h2 => by
    refine Classical.byContradiction fun e => ?_
    have := (h1.inv e).2.2.le2 hfr
    omega
  refine ⟨fun v h1 h2 => ?_, fun v h1 h2 => ?_, fun v u h1 h2 h3 h4 => ?_, fun v h1 h2 => ?_, fun v u h1 h2 h3 h4 => ?_⟩
  · have := A.anew v (by omega) h2
    simp only [if_neg (show v ≠ n by omega)]
    exact this
  · by_cases e : v = n
    · subst e
      rw [hup]
      exact ⟨.step _ h0 hn .refl, hfr _ h0 hn⟩
    · exact A.over v (by omega) h2
  · by_cases e : v = n
    · subst e
      have := own u h3 h4
      omega
    · have := A.isDone v u (by omega) h2 h3 h4
      omega
  · by_cases e : v = n
    · subst e
      exact ⟨v, .refl, by rw [hup]; exact hfr _ h0 hn, by simp⟩
    · simp only [if_neg e]
      exact A.has v (by omega) h2
  · by_cases e : v = n
    · subst e
      obtain rfl := own u h3 h4
      simp
    · simp only [if_neg e]
      exact A.least v u (by omega) h2 h3 h4
/-- A way is cut short by one. -/
theorem Asc.cut {M : Nat} {fr ls up low : Nat → Nat} {first : Nat} (A : Asc M fr ls up low first) (hfr : ∀ b, 0 < b → b < M → fr b < b) {n : Nat} (hn : first ≤ n) (hM : n < M) (ho : first ≤ up n) :
    Asc M fr ls (fun v => if v = n then up (up n) else up v) (fun v => if v = n then min (low n) (low (up n)) else low v) first := by
  have a1 := A.over n hn hM
  have hoM : up n < M := by omega
  have a2 := A.over (up n) ho hoM
  -- what lies above n, behind up (up n): above n behind up n, or above up n
  have cs : ∀ u, UpR M fr u n → up (up n) < u → up n < u ∨ UpR M fr u (up n) := fun u h1 h2 => by
    rcases h1.chain a1.1 with q | q
    · exact .inr q
    · by_cases e : u = up n
      · exact .inr (by rw [e]; exact .refl)
      · have := q.le2 hfr
        exact .inl (by omega)
  refine ⟨fun v h1 h2 => ?_, fun v h1 h2 => ?_, fun v u h1 h2 h3 h4 => ?_, fun v h1 h2 => ?_, fun v u h1 h2 h3 h4 => ?_⟩
  · simp only [if_neg (show v ≠ n by omega)]
    exact A.anew v h1 h2
  · by_cases e : v = n
    · subst e
      simp only [if_true]
      exact ⟨a2.1.trans a1.1, by omega⟩
    · simp only [if_neg e]
      exact A.over v h1 h2
  · by_cases e : v = n
    · subst e
      simp only [if_true] at h4
      rcases cs u h3 h4 with q | q
      · exact A.isDone v u h1 h2 h3 q
      · exact A.isDone _ u ho hoM q h4
    · simp only [if_neg e] at h4
      exact A.isDone v u h1 h2 h3 h4
  · by_cases e : v = n
    · subst e
      simp only [if_true]
      obtain ⟨u1, p1, p2, p3⟩ := A.has v h1 h2
      obtain ⟨u2, q1, q2, q3⟩ := A.has _ ho hoM
      rcases Nat.le_total (low v) (low (up v)) with hle | hle
      · exact ⟨u1, p1, by omega, by rw [Nat.min_eq_left hle]; exact p3⟩
      · exact ⟨u2, q1.trans a1.1, q2, by rw [Nat.min_eq_right hle]; exact q3⟩
    · simp only [if_neg e]
      exact A.has v h1 h2
  · by_cases e : v = n
    · subst e
      simp only [if_true] at h4 ⊢
      rcases cs u h3 h4 with q | q
      · exact Nat.le_trans (Nat.min_le_left _ _) (A.least v u h1 h2 h3 q)
      · exact Nat.le_trans (Nat.min_le_right _ _) (A.least _ u ho hoM q h4)
    · simp only [if_neg e] at h4 ⊢
      exact A.least v u h1 h2 h3 h4
/-- Where the way up leads ahead of first, what is kept is the least from first on. -/
theorem Asc.lowOf {M : Nat} {fr ls up low : Nat → Nat} {first : Nat} (A : Asc M fr ls up low first) {v : Nat} (hv : first ≤ v) (hM : v < M) (hup : up v < first) : LowOf M fr ls first v (low v) := by
  obtain ⟨u, h1, h2, h3⟩ := A.has v hv hM
  exact ⟨⟨u, h1, A.isDone v u hv hM h1 h2, h3⟩, fun u' q1 q2 => A.least v u' hv hM q1 (by omega)⟩
/-- WHAT THE PROGRAM TAKES OVER ALL BLOCKS AHEAD is the least half way. -/
theorem Least.of {M : Nat} {E : Nat → Nat → Prop} {fr ls : Nat → Nat} (D : Deep M E (UpR M fr) fr) {w l : Nat} (h0 : 0 < w) (hw : w < M) (hls : ∀ u, w < u → u < M → Least E (ls u) u)
    (low : Nat → Nat) (hlow : ∀ v, E v w → (v ≤ w ∧ low v = v) ∨ (w < v ∧ LowOf M fr ls (w + 1) v (low v)))
    (h1 : l = w ∨ ∃ v, E v w ∧ l = low v) (h2 : ∀ v, E v w → l ≤ low v) : Least E l w := by
  obtain ⟨t1, t2, -⟩ := D.tree w h0 hw
  have hlw : l < w := by
    have := h2 _ t1
    rcases hlow _ t1 with ⟨-, q⟩ | ⟨q, -⟩ <;> omega
  have big : ∀ u, UpR M fr u u → w < u → (∃ v, UpR M fr u v ∧ E v w) → u < M := fun u _ hu ⟨v, hv, he⟩ => by
    have := D.le _ _ hv
    have := (D.inside _ _ he).1
    omega
  constructor
  · rcases h1 with q | ⟨v, he, q⟩
    · omega
    · rcases hlow v he with ⟨-, q2⟩ | ⟨q1, ⟨u, u1, u2, u3⟩, -⟩
      · rw [q, q2]; exact .inl he
      · rw [q, u3]
        exact Semi.of_over D (by omega) u1 he (hls u (by omega) (big u .refl (by omega) ⟨v, u1, he⟩)).1
  · intro s hs
    rcases hs.to_over D with ⟨he, hsw⟩ | ⟨c, u, v, hc, hu, huv, he, hsc⟩
    · have := h2 s he
      rcases hlow s he with ⟨-, q⟩ | ⟨q, -⟩ <;> omega
    · have hvw : w < v := by have := D.le _ _ huv; omega
      have a1 := h2 v he
      rcases hlow v he with ⟨q, -⟩ | ⟨-, -, q⟩
      · omega
      · have a2 := q u huv (by omega)
        have a3 := (hls u hu (big u .refl hu ⟨v, huv, he⟩)).2 c hsc
        omega
end Go.Proofs.Ytbfpfjkjeekbdaa
namespace Go.Proofs.Ytbfpfjkjeekbdaa
set_option linter.unusedVariables false
set_option linter.unusedSimpArgs false
/-- One number turned. -/
def setN (z : Nat → Nat) (j y : Nat) : Nat → Nat := fun v => if v = j then y else z v
theorem setN_same (z : Nat → Nat) (j y : Nat) : setN z j y j = y := if_pos rfl
theorem setN_other (z : Nat → Nat) {j v : Nat} (y : Nat) (h : v ≠ j) : setN z j y v = z v := if_neg h
/-- What lies beneath v, of the k numbers from lo on. -/
def ks (ab z : Nat → Nat) (lo v : Nat) : Nat → Nat
  | 0 => 0
  | k + 1 => ks ab z lo v k + (if ab (lo + k) = v then z (lo + k) else 0)
theorem ks_first (ab z : Nat → Nat) (lo v k : Nat) : ks ab z lo v (k + 1) = (if ab lo = v then z lo else 0) + ks ab z (lo + 1) v k := by
  induction k with
  | zero => simp [ks]
  | succ k ih =>
    rw [ks, ih]
    rw [ks, show lo + 1 + k = lo + (k + 1) by omega]
    omega
theorem ks_congr {ab z z' : Nat → Nat} {lo v k : Nat} (h : ∀ c, lo ≤ c → c < lo + k → z c = z' c) : ks ab z lo v k = ks ab z' lo v k := by
  induction k with
  | zero => rfl
  | succ k ih => rw [ks, ks, ih (fun c h1 h2 => h c h1 (by omega)), h (lo + k) (by omega) (by omega)]
theorem ks_mono (ab z : Nat → Nat) (lo v : Nat) {k k' : Nat} (h : k ≤ k') : ks ab z lo v k ≤ ks ab z lo v k' := by
  induction k' with
  | zero => have : k = 0 := by omega
            subst this; exact Nat.le_refl _
  | succ k' ih =>
    by_cases e : k = k' + 1
    · subst e; exact Nat.le_refl _
    · have := ih (by omega); rw [ks]; omega
theorem ks_zero {ab z : Nat → Nat} {lo v k : Nat} (h : ∀ c, lo ≤ c → c < lo + k → ab c ≠ v) : ks ab z lo v k = 0 := by
  induction k with
  | zero => rfl
  | succ k ih => rw [ks, ih (fun c h1 h2 => h c h1 (by omega)), if_neg (h _ (by omega) (by omega))]
def sumTo (z : Nat → Nat) : Nat → Nat
  | 0 => 0
  | n + 1 => sumTo z n + z n
theorem sumTo_set (z : Nat → Nat) (j y : Nat) : ∀ n, sumTo (setN z j y) n + (if j < n then z j else 0) = sumTo z n + (if j < n then y else 0)
  | 0 => by simp [sumTo]
  | n + 1 => by
    have ih := sumTo_set z j y n
    rw [sumTo, sumTo]
    by_cases e : n = j
    · subst e
      rw [setN_same]
      simp at ih ⊢
      omega
    · rw [setN_other _ _ e]
      by_cases h : j < n
      · rw [if_pos h, if_pos h] at ih
        rw [if_pos (by omega), if_pos (by omega)]
        omega
      · rw [if_neg h, if_neg h] at ih
        rw [if_neg (by omega), if_neg (by omega)]
        omega
theorem sumTo_ge (z : Nat → Nat) : ∀ n v, v < n → z v ≤ sumTo z n
  | 0, v, h => by omega
  | n + 1, v, h => by
    rw [sumTo]
    by_cases e : v = n
    · subst e; omega
    · have := sumTo_ge z n v (by omega); omega
theorem sumTo_two (z : Nat → Nat) : ∀ n v u, v < n → u < v → z v + z u ≤ sumTo z n
  | 0, v, u, h, _ => by omega
  | n + 1, v, u, h, hu => by
    rw [sumTo]
    by_cases e : v = n
    · subst e
      have := sumTo_ge z v u hu
      omega
    · have := sumTo_two z n v u (by omega) hu; omega
/-- The sizes, where the numbers above n are done. -/
structure Szs (M : Nat) (ab z : Nat → Nat) (n : Nat) : Prop where
  sz : ∀ v, v < M → z v = 1 + ks ab z (n + 1) v (M - 1 - n)
  sum : sumTo z (n + 1) = M
  le : ∀ v, v < M → z v ≤ M
theorem sumTo_one : ∀ n, sumTo (fun _ => 1) n = n
  | 0 => rfl
  | n + 1 => by rw [sumTo, sumTo_one n]
theorem Szs.start {M : Nat} (ab : Nat → Nat) (hM : 0 < M) : Szs M ab (fun _ => 1) (M - 1) :=
  ⟨fun v hv => by rw [show M - 1 - (M - 1) = 0 by omega]; rfl, by rw [sumTo_one]; omega, fun v hv => by omega⟩
theorem Szs.step {M : Nat} {ab z : Nat → Nat} {n : Nat} (h : Szs M ab z n) (h0 : 0 < n) (hn : n < M) (hab : ∀ c, 0 < c → c < M → ab c < c) :
    z (ab n) + z n ≤ M ∧ Szs M ab (setN z (ab n) (z (ab n) + z n)) (n - 1) := by
  have hlt := hab n h0 hn
  have hle : z (ab n) + z n ≤ M := by
    have := sumTo_two z (n + 1) n (ab n) (by omega) hlt
    rw [h.sum] at this
    omega
  refine ⟨hle, fun v hv => ?_, ?_, fun v hv => ?_⟩
  · rw [show n - 1 + 1 = n by omega, show M - 1 - (n - 1) = (M - 1 - n) + 1 by omega, ks_first]
    have hs := h.sz v hv
    have e1 : ks ab (setN z (ab n) (z (ab n) + z n)) (n + 1) v (M - 1 - n) = ks ab z (n + 1) v (M - 1 - n) := ks_congr (fun c h1 h2 => setN_other _ _ (by omega))
    rw [e1, setN_other _ _ (show n ≠ ab n by omega)]
    by_cases e : v = ab n
    · subst e
      rw [setN_same, if_pos rfl]
      omega
    · rw [setN_other _ _ e, if_neg (fun q => e q.symm)]
      omega
  · rw [show n - 1 + 1 = n by omega]
    have h1 := sumTo_set z (ab n) (z (ab n) + z n) n
    rw [if_pos hlt, if_pos hlt] at h1
    have h2 := h.sum
    rw [sumTo] at h2
    omega
  · by_cases e : v = ab n
    · subst e; rw [setN_same]; exact hle
    · rw [setN_other _ _ e]; exact h.le v hv
/-- The starts, where the numbers below n are done. -/
structure Sts (M : Nat) (ab sz st fr : Nat → Nat) (n : Nat) : Prop where
  frq : ∀ v, v < n → fr v = st v + 1 + ks ab sz 1 v (n - 1)
  stq : ∀ c, 0 < c → c < n → st c = st (ab c) + 1 + ks ab sz 1 (ab c) (c - 1)
  top : ∀ v, v < n → st v + sz v ≤ M
theorem Sts.start {M : Nat} {ab sz : Nat → Nat} (h : sz 0 ≤ M) : Sts M ab sz (fun _ => 0) (fun _ => 1) 1 :=
  ⟨fun v hv => by simp [ks], fun c h1 h2 => by omega, fun v hv => by obtain rfl : v = 0 := by omega
                                                                     simpa using h⟩
theorem ks_part {M : Nat} {ab sz : Nat → Nat} (hsz : ∀ v, v < M → sz v = 1 + ks ab sz 1 v (M - 1)) {c v : Nat} (h0 : 0 < c) (hc : c < M) (hv : v < M) (e : ab c = v) : 1 + ks ab sz 1 v (c - 1) + sz c ≤ sz v := by
  rw [hsz v hv]
  have h1 := ks_mono ab sz 1 v (k := c) (k' := M - 1) (by omega)
  have h2 : ks ab sz 1 v c = ks ab sz 1 v (c - 1) + sz c := by
    obtain ⟨k, rfl⟩ : ∃ k, c = k + 1 := ⟨c - 1, by omega⟩
    rw [ks, show 1 + k = k + 1 by omega, if_pos e]
    simp
  omega
theorem Sts.step {M : Nat} {ab sz st fr : Nat → Nat} {n : Nat} (h : Sts M ab sz st fr n) (h0 : 0 < n) (hn : n < M) (hab : ∀ c, 0 < c → c < M → ab c < c) (hsz : ∀ v, v < M → sz v = 1 + ks ab sz 1 v (M - 1)) :
    fr (ab n) + sz n ≤ M ∧ Sts M ab sz (setN st n (fr (ab n))) (setN (setN fr (ab n) (fr (ab n) + sz n)) n (fr (ab n) + 1)) (n + 1) := by
  have hlt := hab n h0 hn
  have hf := h.frq (ab n) hlt
  have ht := h.top (ab n) hlt
  have hp := ks_part hsz h0 hn (by omega) (rfl : ab n = ab n)
  have hnn : n - 1 + 1 = n := by omega
  refine ⟨by omega, fun v hv => ?_, fun c c0 c1 => ?_, fun v hv => ?_⟩
  · rw [show n + 1 - 1 = (n - 1) + 1 by omega, ks, show 1 + (n - 1) = n by omega]
    by_cases e : v = n
    · subst e
      rw [setN_same, setN_same, if_neg (by omega), ks_zero (fun c c0 c1 => by have := hab c (by omega) (by omega); omega)]
    · rw [setN_other _ _ e, setN_other _ _ e]
      have hfv := h.frq v (by omega)
      by_cases e2 : v = ab n
      · subst e2
        rw [setN_same, if_pos rfl]
        omega
      · rw [setN_other _ _ e2, if_neg (fun q => e2 q.symm)]
        omega
  · have hac := hab c c0 (by omega)
    rw [setN_other _ _ (show ab c ≠ n by omega)]
    by_cases e : c = n
    · subst e
      rw [setN_same]
      exact hf
    · rw [setN_other _ _ e]
      exact h.stq c c0 (by omega)
  · by_cases e : v = n
    · subst e
      rw [setN_same]
      omega
    · rw [setN_other _ _ e]
      exact h.top v (by omega)
theorem Sts.stretch {M : Nat} {ab sz st fr : Nat → Nat} (h : Sts M ab sz st fr M) (hab : ∀ c, 0 < c → c < M → ab c < c) (hsz : ∀ v, v < M → sz v = 1 + ks ab sz 1 v (M - 1)) : Stretch M ab st sz := by
  refine ⟨hab, fun c hc => by rw [hsz c hc]; omega, fun c c0 c1 => ?_, fun c d c0 cd d1 e => ?_⟩
  · have h1 := h.stq c c0 c1
    have h2 := ks_part hsz c0 c1 (by have := hab c c0 c1; omega) (rfl : ab c = ab c)
    omega
  · have h1 := h.stq c c0 (by omega)
    have h2 := h.stq d (by omega) d1
    have h3 := ks_mono ab sz 1 (ab c) (k := c) (k' := d - 1) (by omega)
    have h4 : ks ab sz 1 (ab c) c = ks ab sz 1 (ab c) (c - 1) + sz c := by
      obtain ⟨k, rfl⟩ : ∃ k, c = k + 1 := ⟨c - 1, by omega⟩
      rw [ks, show 1 + k = k + 1 by omega, if_pos rfl]
      simp
    rw [← e] at h2
    omega
/-- Climbing comes to an end. -/
theorem climb_end {M : Nat} {ab : Nat → Nat} {l : Nat} (hab : ∀ v, 0 < v → v < M → ab v < v) : ∀ a, a < M → ∃ r, Climb ab l a r := by
  intro a
  induction a using Nat.strongRecOn with
  | _ a ih =>
    intro ha
    by_cases h : a ≤ l
    · exact ⟨a, .stop a h⟩
    · have := hab a (by omega) ha
      obtain ⟨r, hr⟩ := ih _ this (by omega)
      exact ⟨r, .up a r (by omega) hr⟩
theorem Climb.inv_stop {ab : Nat → Nat} {l a r : Nat} (h : Climb ab l a r) (ha : a ≤ l) : r = a := by
  cases h with
  | stop _ _ => rfl
  | up _ _ h1 _ => omega
theorem Climb.inv_up {ab : Nat → Nat} {l a r : Nat} (h : Climb ab l a r) (ha : l < a) : Climb ab l (ab a) r := by
  cases h with
  | stop _ h1 => omega
  | up _ _ _ h2 => exact h2
theorem Climb.congr {ab ab' : Nat → Nat} {l a r : Nat} (h : Climb ab l a r) (hab : ∀ v, 0 < v → v ≤ a → ab v ≤ v ∧ ab' v = ab v) : Climb ab' l a r := by
  induction h with
  | stop a h1 => exact .stop a h1
  | up a r h1 _ ih =>
    have h2 := hab a (by omega) (Nat.le_refl _)
    exact .up a r h1 (by rw [h2.2]; exact ih (fun v v0 v1 => hab v v0 (by omega)))
/-- Only what is done counts. -/
theorem Asc.congr {M : Nat} {fr ls ls' up low : Nat → Nat} {first : Nat} (A : Asc M fr ls up low first) (h : ∀ u, first ≤ u → ls' u = ls u) : Asc M fr ls' up low first :=
  ⟨A.anew, A.over, A.isDone, fun v h1 h2 => by
    obtain ⟨u, q1, q2, q3⟩ := A.has v h1 h2
    exact ⟨u, q1, q2, by rw [h u (A.isDone v u h1 h2 q1 q2)]; exact q3⟩, fun v u h1 h2 h3 h4 => by
    rw [h u (A.isDone v u h1 h2 h3 h4)]
    exact A.least v u h1 h2 h3 h4⟩
/-- What the program is told of a number ahead: itself, or the least on the way up. -/
def Told (M : Nat) (fr ls : Nat → Nat) (w v m : Nat) : Prop := (v ≤ w ∧ m = v) ∨ (w < v ∧ LowOf M fr ls (w + 1) v m)
theorem Told.det {M : Nat} {fr ls : Nat → Nat} {w v m m' : Nat} (h : Told M fr ls w v m) (h' : Told M fr ls w v m') : m = m' := by
  rcases h with ⟨h1, h2⟩ | ⟨h1, ⟨u, u1, u2, u3⟩, h3⟩
  · rcases h' with ⟨q1, q2⟩ | ⟨q1, -⟩
    · omega
    · omega
  · rcases h' with ⟨q1, q2⟩ | ⟨q1, ⟨p, p1, p2, p3⟩, q3⟩
    · omega
    · have := h3 p p1 p2
      have := q3 u u1 u2
      omega
theorem Least.of_told {M : Nat} {E : Nat → Nat → Prop} {fr ls : Nat → Nat} (D : Deep M E (UpR M fr) fr) {w l : Nat} (h0 : 0 < w) (hw : w < M) (hls : ∀ u, w < u → u < M → Least E (ls u) u)
    (h1 : l = w ∨ ∃ v, E v w ∧ Told M fr ls w v l) (h2 : ∀ v, E v w → ∃ m, Told M fr ls w v m ∧ l ≤ m) : Least E l w := by
  classical
  refine Least.of D h0 hw hls (fun v => if h : E v w then Classical.choose (h2 v h) else 0) (fun v hv => ?_) ?_ (fun v hv => ?_)
  · have := (Classical.choose_spec (h2 v hv)).1
    rw [dif_pos hv]
    exact this
  · rcases h1 with q | ⟨v, hv, q⟩
    · exact .inl q
    · refine .inr ⟨v, hv, ?_⟩
      rw [dif_pos hv]
      exact q.det (Classical.choose_spec (h2 v hv)).1
  · rw [dif_pos hv]
    exact (Classical.choose_spec (h2 v hv)).2
/-- What half ways are least from, taken as numbers: a number's own is no greater. -/
theorem Least.zero {E : Nat → Nat → Prop} {l w : Nat} (h : Least E l w) : Semi E l w := h.1
end Go.Proofs.Ytbfpfjkjeekbdaa
namespace Go.Proofs.Ytbfpfjkjeekbdaa
set_option linter.unusedVariables false
set_option linter.unusedSimpArgs false
/-- What is come to is new, comes from what is old, and is a block. -/
theorem Walks.fresh {nx : Int → List Int} {n k : Nat} {st : List (Int × Int × List Int)} {s : List Int} {E : List (Int × Int × Bool)} (hnx : ∀ i : Nat, i < n → ∀ y ∈ nx i, 0 ≤ y ∧ y < n) (h : Walks nx k st s E) :
    s.Nodup → (∀ x ∈ st, x.1 ∈ s) → (∀ x ∈ st, ∀ y ∈ x.2.2, 0 ≤ y ∧ y < n) →
    (s ++ (comes E).map (·.1)).Nodup ∧ (∀ (j : Nat) (e : Int × Int), (comes E)[j]? = some e → e.2 ∈ s ++ ((comes E).take j).map (·.1)) ∧ (∀ e ∈ comes E, 0 ≤ e.1 ∧ e.1 < n) ∧ (comes E).length ≤ unS n s := by
  induction h with
  | nil s => intro h1 _ _; exact ⟨by simpa [comes] using h1, fun j e he => by simp [comes] at he, fun e he => by simp [comes] at he, by simp [comes]⟩
  | leave k b f st s E h ih =>
    intro h1 h2 h3
    rw [comes_leave]
    exact ih h1 (fun x hx => h2 x (by simp [hx])) (fun x hx => h3 x (by simp [hx]))
  | skip k b f c r st s E hc h ih =>
    intro h1 h2 h3
    refine ih h1 (fun x hx => ?_) (fun x hx y hy => ?_)
    · rcases List.mem_cons.1 hx with rfl | hx
      · exact h2 (b, f, c :: r) (by simp)
      · exact h2 x (by simp [hx])
    · rcases List.mem_cons.1 hx with rfl | hx
      · exact h3 (b, f, c :: r) (by simp) y (List.mem_cons_of_mem _ hy)
      · exact h3 x (by simp [hx]) y hy
  | come k b f c r st s E hc h ih =>
    intro h1 h2 h3
    obtain ⟨c0, c1⟩ := h3 (b, f, c :: r) (by simp) c (by simp)
    obtain ⟨t, rfl⟩ : ∃ t : Nat, c = t := ⟨c.toNat, by omega⟩
    have hb : b ∈ s := h2 (b, f, (t : Int) :: r) (by simp)
    have hcs : (t : Int) ∉ s := fun q => by rw [List.contains_iff_mem.2 q] at hc; cases hc
    obtain ⟨i1, i2, i3, i4⟩ := ih (by
        rw [List.nodup_append]
        exact ⟨h1, by simp, fun x hx y hy e => by
          obtain rfl := List.mem_singleton.1 hy
          exact hcs (e ▸ hx)⟩) (fun x hx => by
        rcases List.mem_cons.1 hx with rfl | hx
        · simp
        · rcases List.mem_cons.1 hx with rfl | hx
          · simp [hb]
          · simp [h2 x (by simp [hx])]) (fun x hx y hy => by
        rcases List.mem_cons.1 hx with rfl | hx
        · exact hnx t (by omega) y hy
        · rcases List.mem_cons.1 hx with rfl | hx
          · exact h3 (b, f, (t : Int) :: r) (by simp) y (List.mem_cons_of_mem _ hy)
          · exact h3 x (by simp [hx]) y hy)
    have hu := unS_add n (b := t) (by omega) hc
    rw [comes_come]
    refine ⟨by simpa using i1, fun j e he => ?_, fun e he => ?_, by simp; omega⟩
    · cases j with
      | zero =>
        simp at he
        subst he
        simpa using hb
      | succ j =>
        have := i2 j e (by simpa using he)
        simpa using this
    · rcases List.mem_cons.1 he with rfl | he
      · exact ⟨by omega, by omega⟩
      · exact i3 e he
/-- The number of a block: where it stands on the list; -1 of one that does not. -/
def numL (bs : List Int) (i : Nat) : Int := if (i : Int) ∈ bs then (bs.idxOf (i : Int) : Int) else -1
theorem numL_snoc (bs : List Int) (t : Nat) (ht : (t : Int) ∉ bs) (i : Nat) : numL (bs ++ [(t : Int)]) i = if i = t then (bs.length : Int) else numL bs i := by
  unfold numL
  by_cases e : i = t
  · subst e
    rw [if_pos (by simp), if_pos rfl, List.idxOf_append, if_neg ht]
    simp
  · rw [if_neg e]
    by_cases hm : (i : Int) ∈ bs
    · rw [if_pos (by simp [hm]), if_pos hm, List.idxOf_append, if_pos hm]
    · rw [if_neg (by simp [hm]; omega), if_neg hm]
/-- What a walk from a block comes to, with where from. -/
structure Arr (n root : Nat) (prs : List (Int × Int)) : Prop where
  nd : (prs.map (·.1)).Nodup
  frm : ∀ (j : Nat) (e : Int × Int), prs[j]? = some e → e.2 ∈ (prs.take (j + 1)).map (·.1)
  bd : ∀ e ∈ prs, 0 ≤ e.1 ∧ e.1 < n
  len : prs.length ≤ n
  hd : prs[0]? = some ((root : Int), (root : Int))
  back : ∀ (j : Nat) (e : Int × Int), prs[j + 1]? = some e → e.2 ∈ (prs.take (j + 1)).map (·.1)
theorem Walks.arr {nx : Int → List Int} {n k root : Nat} {E : List (Int × Int × Bool)} (hnx : ∀ i : Nat, i < n → ∀ y ∈ nx i, 0 ≤ y ∧ y < n) (hr : root < n) (h : Walks nx k [((root : Int), (root : Int), nx root)] [(root : Int)] E) : Arr n root (((root : Int), (root : Int)) :: comes E) := by
  obtain ⟨h1, h2, h3, h4⟩ := h.fresh hnx (by simp) (fun x hx => by obtain rfl := List.mem_singleton.1 hx; simp) (fun x hx y hy => by obtain rfl := List.mem_singleton.1 hx; exact hnx root hr y hy)
  have hu := unS_add n (s := []) hr rfl
  have hu2 := unS_nil n []
  rw [List.nil_append] at hu
  refine ⟨by simpa using h1, fun j e he => ?_, fun e he => ?_, by simp; omega, rfl, fun j e he => ?_⟩
  · cases j with
    | zero => simp at he; subst he; simp
    | succ j =>
      have := h2 j e (by simpa using he)
      simp only [List.take_succ_cons, List.map_cons]
      rcases List.mem_append.1 this with q | q
      · simp at q; simp [q]
      · refine List.mem_cons_of_mem _ ?_
        obtain ⟨x, hx, hx2⟩ := List.mem_map.1 q
        exact List.mem_map.2 ⟨x, (List.take_subset_take_left _ (by omega)) hx, hx2⟩
  · rcases List.mem_cons.1 he with rfl | he
    · exact ⟨by omega, by omega⟩
    · exact h3 e he
  · have := h2 j e (by simpa using he)
    simpa using this
theorem comes_take (L : List (Int × Int × Bool)) (k : Nat) (h : k < L.length) : comes (L.take (k + 1)) = if L[k].2.2 = true then comes (L.take k) else comes (L.take k) ++ [(L[k].1, L[k].2.1)] := by
  unfold comes
  rw [List.take_succ_eq_append_getElem h, List.filter_append, List.map_append]
  by_cases q : L[k].2.2 = true
  · rw [if_pos q]; simp [q]
  · rw [if_neg q]; simp [q]
theorem comes_split (L : List (Int × Int × Bool)) (k : Nat) : comes L = comes (L.take k) ++ comes (L.drop k) := by
  unfold comes
  rw [← List.map_append, ← List.filter_append, List.take_append_drop]
/-- What one more coming says, where C is what has been come to and the whole is C, it, and more. -/
theorem Arr.next {n root : Nat} {prs C D : List (Int × Int)} {b f : Int} (h : Arr n root prs) (e : prs = C ++ (b, f) :: D) :
    ∃ t u : Nat, b = t ∧ f = u ∧ t < n ∧ u < n ∧ (t : Int) ∉ C.map (·.1) ∧ C.length < n ∧ numL (C.map (·.1) ++ [(t : Int)]) u = ((prs.map (·.1)).idxOf (u : Int) : Int) := by
  have hmem : (b, f) ∈ prs := by rw [e]; simp
  obtain ⟨b0, b1⟩ := h.bd _ hmem
  obtain ⟨t, rfl⟩ : ∃ t : Nat, b = t := ⟨b.toNat, by dsimp only at b0; omega⟩
  have hget : prs[C.length]? = some ((t : Int), f) := by rw [e]; simp
  have hf := h.frm _ _ hget
  have htk : prs.take (C.length + 1) = C ++ [((t : Int), f)] := by
    have e2 : C ++ ((t : Int), f) :: D = (C ++ [((t : Int), f)]) ++ D := by simp
    rw [e, e2, List.take_left' (by simp)]
  rw [htk] at hf
  obtain ⟨x, hx, hx2⟩ := List.mem_map.1 hf
  have hxp : x ∈ prs := by rw [e]; rcases List.mem_append.1 hx with q | q; simp [q]; rw [List.mem_singleton.1 q]; simp
  obtain ⟨x0, x1⟩ := h.bd x hxp
  dsimp only at hx2
  obtain ⟨u, rfl⟩ : ∃ u : Nat, f = u := ⟨f.toNat, by omega⟩
  have hnd := h.nd
  rw [e, List.map_append, List.map_cons, List.nodup_append] at hnd
  refine ⟨t, u, rfl, rfl, by dsimp only at b1; omega, by omega, fun q => hnd.2.2 _ q _ (by simp) rfl, ?_, ?_⟩
  · have := h.len
    rw [e] at this
    simp at this
    omega
  · have hm : (u : Int) ∈ C.map (·.1) ++ [(t : Int)] := by simpa using hf
    unfold numL
    rw [if_pos hm]
    have e3 : prs.map (·.1) = (C.map (·.1) ++ [(t : Int)]) ++ D.map (·.1) := by rw [e]; simp
    have e4 := List.idxOf_append (l₁ := C.map (·.1) ++ [(t : Int)]) (l₂ := D.map (·.1)) (a := (u : Int))
    rw [if_pos hm] at e4
    rw [e3, e4]
/-- The numbers of the blocks from which it is come. -/
def frN (prs : List (Int × Int)) (i : Nat) : Nat := (prs.map (·.1)).idxOf (prs.getD i (0, 0)).2
theorem Arr.fr {n root : Nat} {prs : List (Int × Int)} (h : Arr n root prs) (j : Nat) (e : Int × Int) (he : prs[j + 1]? = some e) : frN prs (j + 1) < j + 1 ∧ (prs.map (·.1))[frN prs (j + 1)]? = some e.2 := by
  have hm := h.back j e he
  have hj : j + 1 < prs.length := (List.getElem?_eq_some_iff.1 he).1
  have hg : (prs.getD (j + 1) (0, 0)).2 = e.2 := by rw [List.getD_eq_getElem?_getD, he]; rfl
  have ht : prs.map (·.1) = (prs.take (j + 1)).map (·.1) ++ (prs.drop (j + 1)).map (·.1) := by rw [← List.map_append, List.take_append_drop]
  have hi : frN prs (j + 1) = ((prs.take (j + 1)).map (·.1)).idxOf e.2 := by unfold frN; rw [hg, ht, List.idxOf_append, if_pos hm]
  have hlt := List.idxOf_lt_length_of_mem hm
  refine ⟨?_, ?_⟩
  · rw [hi]
    have : ((prs.take (j + 1)).map (·.1)).length ≤ j + 1 := by simp; omega
    omega
  · rw [hi, ht, List.getElem?_append_left hlt, List.getElem?_eq_getElem hlt]
    simp
theorem Arr.fr0 {n root : Nat} {prs : List (Int × Int)} (h : Arr n root prs) : frN prs 0 = 0 := by
  have h0 := h.hd
  cases prs with
  | nil => cases h0
  | cons x r =>
    simp at h0
    subst h0
    simp [frN]
/-- Numbers and blocks go together. -/
theorem Arr.num {n root : Nat} {prs : List (Int × Int)} (h : Arr n root prs) (t : Nat) : (0 ≤ numL (prs.map (·.1)) t ↔ (t : Int) ∈ prs.map (·.1)) ∧ (∀ a : Nat, (prs.map (·.1))[a]? = some (t : Int) → numL (prs.map (·.1)) t = a) ∧ numL (prs.map (·.1)) t < prs.length := by
  unfold numL
  refine ⟨?_, fun a ha => ?_, ?_⟩
  · by_cases e : (t : Int) ∈ prs.map (·.1)
    · rw [if_pos e]
      exact ⟨fun _ => e, fun _ => by omega⟩
    · rw [if_neg e]
      exact ⟨fun q => by omega, fun q => absurd q e⟩
  · have hm := List.mem_of_getElem? ha
    rw [if_pos hm]
    have hlt := List.idxOf_lt_length_of_mem hm
    have := get_inj h.nd (i := (prs.map (·.1)).idxOf (t : Int)) (j := a) (x := (t : Int)) (by rw [List.getElem?_eq_getElem hlt]; simp) ha
    omega
  · by_cases e : (t : Int) ∈ prs.map (·.1)
    · rw [if_pos e]
      have := List.idxOf_lt_length_of_mem e
      simp at this
      omega
    · rw [if_neg e]
      have : 0 < prs.length := by
        rcases Nat.eq_zero_or_pos prs.length with q | q
        · have := h.hd; rw [List.length_eq_zero_iff.1 q] at this; cases this
        · exact q
      omega
end Go.Proofs.Ytbfpfjkjeekbdaa
