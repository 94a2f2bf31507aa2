/- The data of a module, and where it lies in memory; contracts of the laws' helpers that count it. -/
import Derived.Test.YtikecpcgcccmoaaDoorDp2
namespace Go.Proofs.YtikecpcgcccmoaaDoor
open Go.ChangeShapes Go.WideShapes Go.ChangeAt Go.RowKit
set_option linter.unusedVariables false
set_option linter.unusedSimpArgs false
structure GlD where
  name : ByteArray
  link : Int
  fx : Bool
  size : Int
  bytes : List Int
/-- A global as a value. -/
abbrev glV (d : GlD) (vb : Value) : Value := .agg #[.string d.name, .int .i64 d.link, .bool d.fx, .int .i64 d.size, vb]
/-- Five cells: a global; its bytes lie in blocks from lo on. -/
structure GlAt (lo : Nat) (w : World) (b o : Nat) (d : GlD) (vb : Value) : Prop where
  n : d.name.size ≤ 140737488355328
  c0 : At w b o (.string d.name)
  c1 : At w b (o + 1) (.int .i64 d.link)
  c2 : At w b (o + 2) (.bool d.fx)
  c3 : At w b (o + 3) (.int .i64 d.size)
  c4 : At w b (o + 4) vb
  y : Ints lo .u8 w vb d.bytes
theorem GlAt.mono {lo l2 : Nat} {w w' : World} {b o : Nat} {d : GlD} {vb : Value} (h : GlAt lo w b o d vb) (l : l2 ≤ b) (hl : l2 ≤ lo) (hk : Keeps l2 w w') : GlAt l2 w' b o d vb :=
  ⟨h.n, hk _ _ _ l h.c0, hk _ _ _ l h.c1, hk _ _ _ l h.c2, hk _ _ _ l h.c3, hk _ _ _ l h.c4, h.y.mono hl (fun b o v q => hk b o v (Nat.le_trans hl q))⟩
theorem GlAt.keep {lo : Nat} {w w' : World} {b o : Nat} {d : GlD} {vb : Value} (h : GlAt lo w b o d vb) (hb : Below w.heap.size w w') : GlAt lo w' b o d vb :=
  ⟨h.n, at_keep h.c0 hb, at_keep h.c1 hb, at_keep h.c2 hb, at_keep h.c3 hb, at_keep h.c4 hb, h.y.keep hb⟩
/-- Five cells: a function. -/
structure FcAt (lo : Nat) (w : World) (b o : Nat) (d : FnD) (vp vb : Value) : Prop where
  c0 : At w b o (.string d.name)
  c1 : At w b (o + 1) (.int .i64 d.link)
  c2 : At w b (o + 2) vp
  c3 : At w b (o + 3) (.int .i64 d.res)
  c4 : At w b (o + 4) vb
  f : FnAt lo w d vp vb
theorem FcAt.mono {lo l2 : Nat} {w w' : World} {b o : Nat} {d : FnD} {vp vb : Value} (h : FcAt lo w b o d vp vb) (l : l2 ≤ b) (hl : l2 ≤ lo) (hk : Keeps l2 w w') : FcAt l2 w' b o d vp vb :=
  ⟨hk _ _ _ l h.c0, hk _ _ _ l h.c1, hk _ _ _ l h.c2, hk _ _ _ l h.c3, hk _ _ _ l h.c4, h.f.mono hl (fun b o v q => hk b o v (Nat.le_trans hl q))⟩
theorem FcAt.keep {lo : Nat} {w w' : World} {b o : Nat} {d : FnD} {vp vb : Value} (h : FcAt lo w b o d vp vb) (hb : Below w.heap.size w w') : FcAt lo w' b o d vp vb :=
  ⟨at_keep h.c0 hb, at_keep h.c1 hb, at_keep h.c2 hb, at_keep h.c3 hb, at_keep h.c4 hb, h.f.keep hb⟩
structure Gls (lo : Nat) (w : World) (v : Value) (xs : List GlD) : Prop where
  ex : ∃ b o, Sl v xs.length b o ∧ lo ≤ b ∧ ∀ i (h : i < xs.length), ∃ vb, GlAt lo w b (o + i * 5) xs[i] vb
theorem Gls.keep {lo : Nat} {w w' : World} {v : Value} {xs : List GlD} (h : Gls lo w v xs) (hb : Below w.heap.size w w') : Gls lo w' v xs := by
  obtain ⟨b, o, s, l, c⟩ := h.ex
  exact ⟨b, o, s, l, fun i hi => by obtain ⟨vb, q⟩ := c i hi; exact ⟨vb, q.keep hb⟩⟩
theorem Gls.shape {lo : Nat} {w : World} {v : Value} {xs : List GlD} (h : Gls lo w v xs) : ∃ a c, v = .slice a xs.length c := by
  obtain ⟨b, o, ⟨⟨a, c, rfl, _⟩, _⟩, _⟩ := h.ex
  exact ⟨a, c, rfl⟩
structure Fns (lo : Nat) (w : World) (v : Value) (xs : List FnD) : Prop where
  ex : ∃ b o, Sl v xs.length b o ∧ lo ≤ b ∧ ∀ i (h : i < xs.length), ∃ vp vb, FcAt lo w b (o + i * 5) xs[i] vp vb
theorem Fns.keep {lo : Nat} {w w' : World} {v : Value} {xs : List FnD} (h : Fns lo w v xs) (hb : Below w.heap.size w w') : Fns lo w' v xs := by
  obtain ⟨b, o, s, l, c⟩ := h.ex
  exact ⟨b, o, s, l, fun i hi => by obtain ⟨vp, vb, q⟩ := c i hi; exact ⟨vp, vb, q.keep hb⟩⟩
theorem Fns.shape {lo : Nat} {w : World} {v : Value} {xs : List FnD} (h : Fns lo w v xs) : ∃ a c, v = .slice a xs.length c := by
  obtain ⟨b, o, ⟨⟨a, c, rfl, _⟩, _⟩, _⟩ := h.ex
  exact ⟨a, c, rfl⟩
/-- A module, by its two lists. -/
structure MoAt (lo : Nat) (w : World) (gs : List GlD) (fs : List FnD) (vg vf : Value) : Prop where
  g : Gls lo w vg gs
  f : Fns lo w vf fs
theorem MoAt.keep {lo : Nat} {w w' : World} {gs : List GlD} {fs : List FnD} {vg vf : Value} (h : MoAt lo w gs fs vg vf) (hb : Below w.heap.size w w') : MoAt lo w' gs fs vg vf := ⟨h.g.keep hb, h.f.keep hb⟩
def glN (d : GlD) : Int := d.name.size + d.bytes.length
def glsN (xs : List GlD) : Int := (xs.map glN).sum
def fnsN (xs : List FnD) : Int := (xs.map fnN).sum
def moN (gs : List GlD) (fs : List FnD) : Int := (gs.length + glsN gs) + (fs.length + fnsN fs)
theorem glN_nn (d : GlD) : 0 ≤ glN d := by unfold glN; omega
theorem fnN_pos (d : FnD) : 0 ≤ fnN d := by have := blsN_nn d.blocks; unfold fnN; omega
theorem glsN_nn (xs : List GlD) : 0 ≤ glsN xs := by
  unfold glsN
  induction xs with
  | nil => simp
  | cons d r ih => have := glN_nn d; simp only [List.map_cons, List.sum_cons]; omega
theorem glsN_snoc (xs : List GlD) (i : Nat) (h : i < xs.length) : glsN (xs.take (i + 1)) = glsN (xs.take i) + glN xs[i] := by
  unfold glsN
  rw [List.take_succ_eq_append_getElem h, List.map_append, List.sum_append]; simp
theorem glsN_le (xs : List GlD) (i : Nat) : glsN (xs.take i) ≤ glsN xs := by
  have e := congrArg glsN (List.take_append_drop i xs)
  have := glsN_nn (xs.drop i)
  unfold glsN at *
  rw [List.map_append, List.sum_append] at e
  omega
theorem fnsN_nn (xs : List FnD) : 0 ≤ fnsN xs := by
  unfold fnsN
  induction xs with
  | nil => simp
  | cons d r ih => have := fnN_pos d; simp only [List.map_cons, List.sum_cons]; omega
theorem fnsN_snoc (xs : List FnD) (i : Nat) (h : i < xs.length) : fnsN (xs.take (i + 1)) = fnsN (xs.take i) + fnN xs[i] := by
  unfold fnsN
  rw [List.take_succ_eq_append_getElem h, List.map_append, List.sum_append]; simp
theorem fnsN_le (xs : List FnD) (i : Nat) : fnsN (xs.take i) ≤ fnsN xs := by
  have e := congrArg fnsN (List.take_append_drop i xs)
  have := fnsN_nn (xs.drop i)
  unfold fnsN at *
  rw [List.map_append, List.sum_append] at e
  omega
set_option maxHeartbeats 1000000 in
theorem szBytes (v : Value) (n b o : Nat) (l : Int) (w : World) (h : Sl v n b o) (l0 : 0 ≤ l) (l1 : l ≤ 1048576) :
    Calls Tryd.prog 35 #[v, .int .i64 l] w fun e w' => e = .returned (.int .i64 (less l n)) ∧ w' = w := by
  obtain ⟨⟨a, cap, rfl, h1, h2⟩, h3⟩ := h
  have g1 : (n : Int) ≤ 140737488355328 := by omega
  by_cases hl : l < n
  · have e : Kp (less l n = -1) := ⟨by unfold less; rw [if_pos hl]⟩
    have q : l - (n : Int) < 0 := by omega
    clear h2
    go_enter Tryd.func35, Tryd.ntmps35
    go_wp2
    go_ret
    exact ⟨by rw [e.out]; rfl, rfl⟩
  · have e : Kp (less l n = l - n) := ⟨by unfold less; rw [if_neg hl]⟩
    have q : ¬ l - (n : Int) < 0 := by omega
    clear h2
    go_enter Tryd.func35, Tryd.ntmps35
    go_wp2
    go_ret
    exact ⟨by rw [e.out]; rfl, rfl⟩
set_option maxRecDepth 100000 in
set_option maxHeartbeats 2000000 in
theorem szGl (d : GlD) (vb : Value) (l : Int) (w : World) {lo : Nat} (hn : d.name.size ≤ 140737488355328) (h : Ints lo .u8 w vb d.bytes) (l0 : 0 ≤ l) (l1 : l ≤ 1048576) :
    Calls Tryd.prog 21 #[glV d vb, .int .i64 l] w fun e w' => e = .returned (.int .i64 (less l (glN d))) ∧ Below w.heap.size w w' := by
  obtain ⟨b1, o1, s1, -, -⟩ := h.ex
  obtain ⟨name, link, fx, size, bytes⟩ := d
  unfold glN
  dsimp only [glV] at *
  have hn' : (name.size : Int) ≤ 140737488355328 := by omega
  by_cases q0 : l < name.size
  · have e : Kp (less l (name.size + bytes.length) = -1) := ⟨by unfold less; rw [if_pos (by omega)]⟩
    have q : l - (name.size : Int) < 0 := by omega
    obtain ⟨a, c, rfl, -, -⟩ := s1.ex
    clear s1 h
    go_enter Tryd.func21, Tryd.ntmps21
    go_wp2_with fail
    go_ret
    exact ⟨by rw [e.out]; rfl, bel_alloc _ _⟩
  · have q : ¬ l - (name.size : Int) < 0 := by omega
    have e1 : less (l - name.size) bytes.length = less l (name.size + bytes.length) := by unfold less; (repeat' split) <;> omega
    have C1 : Kp (∀ w, Calls Tryd.prog 35 #[vb, .int .i64 (l - name.size)] w fun e w' => e = .returned (.int .i64 (less l (name.size + bytes.length))) ∧ w' = w) := ⟨fun w => by
      have := szBytes vb _ b1 o1 (l - name.size) w s1 (by omega) (by omega)
      rw [e1] at this
      exact this⟩
    have dd := less_bd (a := (name.size : Int) + bytes.length) (by omega) l0
    obtain ⟨a, c, rfl, -, -⟩ := s1.ex
    clear s1 h e1
    generalize less l (name.size + bytes.length) = r at *
    by_cases qr : r < 0
    · obtain rfl : r = -1 := by omega
      go_enter Tryd.func21, Tryd.ntmps21
      go_wp2_with fail
      refine (C1.out _).mono ?_
      rintro e w' ⟨rfl, rfl⟩
      go_wp2_with fail
      go_ret
      exact ⟨rfl, bel_alloc _ _⟩
    · go_enter Tryd.func21, Tryd.ntmps21
      go_wp2_with fail
      refine (C1.out _).mono ?_
      rintro e w' ⟨rfl, rfl⟩
      go_wp2_with fail
      go_ret
      exact ⟨rfl, bel_alloc _ _⟩
set_option maxRecDepth 100000 in
set_option maxHeartbeats 2000000 in
theorem szGls (v : Value) (xs : List GlD) (l : Int) (w : World) {lo : Nat} (h : Gls lo w v xs) (l0 : 0 ≤ l) (l1 : l ≤ 1048576) :
    Calls Tryd.prog 10 #[v, .int .i64 l] w fun e w' => e = .returned (.int .i64 (less l (xs.length + glsN xs))) ∧ Below w.heap.size w w' := by
  obtain ⟨b, o, ⟨⟨a, cap, rfl, h1, h2⟩, h3⟩, -, hc⟩ := h.ex
  have g1 : (xs.length : Int) ≤ 140737488355328 := by omega
  have n0 := glsN_nn xs
  by_cases hl : l < xs.length
  · have e : Kp (less l (xs.length + glsN xs) = -1) := ⟨by unfold less; rw [if_pos (by omega)]⟩
    have q : l - (xs.length : Int) < 0 := by omega
    clear h2 hc
    go_enter Tryd.func10, Tryd.ntmps10
    go_wp2
    go_ret
    exact ⟨by rw [e.out]; rfl, Below.refl _ _⟩
  · have q : ¬ l - (xs.length : Int) < 0 := by omega
    go_enter Tryd.func10, Tryd.ntmps10
    go_wp2_with fail
    go_loopw [1, 5] (fun r s wr => ∃ i : Nat, i ≤ xs.length ∧ s = .int .i64 i ∧ r = .int .i64 (l - xs.length - glsN (xs.take i)) ∧ glsN (xs.take i) ≤ l - xs.length ∧ Below w.heap.size w wr) (fun _ s _ => xs.length - (intOf s).toNat)
    case atStart => exact ⟨0, Nat.zero_le _, rfl, by simp [glsN], by simp [glsN]; omega, Below.refl _ _⟩
    case round =>
      obtain ⟨i, hi, rfl, rfl, hle, hB⟩ := hrel
      by_cases hlt : i < xs.length
      · have ha := h2 (by omega)
        subst ha
        obtain ⟨vb, H⟩ := hc i hlt
        have hv := H.keep hB
        obtain ⟨hnm, c0, c1, c2, c3, c4, hv⟩ := hv
        clear H
        have hs := glsN_snoc xs i hlt
        have nn := glN_nn xs[i]
        have n1 := glsN_nn (xs.take i)
        have htk := glsN_le xs (i + 1)
        have C : Kp (∀ w, Ints lo .u8 w vb xs[i].bytes → ∀ l', 0 ≤ l' → l' ≤ 1048576 → Calls Tryd.prog 21 #[glV xs[i] vb, .int .i64 l'] w fun e w' => e = .returned (.int .i64 (less l' (glN xs[i]))) ∧ Below w.heap.size w w') := ⟨fun w h l' a b => szGl _ vb l' w hnm h a b⟩
        have H2 : Kp (glsN (xs.take (i + 1)) = glsN (xs.take i) + glN xs[i]) := ⟨hs⟩
        by_cases hlt2 : l - xs.length - glsN (xs.take i) < glN xs[i]
        · have e1 : less (l - xs.length - glsN (xs.take i)) (glN xs[i]) = -1 := by unfold less; rw [if_pos hlt2]
          have e : Kp (less l (xs.length + glsN xs) = -1) := ⟨by unfold less; rw [if_pos (by omega)]⟩
          clear hs htk H2 hc
          generalize glsN (xs.take i) = T at *
          generalize xs[i] = D at *
          have C1 : Kp _ := ⟨C.out wr hv (l - xs.length - T) (by omega) (by omega)⟩
          rw [e1] at C1
          clear e1 C
          go_wp2_with fail
          refine C1.out.mono ?_
          rintro e w1 ⟨rfl, hb1⟩
          go_wp2_with fail
          go_ret
          exact ⟨by rw [e.out]; rfl, bel_trans hB hb1⟩
        · have e1 : less (l - xs.length - glsN (xs.take i)) (glN xs[i]) = l - xs.length - glsN (xs.take (i + 1)) := by unfold less; rw [if_neg hlt2]; omega
          have q2 : ¬ l - xs.length - glsN (xs.take (i + 1)) < 0 := by omega
          have q3 : glsN (xs.take (i + 1)) ≤ l - xs.length := by omega
          clear hs htk H2 hc hlt2
          have C1 : Kp _ := ⟨C.out wr hv (l - xs.length - glsN (xs.take i)) (by omega) (by omega)⟩
          rw [e1] at C1
          clear e1 C nn
          generalize hT2 : glsN (xs.take (i + 1)) = T2 at *
          generalize glsN (xs.take i) = T at *
          generalize xs[i] = D at *
          have HT2 : Kp _ := ⟨hT2⟩
          clear hT2
          go_wp2_with fail
          refine C1.out.mono ?_
          rintro e w1 ⟨rfl, hb1⟩
          go_wp2_with fail
          refine ⟨⟨i + 1, by omega, by go_num, ?_, ?_, bel_trans hB hb1⟩, by simp [intOf]; omega⟩
          · rw [HT2.out]
          · rw [HT2.out]; exact q3
      · have e0 : i = xs.length := by omega
        have et : glsN (xs.take i) = glsN xs := by rw [e0, List.take_length]
        have e : Kp (less l (xs.length + glsN xs) = l - xs.length - glsN xs) := ⟨by unfold less; rw [if_neg (by omega)]; omega⟩
        rw [et]
        clear et h2 hc hle n0
        go_wp2_with fail
        go_ret
        exact ⟨by rw [e.out]; rfl, hB⟩
set_option maxRecDepth 100000 in
set_option maxHeartbeats 2000000 in
theorem szFns (v : Value) (xs : List FnD) (l : Int) (w : World) {lo : Nat} (h : Fns lo w v xs) (l0 : 0 ≤ l) (l1 : l ≤ 1048576) :
    Calls Tryd.prog 11 #[v, .int .i64 l] w fun e w' => e = .returned (.int .i64 (less l (xs.length + fnsN xs))) ∧ Below w.heap.size w w' := by
  obtain ⟨b, o, ⟨⟨a, cap, rfl, h1, h2⟩, h3⟩, -, hc⟩ := h.ex
  have g1 : (xs.length : Int) ≤ 140737488355328 := by omega
  have n0 := fnsN_nn xs
  by_cases hl : l < xs.length
  · have e : Kp (less l (xs.length + fnsN xs) = -1) := ⟨by unfold less; rw [if_pos (by omega)]⟩
    have q : l - (xs.length : Int) < 0 := by omega
    clear h2 hc
    go_enter Tryd.func11, Tryd.ntmps11
    go_wp2
    go_ret
    exact ⟨by rw [e.out]; rfl, Below.refl _ _⟩
  · have q : ¬ l - (xs.length : Int) < 0 := by omega
    go_enter Tryd.func11, Tryd.ntmps11
    go_wp2_with fail
    go_loopw [1, 5] (fun r s wr => ∃ i : Nat, i ≤ xs.length ∧ s = .int .i64 i ∧ r = .int .i64 (l - xs.length - fnsN (xs.take i)) ∧ fnsN (xs.take i) ≤ l - xs.length ∧ Below w.heap.size w wr) (fun _ s _ => xs.length - (intOf s).toNat)
    case atStart => exact ⟨0, Nat.zero_le _, rfl, by simp [fnsN], by simp [fnsN]; omega, Below.refl _ _⟩
    case round =>
      obtain ⟨i, hi, rfl, rfl, hle, hB⟩ := hrel
      by_cases hlt : i < xs.length
      · have ha := h2 (by omega)
        subst ha
        obtain ⟨vp, vb, H⟩ := hc i hlt
        have hv := H.keep hB
        obtain ⟨c0, c1, c2, c3, c4, hv⟩ := hv
        clear H
        have hs := fnsN_snoc xs i hlt
        have nn := fnN_pos xs[i]
        have n1 := fnsN_nn (xs.take i)
        have htk := fnsN_le xs (i + 1)
        have C : Kp (∀ w, FnAt lo w xs[i] vp vb → ∀ l', 0 ≤ l' → l' ≤ 1048576 → Calls Tryd.prog 22 #[fnV xs[i] vp vb, .int .i64 l'] w fun e w' => e = .returned (.int .i64 (less l' (fnN xs[i]))) ∧ Below w.heap.size w w') := ⟨fun w h l' a b => szFn _ vp vb l' w h a b⟩
        have H2 : Kp (fnsN (xs.take (i + 1)) = fnsN (xs.take i) + fnN xs[i]) := ⟨hs⟩
        by_cases hlt2 : l - xs.length - fnsN (xs.take i) < fnN xs[i]
        · have e1 : less (l - xs.length - fnsN (xs.take i)) (fnN xs[i]) = -1 := by unfold less; rw [if_pos hlt2]
          have e : Kp (less l (xs.length + fnsN xs) = -1) := ⟨by unfold less; rw [if_pos (by omega)]⟩
          clear hs htk H2 hc
          generalize fnsN (xs.take i) = T at *
          generalize xs[i] = D at *
          have C1 : Kp _ := ⟨C.out wr hv (l - xs.length - T) (by omega) (by omega)⟩
          rw [e1] at C1
          clear e1 C
          go_wp2_with fail
          refine C1.out.mono ?_
          rintro e w1 ⟨rfl, hb1⟩
          go_wp2_with fail
          go_ret
          exact ⟨by rw [e.out]; rfl, bel_trans hB hb1⟩
        · have e1 : less (l - xs.length - fnsN (xs.take i)) (fnN xs[i]) = l - xs.length - fnsN (xs.take (i + 1)) := by unfold less; rw [if_neg hlt2]; omega
          have q2 : ¬ l - xs.length - fnsN (xs.take (i + 1)) < 0 := by omega
          have q3 : fnsN (xs.take (i + 1)) ≤ l - xs.length := by omega
          clear hs htk H2 hc hlt2
          have C1 : Kp _ := ⟨C.out wr hv (l - xs.length - fnsN (xs.take i)) (by omega) (by omega)⟩
          rw [e1] at C1
          clear e1 C nn
          generalize hT2 : fnsN (xs.take (i + 1)) = T2 at *
          generalize fnsN (xs.take i) = T at *
          generalize xs[i] = D at *
          have HT2 : Kp _ := ⟨hT2⟩
          clear hT2
          go_wp2_with fail
          refine C1.out.mono ?_
          rintro e w1 ⟨rfl, hb1⟩
          go_wp2_with fail
          refine ⟨⟨i + 1, by omega, by go_num, ?_, ?_, bel_trans hB hb1⟩, by simp [intOf]; omega⟩
          · rw [HT2.out]
          · rw [HT2.out]; exact q3
      · have e0 : i = xs.length := by omega
        have et : fnsN (xs.take i) = fnsN xs := by rw [e0, List.take_length]
        have e : Kp (less l (xs.length + fnsN xs) = l - xs.length - fnsN xs) := ⟨by unfold less; rw [if_neg (by omega)]; omega⟩
        rw [et]
        clear et h2 hc hle n0
        go_wp2_with fail
        go_ret
        exact ⟨by rw [e.out]; rfl, hB⟩
end Go.Proofs.YtikecpcgcccmoaaDoor
