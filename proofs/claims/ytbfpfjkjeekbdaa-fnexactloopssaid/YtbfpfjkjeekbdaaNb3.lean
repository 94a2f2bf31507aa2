/- Sets of numbers; what a block's last instruction names: the program's helpers. -/
import Derived.Test.YtbfpfjkjeekbdaaNb2
import Derived.Maps.OwnSet
namespace Go.Proofs.Ytbfpfjkjeekbdaa
open Go.ChangeShapes Go.WideShapes Go.ChangeAt Go.RowKit Go.Maps
set_option linter.unusedVariables false
set_option linter.unusedSimpArgs false
set_option maxRecDepth 100000 in
theorem isIx (t n : Int) (w : World) : Calls Try.prog 43 #[.int .i64 t, .int .i64 n] w fun e w' => e = .returned (.bool (decide (0 ≤ t) && decide (t < n))) ∧ w' = w := by
  by_cases h0 : 0 ≤ t
  · by_cases h1 : t < n
    · have e0 : decide (0 ≤ t) = true := by simp [h0]
      have e1 : decide (t < n) = true := by simp [h1]
      rw [e0, e1]
      go_enter Try.func43, Try.ntmps43
      go_wp2_with fail
      go_ret
      exact ⟨rfl, rfl⟩
    · have e0 : decide (0 ≤ t) = true := by simp [h0]
      have e1 : decide (t < n) = false := by simp [h1]
      rw [e0, e1]
      go_enter Try.func43, Try.ntmps43
      go_wp2_with fail
      go_ret
      exact ⟨rfl, rfl⟩
  · have e0 : decide (0 ≤ t) = false := by simp [h0]
    rw [e0, Bool.false_and]
    go_enter Try.func43, Try.ntmps43
    go_wp2_with fail
    go_ret
    exact ⟨rfl, rfl⟩
theorem lawK : Keyed Try.prog 2 := int_keyed Try.underlying2
theorem zeroU (w : World) : (zeroValue 96).run Try.prog w = .ok (.agg #[]) w := by kernel_rfl
/-- A set of whole numbers: a map of at most n entries. -/
structure SetI (w : World) (b n : Nat) (acc : List Int) : Prop where
  ex : ∃ D : DataW Unit, w.ownsMap Try.prog 2 unitElem b n D ∧ ∀ x, Maps.has D (.int .i64 x) = acc.contains x
theorem SetI.kept {w w' : World} {row : Option Nat} {b n : Nat} {acc : List Int} (h : SetI w b n acc) (hg : w.grownBy w' row) (hne : some b ≠ row) : SetI w' b n acc := by
  obtain ⟨D, h1, h2⟩ := h.ex
  exact ⟨D, h1.kept hg hne, h2⟩
theorem SetI.alloc {w : World} {b n : Nat} {acc : List Int} (h : SetI w b n acc) (o : Obj) : SetI (w.alloc o) b n acc := h.kept (World.grownBy_alloc w o none) (by simp)
theorem SetI.keep {w w' : World} {b n : Nat} {acc : List Int} (h : SetI w b n acc) (hb : Below w.heap.size w w') : SetI w' b n acc := by
  obtain ⟨D, h1, h2⟩ := h.ex
  obtain ⟨es, clock, h3, r⟩ := h1
  exact ⟨D, ⟨es, clock, (hb.block b (Array.getElem?_eq_some_iff.1 h3).1).trans h3, r⟩, h2⟩
theorem SetI.made (w : World) : SetI (w.alloc (.map #[] 0)) w.heap.size 0 [] := ⟨_, World.ownsMap_made _ _ _ _, fun x => rfl⟩
/-- What is added. -/
def addL (acc : List Int) (x : Int) : List Int := if acc.contains x = true then acc else acc ++ [x]
theorem addL_at (acc : List Int) (x y : Int) : (addL acc x).contains y = (acc.contains y || y == x) := by
  unfold addL
  split
  · rename_i h
    by_cases e : y = x
    · subst e; rw [h]; simp
    · rw [beq_eq_false_iff_ne.2 e]; simp
  · rw [Bool.eq_iff_iff]; simp
set_option maxRecDepth 100000 in
set_option maxHeartbeats 2000000 in
theorem addI (b n : Nat) (acc : List Int) (x : Int) (w : World) (h : SetI w b n acc) (hn : n < 1099511627776) (hx : (Lit.int .i64 x).wf = true) :
    Calls Try.prog 32 #[.map (some b), .int .i64 x] w fun e w' => e = .returned (.bool (!acc.contains x)) ∧ w.grownBy w' (some b) ∧ SetI w' b (n + 1) (addL acc x) := by
  obtain ⟨D, hown, hhas⟩ := h.ex
  have hkey : keyOf Try.prog 2 (.int .i64 x) = some (.int .i64 x) := keyOf_int_mk Try.underlying2 hx
  have hD := hown.isMap
  have hh := hhas x
  by_cases hc : acc.contains x = true
  · rw [hc] at hh
    have ha : addL acc x = acc := if_pos hc
    rw [ha, hc]
    replace hhas := Kp.mk hhas
    go_enter Try.func32, Try.ntmps32
    go_wp2_with (first
      | (at_lookup; refine wpList_lookup_own_unit _ rfl _ _ 61 rfl 2 96 lawK Try.underlying61 (zeroU _) b n _ rfl hown _ _ rfl hkey ?_; rw [hh])
      | go_in)
    go_ret
    exact ⟨rfl, World.grownBy_alloc _ _ _, ⟨_, (hown.alloc _).mono (Nat.le_succ _), hhas.out⟩⟩
  · have hc2 : acc.contains x = false := by simpa using hc
    rw [hc2] at hh
    have ha : addL acc x = acc ++ [x] := if_neg hc
    rw [ha, hc2]
    replace hhas := Kp.mk hhas
    go_enter Try.func32, Try.ntmps32
    go_wp2_with (first
      | (at_lookup; refine wpList_lookup_own_unit _ rfl _ _ 61 rfl 2 96 lawK Try.underlying61 (zeroU _) b n _ rfl hown _ _ rfl hkey ?_; rw [hh])
      | (at_mapUpdate; refine wpList_mapUpdate_own _ rfl _ _ _ 61 rfl 2 96 lawK Try.underlying61 (unitElem (H := Unit)) b n _ rfl (hown.alloc _) (by unfold maxLen; omega) _ _ _ rfl rfl hkey _ [] unitElem_mk ?_; intro w1 hown1 hgrow1)
      | go_in)
    go_ret
    exact ⟨rfl, (World.grownBy_alloc _ _ _).trans hgrow1, ⟨_, hown1, fun y => by
      rw [List.contains_append, ← hhas.out y]
      by_cases e : y = x
      · subst e
        rw [has_put_same hD (show WideAt.IsKeyLit (.int .i64 y) from trivial)]
        simp
      · rw [has_put_other (fun h => e (by cases h; rfl))]
        simp [e]⟩⟩
set_option maxRecDepth 100000 in
set_option maxHeartbeats 4000000 in
/-- What a block's last instruction names: a slice that lies in the function. -/
theorem namedI (d : FnD) (vp vb : Value) (t : Int) (w0 w : World) {lo : Nat} (h : FnAt lo w0 d vp vb) (hB : Below w0.heap.size w0 w) (hn : fnN d ≤ 1048576) :
    Calls Try.prog 70 #[fnV d vp vb, .int .i64 t] w fun e w' => ∃ v, e = .returned v ∧ Ints lo .i64 w0 v (lastBl d.blocks t) ∧ Below w.heap.size w w' := by
  unfold fnN at hn
  obtain ⟨name, link, params, res, blocks⟩ := d
  obtain ⟨-, hp, hb⟩ := h
  dsimp only [fnV] at *
  have nn := blsN_nn blocks
  have n2 : (blocks.length : Int) ≤ 1048576 := by omega
  obtain ⟨a1, k1, rfl⟩ := hp.shape
  obtain ⟨b, o, ⟨⟨a2, k2, rfl, h1, h2⟩, h3⟩, -, hc⟩ := hb.ex
  have n3 : blsN blocks ≤ 1048576 := by omega
  clear hn nn hp hb
  replace hc := Kp.mk hc
  replace h2 := Kp.mk h2
  have CI : Kp (∀ w, Calls Try.prog 43 #[.int .i64 t, .int .i64 blocks.length] w _) := ⟨fun w => isIx t blocks.length w⟩
  have e0 : ∀ (w : World), Ints lo .i64 w (.slice none 0 0) [] := fun w => ⟨lo, 0, ⟨⟨none, 0, rfl, Nat.le_refl _, fun h => absurd h (by simp)⟩, by simp⟩, Nat.le_refl _, fun i hi => by simp at hi⟩
  replace e0 := Kp.mk e0
  by_cases hin : 0 ≤ t ∧ t < blocks.length
  case neg =>
    have eA : lastBl blocks t = [] := lastBl_out hin
    rw [eA]
    have eb : (decide (0 ≤ t) && decide (t < (blocks.length : Int))) = false := by simp; omega
    rw [eb] at CI
    go_enter Try.func70, Try.ntmps70
    go_wp2_with fail
    refine (CI.out _).mono ?_
    rintro e w1 ⟨rfl, rfl⟩
    go_wp2_with fail
    go_ret
    exact ⟨_, rfl, e0.out _, bel_alloc _ _⟩
  case pos =>
    obtain ⟨T, rfl⟩ : ∃ T : Nat, t = T := ⟨t.toNat, by omega⟩
    have hT : T < blocks.length := by omega
    have eb : (decide (0 ≤ (T : Int)) && decide ((T : Int) < (blocks.length : Int))) = true := by simp; omega
    rw [eb] at CI
    obtain rfl := h2.out (by omega)
    obtain ⟨vi, c0, hv⟩ := hc.out T hT
    replace c0 := at_keep c0 (bel_trans hB <| bel_alloc w (Go.Obj.cells #[.string name, .int .i64 link, .slice a1 params.length k1, .int .i64 res, .slice (some ⟨b, o, none⟩) blocks.length k2] 30))
    obtain ⟨ys, hys⟩ : ∃ ys, Kp (blocks[T] = ys) := ⟨_, ⟨rfl⟩⟩
    rw [hys.out] at hv
    have hL : lastBl blocks T = lastB ys := by rw [lastBl_in hT, hys.out]
    rw [hL]
    obtain ⟨bi, oi, ⟨⟨ai, ki, rfl, i1, i2⟩, i3⟩, -, ic⟩ := hv.ex
    clear hv hL hys
    by_cases y0 : ys.length = 0
    · obtain rfl := List.length_eq_zero_iff.1 y0
      rw [lastB_nil]
      clear ic i2
      go_enter Try.func70, Try.ntmps70
      go_wp2_with fail
      refine (CI.out _).mono ?_
      rintro e w1 ⟨rfl, rfl⟩
      go_wp2_with fail
      go_ret
      exact ⟨_, rfl, e0.out _, bel_alloc _ _⟩
    · have y1 : 0 < ys.length := by omega
      have hl2 := lastB_at ys y1
      obtain ⟨va, vbb, vw, q⟩ := ic (ys.length - 1) (by omega)
      obtain rfl := i2 y1
      rw [hl2]
      obtain ⟨x, hx⟩ : ∃ x, Kp (ys[ys.length - 1] = x) := ⟨_, ⟨rfl⟩⟩
      rw [hx.out] at q ⊢
      have q7 := q.c7
      have hI := Kp.mk q.l.b
      replace q7 := at_keep q7 (bel_trans hB <| bel_alloc w (Go.Obj.cells #[.string name, .int .i64 link, .slice a1 params.length k1, .int .i64 res, .slice (some ⟨b, o, none⟩) blocks.length k2] 30))
      obtain ⟨ab, kb, rfl⟩ := hI.out.shape
      clear hl2 ic hx q
      obtain ⟨k, hk⟩ : ∃ k : Nat, ys.length = k + 1 := ⟨ys.length - 1, by omega⟩
      rw [hk] at c0 i1 i3 y0 y1 q7
      simp only [Nat.add_sub_cancel] at q7
      have e3 : ((k : Int) + 1 == 0) = false := by simp; omega
      go_enter Try.func70, Try.ntmps70
      go_wp2_with fail
      refine (CI.out _).mono ?_
      rintro e w1 ⟨rfl, rfl⟩
      go_wp2_with fail
      go_ret
      exact ⟨_, rfl, hI.out, bel_alloc _ _⟩
end Go.Proofs.Ytbfpfjkjeekbdaa
