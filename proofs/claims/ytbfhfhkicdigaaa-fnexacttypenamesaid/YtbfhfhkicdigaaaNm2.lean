/- The naming both ways that a map of names is made into: its contract, and that of asking it for a name. -/
import Derived.Test.YtbfhfhkicdigaaaNm1
namespace Go.Proofs.Ytbfhfhkicdigaaa
open Go.ChangeShapes Go.WideShapes Go.ChangeAt Go.RowKit Go.Maps
set_option linter.unusedVariables false
set_option linter.unusedSimpArgs false
theorem lawS : Keyed Try.prog 9 := string_keyed Try.underlying9
theorem lawI : Keyed Try.prog 2 := int_keyed Try.underlying2
theorem zeroSp (w : World) : (zeroValue 32).run Try.prog w = .ok (.agg #[.string ByteArray.empty]) w := by kernel_rfl
/-- Asked for a number's name: the name, or the empty text. -/
theorem nameOf_c {H : Type} (L : List (ByteArray × Int)) (b n : Nat) (D : DataW H) (vm : Value) (c : Int) (wc : (Lit.int .i64 c).wf = true) (w : World) (h : w.ownsMap Try.prog 2 spellElem b n D) (hF : Full L D) :
    Calls Try.prog 13 #[.agg #[vm, .map (some b)], .int .i64 c] w fun e w' => e = .returned (.string (nmOf L c)) ∧ Below w.heap.size w w' := by
  have hfd : ∀ (v : Value) (w : World), (Instr.field 32 (.agg #[v]) 0).run Try.prog w = .ok v w := fun _ _ => by kernel_rfl
  go_enter Try.func13, Try.ntmps13
  go_wp2_with (first
    | (at_lookup; refine wpList_lookup_spell _ rfl _ _ 25 rfl 2 32 lawI Try.underlying25 (zeroSp _) b n D rfl (h.alloc _) _ _ rfl (keyOf_int_mk Try.underlying2 wc) ?_; intro s hs; rw [full_at hF] at hs; obtain rfl := keyS_inj (by simpa [litS] using hs); clear hs)
    | go_in)
  go_ret
  exact ⟨rfl, bel_alloc _ _⟩
set_option maxRecDepth 100000 in
theorem namingOf_c {H : Type} (L : List (ByteArray × Int)) (hL : apartB L = true) (b n : Nat) (w : World) (hown : w.ownsMap (H := H) Try.prog 9 (plainElem Try.prog 2) b n (numD L)) (hmax : Maps.size (numD (H := H) L) < maxLen) :
    Calls Try.prog 16 #[.map (some b)] w fun e w' => ∃ b2 n2 D, e = .returned (.agg #[.map (some b), .map (some b2)]) ∧ w'.ownsMap (H := H) Try.prog 9 (plainElem Try.prog 2) b n (numD L) ∧ w'.ownsMap Try.prog 2 spellElem b2 n2 D ∧ Full (H := H) L D ∧ w.heap.size ≤ b2 ∧ Below w.heap.size w w' := by
  have hmm := @run_makeMap Try.prog
  have hbl := hown.lt
  generalize hT : numD (H := H) L = DL at *
  have HT : Kp (DL = numD L) := ⟨hT.symm⟩
  clear hT
  go_enter Try.func16, Try.ntmps16
  go_wp2_with (first
    | (at_range; refine wpList_range_own _ rfl _ 24 rfl 9 2 lawS Try.underlying24 _ b n DL rfl ((hown.alloc _).alloc _) ?_; intro w0 hrg0 hg0 hs0)
    | go_in)
  go_frame
  have e1 : ((w.alloc (Go.Obj.cells #[Go.Value.map none, Go.Value.map none] 27)).alloc (Go.Obj.map #[] 0)).heap.size = w.heap.size + 2 := by simp
  have e2 : (w.alloc (Go.Obj.cells #[Go.Value.map none, Go.Value.map none] 27)).heap.size = w.heap.size + 1 := by simp
  have hst := (World.ownsMap_made (H := H) (w.alloc (Go.Obj.cells #[Go.Value.map none, Go.Value.map none] 27)) Try.prog 2 spellElem).kept hg0 (by simp)
  have hb0 := ((bel_alloc w (Go.Obj.cells #[Go.Value.map none, Go.Value.map none] 27)).alloc (by simp) (Go.Obj.map #[] 0)).grown hg0 (by simp only [e1]; omega) (fun j hj => by cases hj)
  have hr0 : w0.heap[w.heap.size]? = some (Go.Obj.cells #[Go.Value.map none, Go.Value.map none] 27 (0, 0)) := by
    rw [hg0.block w.heap.size (by rw [e1]; omega) (by simp)]
    rw [(MapKept.heap_alloc (w.alloc _) _).2 w.heap.size (by rw [e2]; omega)]
    exact (MapKept.heap_alloc w _).1
  rw [e2] at hst
  rw [e1] at hrg0 hs0 ⊢
  clear e1 e2 hg0 hown
  go_loopw [4] (fun _ wr => ∃ (left : Lit → Bool) (cnt : Nat) (D2 : DataW H), wr.ranges Try.prog 9 (plainElem Try.prog 2) b (w.heap.size + 2) n DL left cnt ∧ cnt ≤ Maps.size DL ∧
      wr.ownsMap Try.prog 2 spellElem (w.heap.size + 1) (Maps.size DL - cnt) D2 ∧ Half L left D2 ∧ wr.heap[w.heap.size]? = some (Go.Obj.cells #[Go.Value.map none, Go.Value.map none] 27 (0, 0)) ∧ Below w.heap.size w wr)
    (fun _ wr => wr.rangeLeft b (w.heap.size + 2))
  case atStart =>
    refine ⟨_, _, .map [], hrg0, Nat.le_refl _, hst.mono (Nat.zero_le _), ?_, hr0, hb0⟩
    rw [HT.out]; exact half_start
  case round =>
    obtain ⟨left, cnt, D2, hrg, hcs, hout, hA, hr, hnx⟩ := hrel
    have hfz : ∀ k, wr.frozen? ⟨w.heap.size, k, none⟩ = false := by
      intro k
      simp [World.frozen?, hr]
    have hca : wr.cell? ⟨w.heap.size, 0, none⟩ = some (.map none) := by simp [World.cell?, hr]
    have hcb : wr.cell? ⟨w.heap.size, 1, none⟩ = some (.map none) := by simp [World.cell?, hr]
    go_wp2_with (first
      | (at_next; refine wpList_next_si _ rfl _ rfl 9 2 lawS Try.underlying9 Try.underlying2 b (w.heap.size + 2) n _ _ _ rfl hrg ?_ ?_)
      | go_in)
    · intro hc0 hl0
      have hne1 := hrg.owns.lt
      have hbb : b ≠ w.heap.size := by omega
      have hL1 := ((hrg.owns.setCell (a := ⟨w.heap.size, 0, none⟩) hbb (.map (some b))).setCell (a := ⟨w.heap.size, 1, none⟩) hbb (.map (some (w.heap.size + 1))))
      have hL2 := ((hout.setCell (a := ⟨w.heap.size, 0, none⟩) (by simp) (.map (some b))).setCell (a := ⟨w.heap.size, 1, none⟩) (by simp) (.map (some (w.heap.size + 1))))
      have hL3 := (hnx.setCell (p := ⟨w.heap.size, 0, none⟩) (by simp) (.map (some b))).setCell (p := ⟨w.heap.size, 1, none⟩) (by simp) (.map (some (w.heap.size + 1)))
      have q1 := half_end hA hl0
      go_wp2
      refine bodyPost_ret (v := .agg #[.map (some b), .map (some (w.heap.size + 1))]) (by simp [results, Try.results16, go_sem, hca, hcb]) rfl ⟨w.heap.size + 1, _, D2, rfl, hL1, hL2, q1, by omega, hL3⟩
    · intro x c w1 cnt1 hwc hat hrg1 hlt hg1 hs1 hen
      have hout1 := hout.kept hg1 (by simp)
      have hr1 : w1.heap[w.heap.size]? = some (Go.Obj.cells #[Go.Value.map none, Go.Value.map none] 27 (0, 0)) := by
        rw [hg1.block w.heap.size (by have := hout.lt; omega) (by simp)]; exact hr
      rw [HT.out] at hat
      obtain ⟨x', hx, hnm⟩ := numD_name hL hat
      obtain rfl := keyS_inj hx
      go_wp2_with (first
        | (at_mapUpdate; refine wpList_mapUpdate_own _ rfl _ _ _ 25 rfl 2 32 lawI Try.underlying25 _ (w.heap.size + 1) _ _ rfl hout1 (by omega) _ _ _ rfl rfl (keyOf_int_mk Try.underlying2 hwc) _ [] (spell_mk x) ?_; intro w2 hout2 hg2; go_frame)
        | go_in)
      have hrg2 := hrg1.kept hg2 (fun e => by have := Option.some.inj e; omega) (fun e => by have := Option.some.inj e; omega)
      go_roundw
      case rel =>
        exact ⟨_, cnt1, _, hrg2, by omega, hout2.mono (by omega), half_step hL hout.isMap hA hnm, by rw [hg2.block w.heap.size (by have := hout1.lt; omega) (by simp)]; exact hr1,
          (hnx.grown hg1 hnx.size (fun j hj => by cases hj; omega)).grown hg2 (by have := hnx.size; omega) (fun j hj => by cases hj; omega)⟩
      case measure => rw [hrg2.left_eq, hrg.left_eq]; exact hlt
end Go.Proofs.Ytbfhfhkicdigaaa
