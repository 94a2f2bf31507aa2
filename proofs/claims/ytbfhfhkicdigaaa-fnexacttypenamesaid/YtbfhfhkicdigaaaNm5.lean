/- A literal of texts in a row: the operation, and its cells. -/
import Derived.Test.YtbfhfhkicdigaaaNm3
import Derived.Great.BuildSlice
namespace Go.Proofs.Ytbfhfhkicdigaaa
open Go.ChangeShapes Go.WideShapes Go.ChangeAt Go.RowKit Go.Maps
set_option linter.unusedVariables false
set_option linter.unusedSimpArgs false
theorem wpList_buildStrs {P : Program} {ops : Array Oper} {rest : List Oper} {o : Oper} {a : Act} {w : World} {Q : Exit → Act → World → Prop} (hg : o.guard = none) (t e : TypeId) (len : Nat) (parts : Array (Nat × Operand)) (ho : o.op = .buildSlice t len parts)
    (ss : List ByteArray) (hu : P.underlying t = some (.slice e)) (hsz : (P.info? e).map (·.size) = some 1) (hz : ((P.info? e).bind (·.zero)).isSome = true)
    (hlen : len = ss.length) (hpos : 0 < len) (hsmall : len ≤ 2 ^ 24)
    (hparts : parts.toList = (ss.zipIdx 0).map fun x => (x.2, Operand.const (Value.string x.1)))
    (h : ∀ w', Below w.heap.size w w' → (∀ k (hk : k < ss.length), w'.cell? ⟨w.heap.size, k, none⟩ = some (.string ss[k])) → wpList P ops Q rest (a.put o.dst (.slice (some ⟨w.heap.size, 0, none⟩) len len)) w') : wpList P ops Q (o :: rest) a w := by
  cases hie : P.info? e with
  | none => simp [hie] at hsz
  | some ie =>
    simp only [hie, Option.map_some, Option.some.injEq, Option.bind_some] at hsz hz
    obtain ⟨z, hzz⟩ := Option.isSome_iff_exists.1 hz
    refine wpList_buildSlice hg t e len parts ho _ ie z hu hie hzz (by rw [hsz]; omega) (by rw [hsz]; omega) ?_ (h (w.alloc (.cells (ss.map Value.string).toArray e)) (bel_alloc _ _) fun k hk => ?_)
    · have e1 : (parts.map fun (i, x) => (i, a.eval x)).toList = ((ss.map Value.string).zipIdx 0).map fun x => (x.2, x.1) := by
        rw [Array.toList_map, hparts, List.zipIdx_map, List.map_map, List.map_map]
        rfl
      rw [e1, hsz]
      exact Great.fill_flat _ _ (fun v hv => by obtain ⟨n, _, rfl⟩ := List.mem_map.1 hv; rfl) (by simp [hlen])
    · unfold World.cell?
      simp only [(MapKept.heap_alloc w _).1]
      simp [hk]
theorem infoS : (Try.prog.info? 9).map (·.size) = some 1 := by kernel_rfl
theorem infoZ : ((Try.prog.info? 9).bind (·.zero)).isSome = true := by kernel_rfl
abbrev predT : List ByteArray := ByteArray.empty :: predsL.map (·.1)
abbrev opT1 : List ByteArray := ByteArray.empty :: (opsL.take 18).map (·.1)
abbrev opT2 : List ByteArray := (opsL.drop 18).map (·.1)
theorem pred_cell {w1 : World} {B : Nat} (c : Int) (h1 : ¬ c < 1) (h2 : ¬ 10 < c) (h : ∀ k (hk : k < predT.length), w1.cell? ⟨B, k, none⟩ = some (.string predT[k])) : w1.cell? ⟨B, c.toNat, none⟩ = some (.string (nmOf predsL c)) := by
  have e : ((List.range 11).all fun k => decide (predT.getD k ByteArray.empty = nmOf predsL k)) = true := by kernel_rfl
  have hk : c.toNat < predT.length := by show c.toNat < 11; omega
  have := List.all_eq_true.1 e c.toNat (by simp; omega)
  rw [h c.toNat hk]
  simp only [decide_eq_true_eq, List.getD_eq_getElem?_getD, List.getElem?_eq_getElem hk, Option.getD_some] at this
  rw [this, show ((c.toNat : Nat) : Int) = c by omega]
theorem op1_cell {w1 : World} {B : Nat} (c : Int) (h1 : 1 ≤ c) (h2 : c ≤ 18) (h : ∀ k (hk : k < opT1.length), w1.cell? ⟨B, k, none⟩ = some (.string opT1[k])) : w1.cell? ⟨B, c.toNat, none⟩ = some (.string (nmOf opsL c)) := by
  have e : ((List.range 19).all fun k => decide (opT1.getD k ByteArray.empty = nmOf opsL k)) = true := by kernel_rfl
  have hk : c.toNat < opT1.length := by show c.toNat < 19; omega
  have := List.all_eq_true.1 e c.toNat (by simp; omega)
  rw [h c.toNat hk]
  simp only [decide_eq_true_eq, List.getD_eq_getElem?_getD, List.getElem?_eq_getElem hk, Option.getD_some] at this
  rw [this, show ((c.toNat : Nat) : Int) = c by omega]
theorem op2_cell {w1 : World} {B : Nat} (c : Int) (h1 : 20 ≤ c) (h2 : c ≤ 31) (h : ∀ k (hk : k < opT2.length), w1.cell? ⟨B, k, none⟩ = some (.string opT2[k])) : w1.cell? ⟨B, (c - 20).toNat, none⟩ = some (.string (nmOf opsL c)) := by
  have e : ((List.range 12).all fun k => decide (opT2.getD k ByteArray.empty = nmOf opsL (k + 20))) = true := by kernel_rfl
  have hk : (c - 20).toNat < opT2.length := by show (c - 20).toNat < 12; omega
  have := List.all_eq_true.1 e (c - 20).toNat (by simp; omega)
  rw [h (c - 20).toNat hk]
  simp only [decide_eq_true_eq, List.getD_eq_getElem?_getD, List.getElem?_eq_getElem hk, Option.getD_some] at this
  rw [this, show (((c - 20).toNat : Nat) : Int) + 20 = c by omega]
theorem nm_none {L : List (ByteArray × Int)} {c : Int} (h : (L.all fun p => !(p.2 == c)) = true) : nmOf L c = ByteArray.empty := by
  unfold nmOf nameOf
  rw [List.find?_eq_none.2 (fun p hp => by simpa using List.all_eq_true.1 h p hp)]
  rfl
theorem PredNameS (c : Int) (w : World) :
    Calls Try.prog 10 #[.int .i64 c] w fun e w' => e = .returned (.string (nmOf predsL c)) ∧ Below w.heap.size w w' := by
  by_cases h1 : c < 1
  · have he : Kp (nmOf predsL c = ByteArray.empty) := ⟨nm_none (by simp; omega)⟩
    go_enter Try.func10, Try.ntmps10
    go_wp2
    go_ret
    exact ⟨by rw [he.out]; rfl, Below.refl _ _⟩
  by_cases h2 : 10 < c
  · have he : Kp (nmOf predsL c = ByteArray.empty) := ⟨nm_none (by simp; omega)⟩
    go_enter Try.func10, Try.ntmps10
    go_wp2
    go_ret
    exact ⟨by rw [he.out]; rfl, Below.refl _ _⟩
  have X : Kp _ := ⟨fun w1 => pred_cell (w1 := w1) (B := w.heap.size) c h1 h2⟩
  generalize nmOf predsL c = N at *
  go_enter Try.func10, Try.ntmps10
  go_wp2_with (first
    | (refine wpList_buildStrs rfl 29 9 11 _ rfl predT Try.underlying29 infoS infoZ rfl (by decide) (by decide) rfl ?_; intro w1 hb1 hc1; replace hc1 := X.out _ hc1)
    | go_in)
  go_ret
  exact ⟨rfl, hb1⟩
theorem OpNameS (c : Int) (w : World) :
    Calls Try.prog 8 #[.int .i64 c] w fun e w' => e = .returned (.string (nmOf opsL c)) ∧ Below w.heap.size w w' := by
  by_cases hA : 1 ≤ c ∧ c ≤ 18
  · obtain ⟨h1, h2⟩ := hA
    have X : Kp _ := ⟨fun w1 => op1_cell (w1 := w1) (B := w.heap.size) c h1 h2⟩
    generalize nmOf opsL c = N at *
    go_enter Try.func8, Try.ntmps8
    go_wp2_with (first
      | (refine wpList_buildStrs rfl 29 9 19 _ rfl opT1 Try.underlying29 infoS infoZ rfl (by decide) (by decide) rfl ?_; intro w1 hb1 hc1; replace hc1 := X.out _ hc1)
      | go_in)
    go_ret
    exact ⟨rfl, hb1⟩
  by_cases hB : 20 ≤ c ∧ c ≤ 31
  · obtain ⟨h1, h2⟩ := hB
    have h3 : ¬ c ≤ 18 := by omega
    have X : Kp _ := ⟨fun w1 => op2_cell (w1 := w1) (B := w.heap.size) c h1 h2⟩
    generalize nmOf opsL c = N at *
    clear hA
    go_enter Try.func8, Try.ntmps8
    go_wp2_with (first
      | (refine wpList_buildStrs rfl 29 9 12 _ rfl opT2 Try.underlying29 infoS infoZ rfl (by decide) (by decide) rfl ?_; intro w1 hb1 hc1; replace hc1 := X.out _ hc1)
      | go_in)
    go_ret
    exact ⟨rfl, hb1⟩
  have he : Kp (nmOf opsL c = ByteArray.empty) := ⟨nm_none (by simp; omega)⟩
  have h3 : c < 1 ∨ c = 19 ∨ 31 < c := by omega
  clear hA hB
  rcases h3 with h | rfl | h
  all_goals
    go_enter Try.func8, Try.ntmps8
    go_wp2
    go_ret
    exact ⟨by rw [he.out]; rfl, Below.refl _ _⟩
end Go.Proofs.Ytbfhfhkicdigaaa
