/- Draws: the source, a chance. -/
import Derived.Test.YtbacbigcecmfbaaDr1
namespace Go.Proofs.Ytbacbigcecmfbaa
open Go.ChangeShapes Go.WideShapes Go.ChangeAt Go.RowKit
open Go.Sort (grow)
set_option linter.unusedVariables false
set_option linter.unusedSimpArgs false
theorem Ints.slice' {lo : Nat} {k : IntKind} {w : World} {v : Value} {xs : List Int} (h : Ints lo k w v xs) : ∃ a cap, v = .slice a xs.length cap := by
  obtain ⟨b, o, ⟨⟨a, cap, rfl, h1, h2⟩, h3⟩, -, hc⟩ := h.ex
  exact ⟨a, cap, rfl⟩
set_option maxRecDepth 100000 in
set_option maxHeartbeats 4000000 in
theorem sourceS (v : Value) (xs : List Int) (w : World) (h : Ints 0 .u8 w v xs) (hb : ∀ i (h : i < xs.length), 0 ≤ xs[i] ∧ xs[i] < 256) (hl : xs.length ≤ 1048576) :
    Calls Try.prog 19 #[v] w fun e w' => e = .returned (.pointer (some ⟨w.heap.size, 0, none⟩)) ∧ ∃ sz : Int, 0 ≤ sz ∧ sz ≤ 12 ∧ Src w' w.heap.size v xs 0 sz ∧ Below w.heap.size w w' := by
  have HS : Kp (∀ sz : Int, Src (w.alloc (Go.Obj.cells #[v, .int .i64 0, .int .i64 sz] 50 (0, 0))) w.heap.size v xs 0 sz) := ⟨fun sz => ⟨new_cells w _, h.keep (bel_alloc _ _), hb, hl, Int.le_refl _⟩⟩
  obtain ⟨a, cap, rfl⟩ := h.slice'
  clear h hb
  have q0 : 0 ≤ (xs.length : Int) / 16 := by omega
  have q1 : (xs.length : Int) / 16 ≤ 65536 := by omega
  by_cases hg : 12 < (xs.length : Int) / 16
  · go_enter Try.func19, Try.ntmps19
    go_wp2_with fail
    go_ret
    exact ⟨rfl, 12, by decide, by decide, HS.out 12, bel_alloc _ _⟩
  · go_enter Try.func19, Try.ntmps19
    go_wp2_with fail
    go_ret
    exact ⟨rfl, _, q0, by omega, HS.out _, bel_alloc _ _⟩
set_option maxRecDepth 100000 in
set_option maxHeartbeats 4000000 in
theorem chanceS (S : Nat) (v : Value) (xs : List Int) (p q n : Int) (w : World) (h : Src w S v xs p q) (hp : p ≤ 1099511627776) (n0 : -1000000000000 ≤ n) (n1 : n ≤ 1000000000000) :
    Calls Try.prog 21 #[.pointer (some ⟨S, 0, none⟩), .int .i64 n] w fun e w' => ∃ r : Bool, e = .returned (.bool r) ∧ Asd S w w' ∧ Src w' S v xs (p + 1) q := by
  have C := Kp.mk (nextS S v xs p q n w h hp n0 n1)
  clear h
  go_enter Try.func21, Try.ntmps21
  go_wp2_with (go_at_call 22; go_fit C.out; rintro e w1 ⟨r, rfl, hd, ha, hs⟩)
  go_ret
  exact ⟨_, rfl, ha, hs⟩
end Go.Proofs.Ytbacbigcecmfbaa
