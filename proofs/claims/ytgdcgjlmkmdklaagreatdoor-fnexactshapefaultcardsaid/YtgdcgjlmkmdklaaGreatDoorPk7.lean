/- Texts of one claim. -/
import Derived.Test.YtgdcgjlmkmdklaaGreatDoorRows
import Derived.WalkKit
import Derived.ProofKit
import Derived.OpenShut
import Derived.WalkLawsBesides
import Derived.Lib.LaidTab
import Derived.Below
import Derived.Laws.BitsAllLaws
import Derived.Test.YtgdcgjlmkmdklaaGreatDoorPk0
namespace Go.Proofs.YtgdcgjlmkmdklaaGreatDoor
open Go.ChangeShapes Go.WideShapes Go.ChangeAt Go.RowKit
set_option linter.unusedVariables false
structure Wid (w : World) : Prop where
 c0 : w.cell? ⟨1, 0, none⟩ = some (.int .i64 1)
 c1 : w.cell? ⟨1, 1, none⟩ = some (.int .i64 8)
 c2 : w.cell? ⟨1, 2, none⟩ = some (.int .i64 16)
 c3 : w.cell? ⟨1, 3, none⟩ = some (.int .i64 32)
 c4 : w.cell? ⟨1, 4, none⟩ = some (.int .i64 64)
def vw (x : Int) : Bool := x == 1 || x == 8 || x == 16 || x == 32 || x == 64
theorem vw_cases {x : Int} (h : vw x = true) : x = 1 ∨ x = 8 ∨ x = 16 ∨ x = 32 ∨ x = 64 := by
 simp [vw] at h; omega
theorem vw_not {x : Int} (h : vw x = false) : ¬ x = 1 ∧ ¬ x = 8 ∧ ¬ x = 16 ∧ ¬ x = 32 ∧ ¬ x = 64 := by
 simp [vw] at h; omega
theorem vw_of_not {x : Int} (h : ¬ x = 1 ∧ ¬ x = 8 ∧ ¬ x = 16 ∧ ¬ x = 32 ∧ ¬ x = 64) : vw x = false := by
 simp [vw]; omega
set_option maxRecDepth 100000 in
set_option maxHeartbeats 1000000 in
theorem validWidth_any (x : Int) (w : World) (hw : Wid w) :
  Calls Tryz.prog 137 #[.int .i64 x] w fun e w' => e = .returned (.bool (vw x)) ∧ w' = w := by
 obtain ⟨h0, h1, h2, h3, h4⟩ := hw
 have i0 : ∀ w : World, (Instr.index 207 (.agg #[.int .i64 1, .int .i64 8, .int .i64 16, .int .i64 32, .int .i64 64]) (.int .i64 0)).run Tryz.prog w = .ok (.int .i64 1) w := fun _ => by kernel_rfl
 have i1 : ∀ w : World, (Instr.index 207 (.agg #[.int .i64 1, .int .i64 8, .int .i64 16, .int .i64 32, .int .i64 64]) (.int .i64 1)).run Tryz.prog w = .ok (.int .i64 8) w := fun _ => by kernel_rfl
 have i2 : ∀ w : World, (Instr.index 207 (.agg #[.int .i64 1, .int .i64 8, .int .i64 16, .int .i64 32, .int .i64 64]) (.int .i64 2)).run Tryz.prog w = .ok (.int .i64 16) w := fun _ => by kernel_rfl
 have i3 : ∀ w : World, (Instr.index 207 (.agg #[.int .i64 1, .int .i64 8, .int .i64 16, .int .i64 32, .int .i64 64]) (.int .i64 3)).run Tryz.prog w = .ok (.int .i64 32) w := fun _ => by kernel_rfl
 have i4 : ∀ w : World, (Instr.index 207 (.agg #[.int .i64 1, .int .i64 8, .int .i64 16, .int .i64 32, .int .i64 64]) (.int .i64 4)).run Tryz.prog w = .ok (.int .i64 64) w := fun _ => by kernel_rfl
 go_enter Tryz.func137, Tryz.ntmps137
 go_wp2
 go_loop [6] (fun i => ∃ k : Nat, k ≤ 5 ∧ i = .int .i64 k ∧ (1 ≤ k → ¬ x = 1) ∧ (2 ≤ k → ¬ x = 8) ∧ (3 ≤ k → ¬ x = 16) ∧ (4 ≤ k → ¬ x = 32) ∧ (5 ≤ k → ¬ x = 64)) (fun i => 5 - (intOf i).toNat)
 case atStart => exact ⟨0, Nat.zero_le _, rfl, by omega, by omega, by omega, by omega, by omega⟩
 case round =>
  obtain ⟨k, hk, rfl, q0, q1, q2, q3, q4⟩ := hrel
  have hk5 : k = 0 ∨ k = 1 ∨ k = 2 ∨ k = 3 ∨ k = 4 ∨ k = 5 := by omega
  rcases hk5 with rfl | rfl | rfl | rfl | rfl | rfl
  ·by_cases e : x = 1
   ·subst e
    go_wp2
    go_ret
    exact ⟨rfl, rfl⟩
   ·go_wp2
    go_round
    case rel => exact ⟨1, by omega, rfl, by omega, by omega, by omega, by omega, by omega⟩
    case measure => simp [intOf]
  ·by_cases e : x = 8
   ·subst e
    go_wp2
    go_ret
    exact ⟨rfl, rfl⟩
   ·go_wp2
    go_round
    case rel => exact ⟨2, by omega, rfl, by omega, by omega, by omega, by omega, by omega⟩
    case measure => simp [intOf]
  ·by_cases e : x = 16
   ·subst e
    go_wp2
    go_ret
    exact ⟨rfl, rfl⟩
   ·go_wp2
    go_round
    case rel => exact ⟨3, by omega, rfl, by omega, by omega, by omega, by omega, by omega⟩
    case measure => simp [intOf]
  ·by_cases e : x = 32
   ·subst e
    go_wp2
    go_ret
    exact ⟨rfl, rfl⟩
   ·go_wp2
    go_round
    case rel => exact ⟨4, by omega, rfl, by omega, by omega, by omega, by omega, by omega⟩
    case measure => simp [intOf]
  ·by_cases e : x = 64
   ·subst e
    go_wp2
    go_ret
    exact ⟨rfl, rfl⟩
   ·go_wp2
    go_round
    case rel => exact ⟨5, by omega, rfl, by omega, by omega, by omega, by omega, by omega⟩
    case measure => simp [intOf]
  ·have hf : Hid (vw x = false) := vw_of_not ⟨q0 (by omega), q1 (by omega), q2 (by omega), q3 (by omega), q4 (by omega)⟩
   go_wp2
   go_ret
   exact ⟨by rw [hf.out]; rfl, rfl⟩
theorem validWidth_yes (x : Int) (w : World) (hw : Wid w) (hx : vw x = true) :
  Calls Tryz.prog 137 #[.int .i64 x] w fun e w' => e = .returned (.bool true) ∧ w' = w := by
 rw [← hx]; exact validWidth_any x w hw
theorem validWidth_no (x : Int) (w : World) (hw : Wid w) (hx : vw x = false) :
  Calls Tryz.prog 137 #[.int .i64 x] w fun e w' => e = .returned (.bool false) ∧ w' = w := by
 rw [← hx]; exact validWidth_any x w hw
def IsRow (k : IntKind) (w : World) (a : Option Addr) (len cap : Nat) (zs : List Int) : Prop :=
 (a = none ∧ len = 0 ∧ cap = 0 ∧ zs = []) ∨
 ∃ x, a = some x ∧ len ≤ cap ∧ cap ≤ maxLen ∧ zs.length = cap ∧ (∀ i, i < zs.length → w.cell? (x.add i) = some (.int k (zs.getD i 0))) ∧ ∀ n ∈ zs, (Lit.int k n).wf = true
theorem wid_of_laid {W : World} {rest : List (String × DataW Unit)} (h : laidMet Tryz.prog (("loop.example/g00010/impl.widths", Lib.tabData .i64 [1, 8, 16, 32, 64]) :: rest) W) : Wid W := by
 have hg : Tryz.prog.globalNamed "loop.example/g00010/impl.widths" = some 1 := by kernel_rfl
 have t := Lib.tabIs_of_head hg (by kernel_rfl) Tryz.underlying207 Tryz.underlying2 (by kernel_rfl) (by kernel_rfl) h
 exact ⟨t.cell hg 0 (by decide), t.cell hg 1 (by decide), t.cell hg 2 (by decide), t.cell hg 3 (by decide), t.cell hg 4 (by decide)⟩
theorem Wid.lt {w : World} (h : Wid w) : 1 < w.heap.size := World.block_lt_of_cell? w _ h.c0
theorem Wid.below {w w' : World} (h : Wid w) (hb : Below w.heap.size w w') : Wid w' :=
 ⟨by rw [hb.cell h.lt]; exact h.c0, by rw [hb.cell h.lt]; exact h.c1, by rw [hb.cell h.lt]; exact h.c2, by rw [hb.cell h.lt]; exact h.c3, by rw [hb.cell h.lt]; exact h.c4⟩
theorem bel_trans {a b c : World} (h : Below a.heap.size a b) (k : Below b.heap.size b c) : Below a.heap.size a c := h.trans (k.mono h.size)
theorem bel_alloc (w : World) (o : Obj) : Below w.heap.size w (w.alloc o) := (Below.refl _ _).alloc (Nat.le_refl _) o
def cutI (w v : Int) : Int := v % 2 ^ w.toNat
def isW (w v : Int) : Bool := vw w && decide (0 ≤ v ∧ v < 2 ^ w.toNat)
def sgnI (w v : Int) : Int := if v < 2 ^ (w.toNat - 1) then v else v - 2 ^ w.toNat
theorem isW_vw {w v : Int} (h : isW w v = true) : vw w = true := by simp [isW] at h; exact h.1
theorem isW_bd {w v : Int} (h : isW w v = true) : 0 ≤ v ∧ v < 2 ^ w.toNat := by simp [isW] at h; exact h.2
theorem and_mask (k : Nat) (hk : k ≤ 64) (v m : Int) (hm : m = 2 ^ k - 1) (h0 : 0 ≤ v) (h1 : v ≤ 18446744073709551615) : bits .and .u64 v m = v % 2 ^ k := by
 have hp : (2 : Int) ^ k ≤ 2 ^ 64 := by exact_mod_cast Nat.pow_le_pow_right (by decide) hk
 have hp0 : (0 : Int) < 2 ^ k := Int.pow_pos (by decide)
 rw [u64_and v m h0 (by omega) (by omega) (by omega)]
 have e : m.toNat = 2 ^ k - 1 := by
  rw [hm]
  have : ((2 : Int) ^ k) = ((2 ^ k : Nat) : Int) := by simp
  rw [this]; have := Nat.two_pow_pos k; omega
 rw [e, Nat.and_two_pow_sub_one_eq_mod]
 have : ((2 : Int) ^ k) = ((2 ^ k : Nat) : Int) := by simp
 rw [this, Int.natCast_emod, Int.toNat_of_nonneg h0]
end Go.Proofs.YtgdcgjlmkmdklaaGreatDoor

namespace Go.Proofs.YtgdcgjlmkmdklaaGreatDoor
open Go.ChangeShapes Go.WideShapes Go.ChangeAt Go.RowKit
set_option linter.unusedVariables false
theorem hid_of {p : Prop} (h : p) : Hid p := h
theorem ret_int {k : IntKind} {a b : Int} (h : a = b) : Ending.returned (.int k a) = .returned (.int k b) := by rw [h]
theorem ret_bool {a b : Bool} (h : a = b) : Ending.returned (.bool a) = .returned (.bool b) := by rw [h]
theorem vwS_no (x : Int) (w : World) (hx : vw x = false) :
  Calls Tryz.prog 86 #[.int .i64 x] w fun e w' => e = .returned (.bool false) ∧ w' = w := by
 exact tl63
theorem vwS_yes (x : Int) (w : World) (hx : vw x = true) :
  Calls Tryz.prog 86 #[.int .i64 x] w fun e w' => e = .returned (.bool true) ∧ w' = w := by
 exact tl113
def vtB (x : Int) : Bool := x == 65 || vw x
theorem vtI (x : Int) (w : World) (hw : Wid w) :
  Calls Tryz.prog 102 #[.int .i64 x] w fun e w' => e = .returned (.bool (vtB x)) ∧ w' = w := by
 by_cases e : x = 65
 ·subst e
  go_enter Tryz.func102, Tryz.ntmps102
  go_wp2
  go_ret
  exact ⟨rfl, rfl⟩
 ·have n : (x == 65) = false := beq_eq_false_iff_ne.2 e
  cases hx : vw x
  all_goals
   have H := hid_of hx
   have G : Hid (vtB x = (x == 65 || vw x)) := rfl
   clear hx e
   go_enter Tryz.func102, Tryz.ntmps102
   go_wp2_with (first | (go_at_call 137; refine (validWidth_any _ _ hw).mono ?_; rw [H.out]; rintro e w' ⟨rfl, rfl⟩))
   go_ret
   exact ⟨ret_bool (by rw [G.out, n, H.out]; rfl), rfl⟩
theorem vtS (x : Int) (w : World) :
  Calls Tryz.prog 46 #[.int .i64 x] w fun e w' => e = .returned (.bool (vtB x)) ∧ w' = w := by
 cases hx : vw x with
 | true =>
  have H := hid_of hx
  have G : Hid (vtB x = (x == 65 || vw x)) := rfl
  clear hx
  go_enter Tryz.func46, Tryz.ntmps46
  go_wp2_with (first | (go_at_call 86; refine (vwS_yes _ _ H.out).mono ?_; rintro e w' ⟨rfl, rfl⟩))
  go_ret
  exact ⟨ret_bool (by rw [G.out, H.out]; simp), rfl⟩
 | false =>
  have H := hid_of hx
  have G : Hid (vtB x = (x == 65 || vw x)) := rfl
  clear hx
  go_enter Tryz.func46, Tryz.ntmps46
  go_wp2_with (first | (go_at_call 86; refine (vwS_no _ _ H.out).mono ?_; rintro e w' ⟨rfl, rfl⟩))
  go_ret
  exact ⟨ret_bool (by rw [G.out, H.out]; simp), rfl⟩
def szT (x : Int) : Int := if x = 65 then 8 else if vw x then (x + 7) / 8 else 0
end Go.Proofs.YtgdcgjlmkmdklaaGreatDoor
