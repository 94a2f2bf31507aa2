/- Over one translation: sums, differences and products of words by the contracts of Arith, without flags and with them. -/
import Derived.Test.YtmkhkgliipalaaaDoorLwB
namespace Go.Proofs.YtmkhkgliipalaaaDoor
open Go.ChangeShapes Go.WideShapes Go.ChangeAt Go.RowKit
set_option linter.unusedVariables false
set_option linter.unusedSimpArgs false
def RW (op x a b : Int) : Int := cutI x (wLo (arT op a b))
theorem ring0 (op x a b : Int) (w : World) (hw : Wid w) (ho : op = 1 ∨ op = 2 ∨ op = 3) (ha : isW x a = true) (hb : isW x b = true) :
    Calls Tryd.prog 12 #[.int .i64 op, .int .i64 0, .int .i64 x, .int .u64 a, .int .u64 b] w fun e w' => e = .returned (.agg #[.int .i64 0, .int .u64 (RW op x a b)]) ∧ Below w.heap.size w w' :=
  arith_f1 op 0 x a b 0 _ w hw ho (by decide) ha hb (fun w hw => comb_5 0 op x a b w hw ho ha hb (by decide) (by decide))
theorem lwDo0 (op x a b : Int) (w : World) (hw : Wid w) (ho : op = 1 ∨ op = 2 ∨ op = 3) (ha : isW x a = true) (hb : isW x b = true) :
    Calls Tryd.prog 13 #[.int .i64 op, .int .i64 x, .int .u64 a, .int .u64 b] w fun e w' => e = .returned (.int .u64 (RW op x a b)) ∧ Below w.heap.size w w' :=
  lwDo_any op x a b 0 _ w hw (fun w hw => ring0 op x a b w hw ho ha hb)
def NotI (fl op x a b : Int) : Bool := (bits BinOp.and IntKind.i64 fl 2 != 0) && !fitU x (arT op a b) || (bits BinOp.and IntKind.i64 fl 1 != 0) && !fitS x (arT op (sgnI x a) (sgnI x b))
def cdI (b : Bool) : Int := if b then 1 else 0
theorem ringF (fl op x a b : Int) (w : World) (hw : Wid w) (hf : fl = 1 ∨ fl = 2 ∨ fl = 3) (ho : op = 1 ∨ op = 2 ∨ op = 3) (ha : isW x a = true) (hb : isW x b = true) :
    Calls Tryd.prog 12 #[.int .i64 op, .int .i64 fl, .int .i64 x, .int .u64 a, .int .u64 b] w fun e w' => ∃ v : Int, e = .returned (.agg #[.int .i64 (cdI (NotI fl op x a b)), .int .u64 v]) ∧ Below w.heap.size w w' := by
  have k0 : (bits BinOp.andNot IntKind.i64 fl 3 != 0) = false := by rcases hf with rfl | rfl | rfl <;> decide
  cases ku : (bits BinOp.and IntKind.i64 fl 2 != 0) with
  | true =>
    cases hu : fitU x (arT op a b) with
    | false =>
      refine (arith_f1 op fl x a b 1 0 w hw ho k0 ha hb (fun w hw => comb_1 fl op x a b w hw ho ha hb ku hu)).mono ?_
      rintro e w' ⟨rfl, h⟩
      exact ⟨0, by simp [NotI, cdI, ku, hu], h⟩
    | true =>
      cases ks : (bits BinOp.and IntKind.i64 fl 1 != 0) with
      | false =>
        refine (arith_f1 op fl x a b 0 _ w hw ho k0 ha hb (fun w hw => comb_2 fl op x a b w hw ho ha hb ku ks hu)).mono ?_
        rintro e w' ⟨rfl, h⟩
        exact ⟨cutI x (wLo (arT op a b)), by simp [NotI, cdI, ku, hu, ks], h⟩
      | true =>
        cases hs : fitS x (arT op (sgnI x a) (sgnI x b)) with
        | true =>
          refine (arith_f1 op fl x a b 0 _ w hw ho k0 ha hb (fun w hw => comb_3 fl op x a b w hw ho ha hb ku ks hu hs)).mono ?_
          rintro e w' ⟨rfl, h⟩
          exact ⟨cutI x (wLo (arT op a b)), by simp [NotI, cdI, ku, hu, ks, hs], h⟩
        | false =>
          refine (arith_f1 op fl x a b 1 0 w hw ho k0 ha hb (fun w hw => comb_4 fl op x a b w hw ho ha hb ku ks hu hs)).mono ?_
          rintro e w' ⟨rfl, h⟩
          exact ⟨0, by simp [NotI, cdI, ku, hu, ks, hs], h⟩
  | false =>
    cases ks : (bits BinOp.and IntKind.i64 fl 1 != 0) with
    | false => exfalso; rcases hf with rfl | rfl | rfl <;> revert ku ks <;> decide
    | true =>
      cases hs : fitS x (arT op (sgnI x a) (sgnI x b)) with
      | true =>
        refine (arith_f1 op fl x a b 0 _ w hw ho k0 ha hb (fun w hw => comb_6 fl op x a b w hw ho ha hb ku ks hs)).mono ?_
        rintro e w' ⟨rfl, h⟩
        exact ⟨cutI x (wLo (arT op a b)), by simp [NotI, cdI, ku, ks, hs], h⟩
      | false =>
        refine (arith_f1 op fl x a b 1 0 w hw ho k0 ha hb (fun w hw => comb_7 fl op x a b w hw ho ha hb ku ks hs)).mono ?_
        rintro e w' ⟨rfl, h⟩
        exact ⟨0, by simp [NotI, cdI, ku, ks, hs], h⟩
theorem RW_eq {op x a b : Int} (hx : vw x = true) : RW op x a b = arT op a b % 2 ^ x.toNat := by
  unfold RW; rw [cutI_wLo hx]; rfl
theorem isW_RW {op x a b : Int} (hx : vw x = true) : isW x (RW op x a b) = true := isW_cut hx
theorem ringE1 {x a b : Int} (hx : vw x = true) (ha : isW x a = true) : RW 2 x (RW 1 x a b) b = a := by
  obtain ⟨a0, a1⟩ := isW_bd ha
  rw [RW_eq hx, RW_eq hx]
  simp only [arT]
  simp only [if_true, show ¬ (2 : Int) = 1 by decide, if_false]
  rw [Int.emod_sub_emod, Int.add_sub_cancel, Int.emod_eq_of_lt a0 a1]
theorem ringE2 {x a b : Int} (hx : vw x = true) : RW 1 x a b = RW 1 x b a := by
  rw [RW_eq hx, RW_eq hx]; simp [arT, Int.add_comm]
theorem ringE3 {x a b : Int} (hx : vw x = true) : RW 3 x a b = RW 3 x b a := by
  rw [RW_eq hx, RW_eq hx]; simp [arT, Int.mul_comm]
theorem ringE4 {x a b c : Int} (hx : vw x = true) : RW 3 x c (RW 1 x a b) = RW 1 x (RW 3 x c a) (RW 3 x c b) := by
  simp only [RW_eq hx]
  simp only [arT, if_true, show ¬ (3 : Int) = 1 by decide, show ¬ (3 : Int) = 2 by decide, if_false]
  rw [Int.mul_emod, Int.emod_emod, ← Int.mul_emod, Int.mul_add, Int.add_emod]
end Go.Proofs.YtmkhkgliipalaaaDoor
