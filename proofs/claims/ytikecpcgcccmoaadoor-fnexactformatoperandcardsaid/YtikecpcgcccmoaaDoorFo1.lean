/- The text of an operand: the specification's answer and the program's. -/
import Derived.Test.YtikecpcgcccmoaaDoorFmt2
import Derived.Test.YtikecpcgcccmoaaDoorMd3
import Derived.Test.YtikecpcgcccmoaaDoorIx
import Derived.Test.YtikecpcgcccmoaaDoorBnd
namespace Go.Proofs.YtikecpcgcccmoaaDoor
open Go.ChangeShapes Go.WideShapes Go.ChangeAt Go.RowKit
open Go.Lib
set_option linter.unusedVariables false
set_option linter.unusedSimpArgs false
theorem itoa_len (n : Int) (h0 : -9223372036854775808 ≤ n) (h1 : n ≤ 9223372036854775807) : (itoa n).length ≤ 100 := by
  unfold itoa
  split
  · have := nDigits_le20 n.natAbs (by omega)
    rw [List.length_cons, decDigits_length]; omega
  · have := nDigits_le20 n.toNat (by omega)
    rw [decDigits_length]; omega
set_option maxRecDepth 100000 in
set_option maxHeartbeats 2000000 in
theorem l3I (n : Int) (w : World) (h0 : -9223372036854775808 ≤ n) (h1 : n ≤ 9223372036854775807) :
    Calls Tryd.prog 13 #[.int .i64 n] w fun e w' => e = .returned (.string ⟨(itoa n).toArray⟩) ∧ Below w.heap.size w w' := by
  by_cases hn : n < 0
  · have E : Hid (itoa n = 45 :: decDigits (-n).toNat) := show itoa n = 45 :: decDigits (-n).toNat by unfold itoa; rw [if_pos hn, show n.natAbs = (-n).toNat by omega]
    have L : (decDigits (-n).toNat).length ≤ 100 := by
      rw [decDigits_length]
      have := nDigits_le20 (-n).toNat (by omega)
      omega
    go_enter Tryd.func13, Tryd.ntmps13
    go_wp2_with (first | (go_at_call 26; refine (sizeF _ _ h0 hn).mono ?_; rintro e w' ⟨rfl, rfl⟩) | (go_at_call 25; refine (dec_spec _ _ (by omega) (by omega)).mono ?_; rintro e w1 ⟨rfl, hb1⟩))
    go_wp2_with fail
    go_ret
    exact ⟨by rw [E.out, ba_cons]; rfl, hb1⟩
  · have E : Hid (itoa n = decDigits n.toNat) := show itoa n = decDigits n.toNat by unfold itoa; rw [if_neg hn]
    have hn2 : 0 ≤ n := by omega
    have hw : IntKind.u64.wrap n = n := by rw [IntKind.wrap_u64]; omega
    have D := Kp.mk (dec_spec n w hn2 (by omega))
    clear hn
    go_enter Tryd.func13, Tryd.ntmps13
    go_wp2_with fail
    refine (by first | exact D.out | (simp only [hw]; exact D.out) : Calls Tryd.prog 25 #[.int .u64 _] w _).mono ?_
    rintro e w1 ⟨rfl, hb1⟩
    go_wp2_with fail
    go_ret
    exact ⟨by rw [E.out]; rfl, hb1⟩
set_option maxRecDepth 100000 in
set_option maxHeartbeats 2000000 in
theorem decI (n : Int) (w : World) (hL : Lt w) (h0 : -9223372036854775808 ≤ n) (h1 : n ≤ 9223372036854775807) :
    Calls Tryd.prog 17 #[.int .i64 n] w fun e w' => e = .returned (.string ⟨(itoa n).toArray⟩) ∧ Below w.heap.size w w' := by
  have HT : Hid (Lib.TabIs Tryd.prog w "internal/strconv.uint64pow10" .u64 Lib.pow10Tab) := hL.tab
  clear hL
  go_enter Tryd.func17, Tryd.ntmps17
  go_wp2_with (go_at_call 31; refine (Tryd.strconv_FormatInt_10 _ h0 h1 _ HT.out).mono ?_; rintro e w' ⟨rfl, k, os, rfl⟩)
  go_ret
  exact ⟨rfl, below_grow _ _ _⟩
/-- The text of an operand. -/
def txO (gs : List GlD) (q : OpD) : ByteArray :=
  if q.k = 1 then ⟨(fmtW q.t q.w).toArray⟩
  else if q.k = 2 then ⟨#[110, 117, 108, 108]⟩
  else if q.k = 3 then ⟨#[112, 111, 105, 115, 111, 110]⟩
  else if q.k = 4 then ⟨(37 :: itoa q.i).toArray⟩
  else if q.k = 5 then (if h : 0 ≤ q.i ∧ q.i.toNat < gs.length then (⟨#[64]⟩ : ByteArray) ++ (gs[q.i.toNat]'h.2).name else ⟨#[]⟩)
  else ⟨#[]⟩
end Go.Proofs.YtikecpcgcccmoaaDoor
