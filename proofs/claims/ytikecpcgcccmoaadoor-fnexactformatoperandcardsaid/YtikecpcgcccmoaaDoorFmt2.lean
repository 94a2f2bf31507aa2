/- Contracts over one translation: FormatWord of the program writes the same numeral; the law that compares the two answers true at every argument. -/
import Derived.Test.YtikecpcgcccmoaaDoorFmt
import Derived.Stop.LaidErr
namespace Go.Proofs.YtikecpcgcccmoaaDoor
open Go.ChangeShapes Go.WideShapes Go.ChangeAt Go.RowKit
open Go.Lib
set_option linter.unusedVariables false
set_option linter.unusedSimpArgs false
/-- The variables that FormatWord reads. -/
structure Lt (w : World) : Prop where
  wid : Wid w
  tab : Lib.TabIs Tryd.prog w "internal/strconv.uint64pow10" .u64 Lib.pow10Tab
theorem gTab : Tryd.prog.globalNamed "internal/strconv.uint64pow10" = some 1 := by kernel_rfl
theorem var_kept {w w' : World} {g : Nat} {n : String} {cs : Array Value} (hg : Tryd.prog.globalNamed n = some g) (h : w.var? Tryd.prog n = some cs) (hb : Below w.heap.size w w') : w'.var? Tryd.prog n = some cs := by
  unfold World.var? at h ⊢
  rw [hg] at h ⊢
  simp only [Option.bind_some] at h ⊢
  have hlt : g < w.heap.size := by
    rcases Nat.lt_or_ge g w.heap.size with h' | h'
    · exact h'
    · rw [Array.getElem?_eq_none h'] at h; cases h
  rw [hb.block g hlt]
  exact h
theorem Lt.below {w w' : World} (h : Lt w) (hb : Below w.heap.size w w') : Lt w' :=
  ⟨h.wid.below hb, var_kept gTab h.tab hb⟩
set_option maxRecDepth 100000 in
set_option maxHeartbeats 2000000 in
theorem fmtI_no (x v : Int) (w : World) (hw : Wid w) (h0 : 0 ≤ v) (h1 : v ≤ 18446744073709551615) (h : isW x v = false) :
    Calls Tryd.prog 16 #[.int .i64 x, .int .u64 v] w fun e w' => e = .returned (.string ⟨#[]⟩) ∧ Below w.heap.size w w' := by
  have H : Hid (isW x v = false) := h
  clear h
  go_enter Tryd.func16, Tryd.ntmps16
  go_wp2_with (go_at_call 29; refine (isWord_no _ _ _ hw h0 h1 H.out).mono ?_; rintro e w' ⟨rfl, rfl⟩)
  go_ret
  exact ⟨rfl, Below.refl _ _⟩
theorem small_at (v : Int) (w : World) (h0 : 0 ≤ v) (h1 : v < 100) :
    Calls Tryd.prog 54 #[.int .i64 v] w fun e w' => e = .returned (.string ⟨(decDigits v.toNat).toArray⟩) ∧ w' = w := by
  obtain ⟨n, rfl⟩ := Int.eq_ofNat_of_zero_le h0
  exact Tryd.internal_strconv_small n (by omega) w
set_option maxRecDepth 100000 in
set_option maxHeartbeats 2000000 in
theorem fu_in (v : Int) (w : World) (h0 : 0 ≤ v) (h1 : v < 100) :
    Calls Tryd.prog 47 #[.int .u64 v, .int .i64 10] w fun e w' => e = .returned (.string ⟨(decDigits v.toNat).toArray⟩) ∧ w' = w := by
  go_enter Tryd.func47, Tryd.ntmps47
  go_wp2_with (go_at_call 54; refine (small_at _ _ h0 h1).mono ?_; rintro e w' ⟨rfl, rfl⟩)
  go_ret
  exact ⟨rfl, rfl⟩
set_option maxRecDepth 100000 in
set_option maxHeartbeats 2000000 in
theorem fu_out (v : Int) (w : World) (h0 : 0 ≤ v) (h1 : v < 100) :
    Calls Tryd.prog 30 #[.int .u64 v, .int .i64 10] w fun e w' => e = .returned (.string ⟨(decDigits v.toNat).toArray⟩) ∧ w' = w := by
  go_enter Tryd.func30, Tryd.ntmps30
  go_wp2_with (go_at_call 47; refine (fu_in _ _ h0 h1).mono ?_; rintro e w' ⟨rfl, rfl⟩)
  go_ret
  exact ⟨rfl, rfl⟩
set_option maxRecDepth 100000 in
set_option maxHeartbeats 2000000 in
theorem fmtI_one (v : Int) (w : World) (hw : Wid w) (h : isW 1 v = true) :
    Calls Tryd.prog 16 #[.int .i64 1, .int .u64 v] w fun e w' => e = .returned (.string ⟨(itoa (numW 1 v)).toArray⟩) ∧ Below w.heap.size w w' := by
  have H : Hid (isW 1 v = true) := h
  have bd := isW_bd h
  simp at bd
  have v1 : v < 100 := by omega
  have b1 : v ≤ 18446744073709551615 := by omega
  have b0 := bd.1
  have E : Hid (itoa (numW 1 v) = decDigits v.toNat) := show itoa (numW 1 v) = decDigits v.toNat by unfold numW itoa; rw [if_pos rfl, if_neg (by omega)]
  clear h bd
  go_enter Tryd.func16, Tryd.ntmps16
  go_wp2_with (first | (go_at_call 29; refine (isWord_yes _ _ _ hw b0 b1 H.out).mono ?_; rintro e w' ⟨rfl, rfl⟩) | (go_at_call 30; refine (fu_out _ _ b0 v1).mono ?_; rintro e w' ⟨rfl, rfl⟩))
  go_ret
  exact ⟨by rw [E.out]; rfl, Below.refl _ _⟩
set_option maxRecDepth 100000 in
set_option maxHeartbeats 2000000 in
theorem fmtI_big (x v : Int) (w : World) (hL : Lt w) (hx : ¬ x = 1) (h : isW x v = true) :
    Calls Tryd.prog 16 #[.int .i64 x, .int .u64 v] w fun e w' => e = .returned (.string ⟨(itoa (numW x v)).toArray⟩) ∧ Below w.heap.size w w' := by
  have H : Hid (isW x v = true) := h
  have bd := word_u64 h
  have sb := sgnF_bd h
  have hw := hL.wid
  have n1 : (x == 1) = false := beq_eq_false_iff_ne.2 hx
  have E : Hid (numW x v = sgnI x v) := show numW x v = sgnI x v by unfold numW; rw [if_neg hx]
  have HT : Hid (Lib.TabIs Tryd.prog w "internal/strconv.uint64pow10" .u64 Lib.pow10Tab) := hL.tab
  clear h hx hL
  go_enter Tryd.func16, Tryd.ntmps16
  go_wp2_with (first | (go_at_call 29; refine (isWord_yes _ _ _ hw bd.1 bd.2 H.out).mono ?_; rintro e w' ⟨rfl, rfl⟩) | (go_at_call 32; refine (signed_impl _ _ _ hw bd.1 bd.2 H.out).mono ?_; rintro e w' ⟨rfl, rfl⟩) | (go_at_call 31; refine (Tryd.strconv_FormatInt_10 _ sb.1 sb.2 _ HT.out).mono ?_; rintro e w' ⟨rfl, k, os, rfl⟩))
  go_ret
  exact ⟨by rw [E.out]; rfl, below_grow _ _ _⟩
theorem fmtI_yes (x v : Int) (w : World) (hL : Lt w) (h : isW x v = true) :
    Calls Tryd.prog 16 #[.int .i64 x, .int .u64 v] w fun e w' => e = .returned (.string ⟨(itoa (numW x v)).toArray⟩) ∧ Below w.heap.size w w' := by
  by_cases hx : x = 1
  · subst hx; exact fmtI_one v w hL.wid h
  · exact fmtI_big x v w hL hx h
/-- The text of a word, or the empty one. -/
def fmtW (x v : Int) : List UInt8 := if isW x v then itoa (numW x v) else []
theorem fmtI_any (x v : Int) (w : World) (hL : Lt w) (h0 : 0 ≤ v) (h1 : v ≤ 18446744073709551615) :
    Calls Tryd.prog 16 #[.int .i64 x, .int .u64 v] w fun e w' => e = .returned (.string ⟨(fmtW x v).toArray⟩) ∧ Below w.heap.size w w' := by
  unfold fmtW
  cases h : isW x v with
  | true => exact fmtI_yes x v w hL h
  | false => exact fmtI_no x v w hL.wid h0 h1 h
theorem fmtS_any (x v : Int) (w : World) (h0 : 0 ≤ v) (h1 : v ≤ 18446744073709551615) :
    Calls Tryd.prog 12 #[.int .i64 x, .int .u64 v] w fun e w' => e = .returned (.string ⟨(fmtW x v).toArray⟩) ∧ Below w.heap.size w w' := by
  unfold fmtW
  cases h : isW x v with
  | true => exact fmtS_yes x v w h
  | false => exact fmtS_no x v w h0 h1 h
/-- What the rows list gives the walks. -/
theorem lt_of_laid {W : World} {x0 x1 : String × DataW Unit} {rest : List (String × DataW Unit)} (h : laidMet Tryd.prog (x0 :: x1 :: ("internal/strconv.uint64pow10", Lib.tabData .u64 Lib.pow10Tab) :: ("loop.example/g00010/impl.widths", Lib.tabData .i64 [1, 8, 16, 32, 64]) :: rest) W) : Lt W :=
  ⟨wid_of_laid h.tail.tail.tail, Lib.tabIs_of_head gTab (by kernel_rfl) Tryd.underlying104 Tryd.underlying26 (by kernel_rfl) (by kernel_rfl) h.tail.tail⟩
theorem pow10_laid : Rows.laid_internal_strconv_uint64pow10 (H := Unit) = Lib.tabData .u64 Lib.pow10Tab := by
  simp only [Rows.laid_internal_strconv_uint64pow10, Lib.tabData, Lib.pow10Tab]
  rfl
end Go.Proofs.YtikecpcgcccmoaaDoor
