/- Texts of one claim. -/
import Derived.Test.YtgdcgjlmkmdklaaGreatDoorPk41
import Derived.Stop.LaidErr
import Derived.Test.YtgdcgjlmkmdklaaGreatDoorPk4
import Derived.Test.YtgdcgjlmkmdklaaGreatDoorPk9
import Derived.Test.YtgdcgjlmkmdklaaGreatDoorPk10
import Derived.Test.YtgdcgjlmkmdklaaGreatDoorPk0
namespace Go.Proofs.YtgdcgjlmkmdklaaGreatDoor
open Go.ChangeShapes Go.WideShapes Go.ChangeAt Go.RowKit
open Go.Lib
set_option linter.unusedVariables false
set_option linter.unusedSimpArgs false
structure Lt (w : World) : Prop where
 wid : Wid w
 tab : Lib.TabIs Tryz.prog w "internal/strconv.uint64pow10" .u64 Lib.pow10Tab
theorem gTab : Tryz.prog.globalNamed "internal/strconv.uint64pow10" = some 2 := by kernel_rfl
theorem var_kept {w w' : World} {g : Nat} {n : String} {cs : Array Value} (hg : Tryz.prog.globalNamed n = some g) (h : w.var? Tryz.prog n = some cs) (hb : Below w.heap.size w w') : w'.var? Tryz.prog n = some cs := by
 unfold World.var? at h ⊢
 rw [hg] at h ⊢
 simp only [Option.bind_some] at h ⊢
 have hlt : g < w.heap.size := by
  rcases Nat.lt_or_ge g w.heap.size with h' | h'
  ·exact h'
  ·rw [Array.getElem?_eq_none h'] at h; cases h
 rw [hb.block g hlt]
 exact h
theorem Lt.below {w w' : World} (h : Lt w) (hb : Below w.heap.size w w') : Lt w' :=
 ⟨h.wid.below hb, var_kept gTab h.tab hb⟩
set_option maxRecDepth 100000 in
set_option maxHeartbeats 2000000 in
theorem fmtI_no (x v : Int) (w : World) (hw : Wid w) (h0 : 0 ≤ v) (h1 : v ≤ 18446744073709551615) (h : isW x v = false) :
  Calls Tryz.prog 147 #[.int .i64 x, .int .u64 v] w fun e w' => e = .returned (.string ⟨#[]⟩) ∧ Below w.heap.size w w' := by
 have H : Hid (isW x v = false) := h
 clear h
 go_enter Tryz.func147, Tryz.ntmps147
 go_wp2_with (go_at_call 155; refine (isWord_no _ _ _ hw h0 h1 H.out).mono ?_; rintro e w' ⟨rfl, rfl⟩)
 go_ret
 exact ⟨rfl, Below.refl _ _⟩
theorem small_at (v : Int) (w : World) (h0 : 0 ≤ v) (h1 : v < 100) :
  Calls Tryz.prog 160 #[.int .i64 v] w fun e w' => e = .returned (.string ⟨(decDigits v.toNat).toArray⟩) ∧ w' = w := by
 obtain ⟨n, rfl⟩ := Int.eq_ofNat_of_zero_le h0
 exact Tryz.internal_strconv_small n (by omega) w
set_option maxRecDepth 100000 in
set_option maxHeartbeats 2000000 in
theorem fu_in (v : Int) (w : World) (h0 : 0 ≤ v) (h1 : v < 100) :
  Calls Tryz.prog 170 #[.int .u64 v, .int .i64 10] w fun e w' => e = .returned (.string ⟨(decDigits v.toNat).toArray⟩) ∧ w' = w := by
 go_enter Tryz.func170, Tryz.ntmps170
 go_wp2_with (go_at_call 160; refine (small_at _ _ h0 h1).mono ?_; rintro e w' ⟨rfl, rfl⟩)
 go_ret
 exact ⟨rfl, rfl⟩
set_option maxRecDepth 100000 in
set_option maxHeartbeats 2000000 in
theorem fu_out (v : Int) (w : World) (h0 : 0 ≤ v) (h1 : v < 100) :
  Calls Tryz.prog 158 #[.int .u64 v, .int .i64 10] w fun e w' => e = .returned (.string ⟨(decDigits v.toNat).toArray⟩) ∧ w' = w := by
 go_enter Tryz.func158, Tryz.ntmps158
 go_wp2_with (go_at_call 170; refine (fu_in _ _ h0 h1).mono ?_; rintro e w' ⟨rfl, rfl⟩)
 go_ret
 exact ⟨rfl, rfl⟩
set_option maxRecDepth 100000 in
set_option maxHeartbeats 2000000 in
theorem fmtI_one (v : Int) (w : World) (hw : Wid w) (h : isW 1 v = true) :
  Calls Tryz.prog 147 #[.int .i64 1, .int .u64 v] w fun e w' => e = .returned (.string ⟨(itoa (numW 1 v)).toArray⟩) ∧ Below w.heap.size w w' := by
 have H : Hid (isW 1 v = true) := h
 have bd := isW_bd h
 simp at bd
 have v1 : v < 100 := by omega
 have b1 : v ≤ 18446744073709551615 := by omega
 have b0 := bd.1
 have E : Hid (itoa (numW 1 v) = decDigits v.toNat) := show itoa (numW 1 v) = decDigits v.toNat by unfold numW itoa; rw [if_pos rfl, if_neg (by omega)]
 clear h bd
 go_enter Tryz.func147, Tryz.ntmps147
 go_wp2_with (first | (go_at_call 155; refine (isWord_yes _ _ _ hw b0 b1 H.out).mono ?_; rintro e w' ⟨rfl, rfl⟩) | (go_at_call 158; refine (fu_out _ _ b0 v1).mono ?_; rintro e w' ⟨rfl, rfl⟩))
 go_ret
 exact ⟨by rw [E.out]; rfl, Below.refl _ _⟩
set_option maxRecDepth 100000 in
set_option maxHeartbeats 2000000 in
theorem fmtI_big (x v : Int) (w : World) (hL : Lt w) (hx : ¬ x = 1) (h : isW x v = true) :
  Calls Tryz.prog 147 #[.int .i64 x, .int .u64 v] w fun e w' => e = .returned (.string ⟨(itoa (numW x v)).toArray⟩) ∧ Below w.heap.size w w' := by
 have H : Hid (isW x v = true) := h
 have bd := word_u64 h
 have sb := sgnF_bd h
 have hw := hL.wid
 have n1 : (x == 1) = false := beq_eq_false_iff_ne.2 hx
 have E : Hid (numW x v = sgnI x v) := show numW x v = sgnI x v by unfold numW; rw [if_neg hx]
 have HT : Hid (Lib.TabIs Tryz.prog w "internal/strconv.uint64pow10" .u64 Lib.pow10Tab) := hL.tab
 clear h hx hL
 go_enter Tryz.func147, Tryz.ntmps147
 go_wp2_with (first | (go_at_call 155; refine (isWord_yes _ _ _ hw bd.1 bd.2 H.out).mono ?_; rintro e w' ⟨rfl, rfl⟩) | (go_at_call 159; refine (signed_impl _ _ _ hw bd.1 bd.2 H.out).mono ?_; rintro e w' ⟨rfl, rfl⟩) | (go_at_call 125; refine (Tryz.strconv_FormatInt_10 _ sb.1 sb.2 _ HT.out).mono ?_; rintro e w' ⟨rfl, k, os, rfl⟩))
 go_ret
 exact ⟨by rw [E.out]; rfl, below_grow _ _ _⟩
theorem fmtI_yes (x v : Int) (w : World) (hL : Lt w) (h : isW x v = true) :
  Calls Tryz.prog 147 #[.int .i64 x, .int .u64 v] w fun e w' => e = .returned (.string ⟨(itoa (numW x v)).toArray⟩) ∧ Below w.heap.size w w' := by
 by_cases hx : x = 1
 ·subst hx; exact fmtI_one v w hL.wid h
 ·exact fmtI_big x v w hL hx h
def fmtW (x v : Int) : List UInt8 := if isW x v then itoa (numW x v) else []
theorem fmtI_any (x v : Int) (w : World) (hL : Lt w) (h0 : 0 ≤ v) (h1 : v ≤ 18446744073709551615) :
  Calls Tryz.prog 147 #[.int .i64 x, .int .u64 v] w fun e w' => e = .returned (.string ⟨(fmtW x v).toArray⟩) ∧ Below w.heap.size w w' := by
 unfold fmtW
 cases h : isW x v with
 | true => exact fmtI_yes x v w hL h
 | false => exact fmtI_no x v w hL.wid h0 h1 h
theorem fmtS_any (x v : Int) (w : World) (h0 : 0 ≤ v) (h1 : v ≤ 18446744073709551615) :
  Calls Tryz.prog 145 #[.int .i64 x, .int .u64 v] w fun e w' => e = .returned (.string ⟨(fmtW x v).toArray⟩) ∧ Below w.heap.size w w' := by
 unfold fmtW
 cases h : isW x v with
 | true => exact fmtS_yes x v w h
 | false => exact fmtS_no x v w h0 h1 h
theorem lt_of_laid {W : World} {x0 x1 : String × DataW Unit} {rest : List (String × DataW Unit)} (h : laidMet Tryz.prog (x0 :: x1 :: ("internal/strconv.uint64pow10", Lib.tabData .u64 Lib.pow10Tab) :: ("loop.example/g00010/impl.widths", Lib.tabData .i64 [1, 8, 16, 32, 64]) :: rest) W) : Lt W :=
 ⟨wid_of_laid h.tail.tail.tail, Lib.tabIs_of_head gTab (by kernel_rfl) Tryz.underlying227 Tryz.underlying119 (by kernel_rfl) (by kernel_rfl) h.tail.tail⟩
theorem pow10_laid : Rows.laid_internal_strconv_uint64pow10 (H := Unit) = Lib.tabData .u64 Lib.pow10Tab := by
 simp only [Rows.laid_internal_strconv_uint64pow10, Lib.tabData, Lib.pow10Tab]
 rfl
end Go.Proofs.YtgdcgjlmkmdklaaGreatDoor

namespace Go.Proofs.YtgdcgjlmkmdklaaGreatDoor
open Go.ChangeShapes Go.WideShapes Go.ChangeAt Go.RowKit
open Go.Lib
set_option linter.unusedVariables false
set_option linter.unusedSimpArgs false
theorem itoa_len (n : Int) (h0 : -9223372036854775808 ≤ n) (h1 : n ≤ 9223372036854775807) : (itoa n).length ≤ 100 := by
 unfold itoa
 split
 ·have := nDigits_le20 n.natAbs (by omega)
  rw [List.length_cons, decDigits_length]; omega
 ·have := nDigits_le20 n.toNat (by omega)
  rw [decDigits_length]; omega
set_option maxRecDepth 100000 in
set_option maxHeartbeats 2000000 in
theorem l3I (n : Int) (w : World) (h0 : -9223372036854775808 ≤ n) (h1 : n ≤ 9223372036854775807) :
  Calls Tryz.prog 37 #[.int .i64 n] w fun e w' => e = .returned (.string ⟨(itoa n).toArray⟩) ∧ Below w.heap.size w w' := by
 by_cases hn : n < 0
 ·have E : Hid (itoa n = 45 :: decDigits (-n).toNat) := show itoa n = 45 :: decDigits (-n).toNat by unfold itoa; rw [if_pos hn, show n.natAbs = (-n).toNat by omega]
  have L : (decDigits (-n).toNat).length ≤ 100 := by
   rw [decDigits_length]
   have := nDigits_le20 (-n).toNat (by omega)
   omega
  go_enter Tryz.func37, Tryz.ntmps37
  go_wp2_with (first | (go_at_call 76; refine (sizeF _ _ h0 hn).mono ?_; rintro e w' ⟨rfl, rfl⟩) | (go_at_call 75; refine (dec_spec _ _ (by omega) (by omega)).mono ?_; rintro e w1 ⟨rfl, hb1⟩))
  go_wp2_with fail
  go_ret
  exact ⟨by rw [E.out, ba_cons]; rfl, hb1⟩
 ·have E : Hid (itoa n = decDigits n.toNat) := show itoa n = decDigits n.toNat by unfold itoa; rw [if_neg hn]
  have hn2 : 0 ≤ n := by omega
  have hw : IntKind.u64.wrap n = n := by rw [IntKind.wrap_u64]; omega
  have D := Kp.mk (dec_spec n w hn2 (by omega))
  clear hn
  go_enter Tryz.func37, Tryz.ntmps37
  go_wp2_with fail
  refine (by first | exact D.out | (simp only [hw]; exact D.out) : Calls Tryz.prog 75 #[.int .u64 _] w _).mono ?_
  rintro e w1 ⟨rfl, hb1⟩
  go_wp2_with fail
  go_ret
  exact ⟨by rw [E.out]; rfl, hb1⟩
set_option maxRecDepth 100000 in
set_option maxHeartbeats 2000000 in
theorem decI (n : Int) (w : World) (hL : Lt w) (h0 : -9223372036854775808 ≤ n) (h1 : n ≤ 9223372036854775807) :
  Calls Tryz.prog 70 #[.int .i64 n] w fun e w' => e = .returned (.string ⟨(itoa n).toArray⟩) ∧ Below w.heap.size w w' := by
 have HT : Hid (Lib.TabIs Tryz.prog w "internal/strconv.uint64pow10" .u64 Lib.pow10Tab) := hL.tab
 clear hL
 go_enter Tryz.func70, Tryz.ntmps70
 go_wp2_with (go_at_call 125; refine (Tryz.strconv_FormatInt_10 _ h0 h1 _ HT.out).mono ?_; rintro e w' ⟨rfl, k, os, rfl⟩)
 go_ret
 exact ⟨rfl, below_grow _ _ _⟩
def txO (gs : List GlD) (q : OpD) : ByteArray :=
 if q.k = 1 then ⟨(fmtW q.t q.w).toArray⟩
 else if q.k = 2 then ⟨#[110, 117, 108, 108]⟩
 else if q.k = 3 then ⟨#[112, 111, 105, 115, 111, 110]⟩
 else if q.k = 4 then ⟨(37 :: itoa q.i).toArray⟩
 else if q.k = 5 then (if h : 0 ≤ q.i ∧ q.i.toNat < gs.length then (⟨#[64]⟩ : ByteArray) ++ (gs[q.i.toNat]'h.2).name else ⟨#[]⟩)
 else ⟨#[]⟩
end Go.Proofs.YtgdcgjlmkmdklaaGreatDoor

namespace Go.Proofs.YtgdcgjlmkmdklaaGreatDoor
open Go.ChangeShapes Go.WideShapes Go.ChangeAt Go.RowKit
open Go.Lib
set_option linter.unusedVariables false
set_option linter.unusedSimpArgs false
set_option maxRecDepth 100000 in
set_option maxHeartbeats 2000000 in
theorem fmtOS (gs : List GlD) (fs : List FnD) (vg vf : Value) (q : OpD) (w : World) {lo : Nat} (h : MoAt lo w gs fs vg vf) (hb : OpB q) (hn : moN gs fs ≤ 1048576) :
  Calls Tryz.prog 144 #[moV vg vf, .agg #[.int .i64 q.k, .int .i64 q.t, .int .i64 q.i, .int .u64 q.w]] w fun e w' => e = .returned (.string (txO gs q)) ∧ Below w.heap.size w w' := by
 unfold moN at hn
 have g0 := glsN_nn gs
 have f0 := fnsN_nn fs
 have n1 : (gs.length : Int) ≤ 1048576 := by omega
 have n2 : glsN gs ≤ 1048576 := by omega
 obtain ⟨k, t, i, x⟩ := q
 obtain ⟨i0, i1, w0, w1⟩ := hb
 obtain ⟨a2, k2, rfl⟩ := h.f.shape
 obtain ⟨b, o, ⟨⟨a, cap, rfl, h1, h2⟩, h3⟩, -, hc⟩ := h.g.ex
 have HG := Kp.mk (glsN_of gs).1
 dsimp only at i0 i1 w0 w1 ⊢
 clear hn g0 f0 h
 replace hc := Kp.mk hc
 replace h2 := Kp.mk h2
 unfold txO
 dsimp only
 obtain ⟨W0, hW⟩ : ∃ W0, W0 = (w.alloc (Go.Obj.cells #[.slice a gs.length cap, .slice a2 fs.length k2] 33)).alloc (Go.Obj.cells #[.int .i64 k, .int .i64 t, .int .i64 i, .int .u64 x] 135) := ⟨_, rfl⟩
 obtain ⟨B0, hx, hy⟩ := two w _ _ _ _ hW
 have m0 : At W0 w.heap.size 0 (.slice a gs.length cap) := hx 0 _ rfl
 have p0 : At W0 (w.heap.size + 1) 0 (.int .i64 k) := hy 0 _ rfl
 have p1 : At W0 (w.heap.size + 1) 1 (.int .i64 t) := hy 1 _ rfl
 have p2 : At W0 (w.heap.size + 1) 2 (.int .i64 i) := hy 2 _ rfl
 have p3 : At W0 (w.heap.size + 1) 3 (.int .u64 x) := hy 3 _ rfl
 clear hx hy
 replace hW := Kp.mk hW
 by_cases e1 : k = 1
 ·subst e1
  rw [if_pos rfl]
  have C := Kp.mk (fmtS_any t x W0 w0 w1)
  clear hc h2 HG
  go_enter Tryz.func144, Tryz.ntmps144
  exact tl66
 by_cases e2 : k = 2
 ·subst e2
  rw [if_neg (by decide), if_pos rfl]
  exact tl156
 by_cases e3 : k = 3
 ·subst e3
  rw [if_neg (by decide), if_neg (by decide), if_pos rfl]
  exact tl156
 by_cases e4 : k = 4
 ·subst e4
  rw [if_neg (by decide), if_neg (by decide), if_neg (by decide), if_pos rfl]
  have C := Kp.mk (l3I i W0 i0 i1)
  have L := itoa_len i i0 i1
  clear hc h2 HG
  go_enter Tryz.func144, Tryz.ntmps144
  exact tl91
 by_cases e5 : k = 5
 ·subst e5
  rw [if_neg (by decide), if_neg (by decide), if_neg (by decide), if_neg (by decide), if_pos rfl]
  by_cases hin : 0 ≤ i ∧ i.toNat < gs.length
  ·rw [dif_pos hin]
   obtain ⟨j, rfl⟩ : ∃ j : Nat, i = j := ⟨i.toNat, by omega⟩
   have hlt : j < gs.length := by omega
   obtain ⟨d, hd⟩ : ∃ d, gs[j] = d := ⟨_, rfl⟩
   have hd2 : gs[((j : Int)).toNat]'hin.2 = d := by simpa using hd
   rw [hd2]
   obtain rfl := h2.out (by omega)
   obtain ⟨vb, Q⟩ := hc.out j hlt
   have hnn := HG.out j hlt
   rw [hd] at Q hnn
   have c0 := (Q.keep B0).c0
   have hns : d.name.size ≤ 1048576 := by unfold glN at hnn; omega
   have B1 := B0
   rw [hW.out] at B1 c0
   clear hc h2 HG Q hnn hd hd2 hin m0 p0 p1 p2 p3 hW B0
   exact tl61
  ·rw [dif_neg hin]
   have B1 := B0
   rw [hW.out] at B1
   clear hc h2 HG m0 p0 p1 p2 p3 hW B0
   by_cases hi : i < 0
   ·exact tl61
   ·have hi2 : (gs.length : Int) ≤ i := by omega
    have hi3 : 0 ≤ i := by omega
    clear hin hi
    exact tl61
 ·rw [if_neg e1, if_neg e2, if_neg e3, if_neg e4, if_neg e5]
  have b1 : (k == 1) = false := beq_eq_false_iff_ne.2 e1
  have b2 : (k == 2) = false := beq_eq_false_iff_ne.2 e2
  have b3 : (k == 3) = false := beq_eq_false_iff_ne.2 e3
  have b4 : (k == 4) = false := beq_eq_false_iff_ne.2 e4
  have b5 : (k == 5) = false := beq_eq_false_iff_ne.2 e5
  exact tl156
set_option maxRecDepth 100000 in
set_option maxHeartbeats 2000000 in
theorem fmtOI (gs : List GlD) (fs : List FnD) (vg vf : Value) (q : OpD) (w : World) {lo : Nat} (h : MoAt lo w gs fs vg vf) (hL : Lt w) (hb : OpB q) (hn : moN gs fs ≤ 1048576) :
  Calls Tryz.prog 146 #[moV vg vf, .agg #[.int .i64 q.k, .int .i64 q.t, .int .i64 q.i, .int .u64 q.w]] w fun e w' => e = .returned (.string (txO gs q)) ∧ Below w.heap.size w w' := by
 unfold moN at hn
 have g0 := glsN_nn gs
 have f0 := fnsN_nn fs
 have n1 : (gs.length : Int) ≤ 1048576 := by omega
 have n2 : glsN gs ≤ 1048576 := by omega
 obtain ⟨k, t, i, x⟩ := q
 obtain ⟨i0, i1, w0, w1⟩ := hb
 obtain ⟨a2, k2, rfl⟩ := h.f.shape
 obtain ⟨b, o, ⟨⟨a, cap, rfl, h1, h2⟩, h3⟩, -, hc⟩ := h.g.ex
 have HG := Kp.mk (glsN_of gs).1
 dsimp only at i0 i1 w0 w1 ⊢
 clear hn g0 f0 h
 replace hc := Kp.mk hc
 replace h2 := Kp.mk h2
 unfold txO
 dsimp only
 obtain ⟨W0, hW⟩ : ∃ W0, W0 = (w.alloc (Go.Obj.cells #[.slice a gs.length cap, .slice a2 fs.length k2] 33)).alloc (Go.Obj.cells #[.int .i64 k, .int .i64 t, .int .i64 i, .int .u64 x] 135) := ⟨_, rfl⟩
 obtain ⟨B0, hx, hy⟩ := two w _ _ _ _ hW
 have m0 : At W0 w.heap.size 0 (.slice a gs.length cap) := hx 0 _ rfl
 have p0 : At W0 (w.heap.size + 1) 0 (.int .i64 k) := hy 0 _ rfl
 have p1 : At W0 (w.heap.size + 1) 1 (.int .i64 t) := hy 1 _ rfl
 have p2 : At W0 (w.heap.size + 1) 2 (.int .i64 i) := hy 2 _ rfl
 have p3 : At W0 (w.heap.size + 1) 3 (.int .u64 x) := hy 3 _ rfl
 clear hx hy
 replace hW := Kp.mk hW
 have hL0 := Kp.mk (hL.below B0)
 clear hL
 by_cases e1 : k = 1
 ·subst e1
  rw [if_pos rfl]
  have C := Kp.mk (fmtI_any t x W0 hL0.out w0 w1)
  clear hc h2 HG
  go_enter Tryz.func146, Tryz.ntmps146
  exact tl66
 by_cases e2 : k = 2
 ·subst e2
  rw [if_neg (by decide), if_pos rfl]
  exact tl74
 by_cases e3 : k = 3
 ·subst e3
  rw [if_neg (by decide), if_neg (by decide), if_pos rfl]
  exact tl74
 by_cases e4 : k = 4
 ·subst e4
  rw [if_neg (by decide), if_neg (by decide), if_neg (by decide), if_pos rfl]
  have C := Kp.mk (decI i W0 hL0.out i0 i1)
  have L := itoa_len i i0 i1
  clear hc h2 HG
  go_enter Tryz.func146, Tryz.ntmps146
  exact tl91
 by_cases e5 : k = 5
 ·subst e5
  rw [if_neg (by decide), if_neg (by decide), if_neg (by decide), if_neg (by decide), if_pos rfl]
  by_cases hin : 0 ≤ i ∧ i.toNat < gs.length
  ·rw [dif_pos hin]
   obtain ⟨j, rfl⟩ : ∃ j : Nat, i = j := ⟨i.toNat, by omega⟩
   have hlt : j < gs.length := by omega
   obtain ⟨d, hd⟩ : ∃ d, gs[j] = d := ⟨_, rfl⟩
   have hd2 : gs[((j : Int)).toNat]'hin.2 = d := by simpa using hd
   rw [hd2]
   obtain rfl := h2.out (by omega)
   obtain ⟨vb, Q⟩ := hc.out j hlt
   have hnn := HG.out j hlt
   rw [hd] at Q hnn
   have c0 := (Q.keep B0).c0
   have hns : d.name.size ≤ 1048576 := by unfold glN at hnn; omega
   have C := isIx_c j gs.length W0 (by omega)
   rw [show isIx (j : Int) gs.length = true by unfold isIx; simp; omega] at C
   replace C := Kp.mk C
   clear hc h2 HG Q hnn hd hd2 hin
   go_enter Tryz.func146, Tryz.ntmps146
   go_wp2_with fail
   rw [← hW.out]
   clear hW
   go_wp2_with fail
   refine C.out.mono ?_
   rintro e w1 ⟨rfl, hb1⟩
   replace m0 := at_keep m0 hb1
   replace p2 := at_keep p2 hb1
   replace c0 := at_keep c0 hb1
   go_wp2_with fail
   go_ret
   exact ⟨rfl, bel_trans B0 hb1⟩
  ·rw [dif_neg hin]
   have C := isIx_c i gs.length W0 (by omega)
   rw [show isIx i gs.length = false by unfold isIx; simp; omega] at C
   replace C := Kp.mk C
   clear hc h2 HG
   go_enter Tryz.func146, Tryz.ntmps146
   exact tl66
 ·rw [if_neg e1, if_neg e2, if_neg e3, if_neg e4, if_neg e5]
  have b1 : (k == 1) = false := beq_eq_false_iff_ne.2 e1
  have b2 : (k == 2) = false := beq_eq_false_iff_ne.2 e2
  have b3 : (k == 3) = false := beq_eq_false_iff_ne.2 e3
  have b4 : (k == 4) = false := beq_eq_false_iff_ne.2 e4
  have b5 : (k == 5) = false := beq_eq_false_iff_ne.2 e5
  exact tl74
end Go.Proofs.YtgdcgjlmkmdklaaGreatDoor

namespace Go.Proofs.YtgdcgjlmkmdklaaGreatDoor
open Go.ChangeShapes Go.WideShapes Go.ChangeAt Go.RowKit
open Go.Lib
set_option linter.unusedVariables false
set_option linter.unusedSimpArgs false
theorem OwnT.low {w : World} {base b2 : Nat} {v : Value} {xs : List ByteArray} (h : OwnT w base v xs) (hb : b2 ≤ base) : OwnT w b2 v xs :=
 ⟨h.r.1, h.r.2.elim Or.inl (fun ⟨g, cap, cur, hv, hg, r⟩ => Or.inr ⟨g, cap, cur, hv, by omega, r⟩)⟩
def dTx (n : Int) : ByteArray := ⟨(itoa n).toArray⟩
abbrev inVal (x : InD) (va vb vw : Value) : Value := .agg #[.int .i64 x.op, .int .i64 x.ty, .int .i64 x.fl, .int .i64 x.pr, .int .i64 x.ca, .int .i64 x.sz, va, vb, vw]
abbrev inCel (x : InD) (va vb vw : Value) : Obj := Go.Obj.cells #[.int .i64 x.op, .int .i64 x.ty, .int .i64 x.fl, .int .i64 x.pr, .int .i64 x.ca, .int .i64 x.sz, va, vb, vw] 73
set_option maxRecDepth 100000 in
set_option maxHeartbeats 1000000 in
theorem targetsI (x : InD) (va vb vw : Value) (w : World) {lo : Nat} (h : Ints lo .i64 w vb x.bl) (hL : Lt w) (hb : ∀ n ∈ x.bl, -9223372036854775808 ≤ n ∧ n ≤ 9223372036854775807) (hn : x.bl.length ≤ 1048576) :
  Calls Tryz.prog 123 #[inVal x va vb vw] w fun e w' => ∃ v, e = .returned v ∧ OwnT w' w.heap.size v (x.bl.map dTx) ∧ Below w.heap.size w w' := by
 obtain ⟨i0, hi0, hz0, hz1, hz2⟩ := info_parts infoT
 obtain ⟨W0, hW⟩ : ∃ W0, W0 = w.alloc (inCel x va vb vw) := ⟨_, rfl⟩
 have B0 : Below w.heap.size w W0 := by rw [hW]; exact bel_alloc _ _
 have hs0 : W0.heap.size = w.heap.size + 1 := by rw [hW]; simp
 have hc : W0.heap[w.heap.size]? = some (inCel x va vb vw) := by rw [hW]; exact (MapKept.heap_alloc w _).1
 have c7 : At W0 w.heap.size 7 vb := at_cells hc rfl
 obtain ⟨b, o, ⟨⟨a, cap, rfl, s1, s2⟩, s3⟩, -, hq⟩ := (h.keep B0).ex
 have hDW : Kp (∀ W, Below W0.heap.size W0 W → ∀ i (hi : i < x.bl.length), Calls Tryz.prog 70 #[.int .i64 x.bl[i]] W fun e w' => e = .returned (.string (dTx x.bl[i])) ∧ Below W.heap.size W w') := ⟨fun W hB i hi => decI _ W ((hL.below B0).below hB) (hb _ (List.getElem_mem hi)).1 (hb _ (List.getElem_mem hi)).2⟩
 replace hq := Kp.mk hq
 replace s2 := Kp.mk s2
 replace hW := Kp.mk hW
 clear h hL hb hc
 go_enter Tryz.func123, Tryz.ntmps123
 go_upto_region 1 with fail
 rw [← hW.out]
 clear hW
 go_wp2_with fail
 go_loopw [3, 9] (fun s r wr => ∃ i : Nat, r = .int .i64 i ∧ i ≤ x.bl.length ∧ OwnT wr W0.heap.size s ((x.bl.take i).map dTx) ∧ W0.heap.size ≤ wr.heap.size ∧ Below W0.heap.size W0 wr) (fun _ r _ => x.bl.length - (RowKit.intOf r).toNat)
 case atStart => exact ⟨0, rfl, Nat.zero_le _, ⟨by simpa using World.ownsRow_nil _ _ _ _⟩, Nat.le_refl _, Below.refl _ _⟩
 case round =>
  obtain ⟨i, rfl, hi, hrow, hsz, hB⟩ := hrel
  by_cases hlt : i < x.bl.length
  ·obtain ⟨a3, c3, rfl⟩ := hrow.shape
   have hat := at_keep (hq.out i hlt) hB
   obtain rfl := s2.out (by omega)
   have D := Kp.mk (hDW.out wr hB i hlt)
   have ht : Kp (x.bl.take (i + 1) = x.bl.take i ++ [x.bl[i]]) := ⟨List.take_succ_eq_append_getElem hlt⟩
   have hrowK := Kp.mk hrow
   have hBK := Kp.mk hB
   have c72 := at_keep c7 hB
   have hlen : ((x.bl.take i).map dTx).length = i := by simp; omega
   clear hrow hB
   go_wp2_with (first
    | (go_at_call 70; refine D.out.mono ?_; rintro e w1 ⟨rfl, hb1⟩; have hrow1 := (hrowK.out.keep hb1).r; rw [hlen] at hrow1 ⊢; have hsz1 := hb1.size)
    | (at_builtin; refine wpList_append_vals _ rfl _ _ 122 rfl W0.heap.size 9 i0 (.string ⟨#[]⟩) 1 16 Tryz.underlying122 hi0 hz0 hz1 hz2 rfl (by decide) _ _ _ rfl (hrow1.alloc _) (some ⟨w1.heap.size, 0, none⟩) w1.heap.size 0 1 1 [.string (dTx x.bl[i])] rfl (fun _ => rfl) rfl (one_new w1 _ _) one_str (by unfold maxLen; omega) (by omega) (by simp; omega) ?_; intro v3 w3 hown3 hgrow3)
    | go_in)
   have hB1 := bel_trans hBK.out hb1
   have hsz2 : W0.heap.size ≤ w1.heap.size := by omega
   have hB4 := own_bel (hB1.alloc hsz2 _) (hrow1.alloc _) hgrow3 (by simp; omega)
   have hsz3 : W0.heap.size ≤ w3.heap.size := by have := hgrow3.size; simp at this; omega
   have hrow4 : OwnT w3 W0.heap.size v3 ((x.bl.take (i + 1)).map dTx) := by rw [ht.out, List.map_append]; exact ⟨by simpa [hlen, Nat.min_eq_left hi] using hown3⟩
   exact ⟨⟨i + 1, by go_num, by omega, hrow4, hsz3, hB4⟩, by simp [RowKit.intOf]; omega⟩
  ·obtain rfl : i = x.bl.length := by omega
   rw [List.take_length] at hrow
   exact tl59
abbrev wrVal (vs : List Value) (vg vf : Value) : Value := .agg ⟨vs ++ [vg, vf]⟩
set_option maxRecDepth 100000 in
set_option maxHeartbeats 1000000 in
theorem argsI (gs : List GlD) (fs : List FnD) (vg vf : Value) (vs : List Value) (x : InD) (va vb vw : Value) (w : World) {lo l2 : Nat} (hM : MoAt l2 w gs fs vg vf) (hV : Voc w vs) (h : Ops lo w va x.args) (hL : Lt w) (hb : ∀ q ∈ x.args, OpB q) (hn : x.args.length ≤ 1048576) (hm : moN gs fs ≤ 1048576) :
  Calls Tryz.prog 119 #[wrVal vs vg vf, inVal x va vb vw] w fun e w' => ∃ v, e = .returned v ∧ OwnT w' w.heap.size v (x.args.map (txO gs)) ∧ Below w.heap.size w w' := by
 obtain ⟨i0, hi0, hz0, hz1, hz2⟩ := info_parts infoT
 obtain ⟨a1, b1, a2, b2, a3, b3, a4, b4, a5, b5, rfl, -⟩ := hV.ex
 obtain ⟨W0, hW⟩ : ∃ W0, W0 = (w.alloc (Go.Obj.cells #[.map (some a1), .map (some b1), .map (some a2), .map (some b2), .map (some a3), .map (some b3), .map (some a4), .map (some b4), .map (some a5), .map (some b5), vg, vf] 68)).alloc (inCel x va vb vw) := ⟨_, rfl⟩
 obtain ⟨B0, hx, hy⟩ := two w _ _ _ _ hW
 have hs0 : W0.heap.size = w.heap.size + 2 := by rw [hW]; simp
 have p0 : At W0 w.heap.size 10 vg := hx 10 _ rfl
 have p1 : At W0 w.heap.size 11 vf := hx 11 _ rfl
 have c6 : At W0 (w.heap.size + 1) 6 va := hy 6 _ rfl
 obtain ⟨b, o, ⟨⟨a, cap, rfl, s1, s2⟩, s3⟩, -, hq⟩ := (h.keep B0).ex
 have hDW : Kp (∀ W, Below W0.heap.size W0 W → ∀ i (hi : i < x.args.length), Calls Tryz.prog 146 #[.agg #[vg, vf], .agg #[.int .i64 x.args[i].k, .int .i64 x.args[i].t, .int .i64 x.args[i].i, .int .u64 x.args[i].w]] W fun e w' => e = .returned (.string (txO gs x.args[i])) ∧ Below W.heap.size W w') := ⟨fun W hB i hi => fmtOI gs fs vg vf x.args[i] W ((hM.keep B0).keep hB) ((hL.below B0).below hB) (hb _ (List.getElem_mem hi)) hm⟩
 replace hq := Kp.mk hq
 replace s2 := Kp.mk s2
 replace hW := Kp.mk hW
 clear h hL hb hx hy hV hM
 go_enter Tryz.func119, Tryz.ntmps119
 go_upto_region 1 with fail
 rw [← hW.out]
 clear hW
 go_wp2_with fail
 go_loopw [5, 11] (fun s r wr => ∃ i : Nat, r = .int .i64 i ∧ i ≤ x.args.length ∧ OwnT wr W0.heap.size s ((x.args.take i).map (txO gs)) ∧ W0.heap.size ≤ wr.heap.size ∧ Below W0.heap.size W0 wr) (fun _ r _ => x.args.length - (RowKit.intOf r).toNat)
 case atStart => exact ⟨0, rfl, Nat.zero_le _, ⟨by simpa using World.ownsRow_nil _ _ _ _⟩, Nat.le_refl _, Below.refl _ _⟩
 case round =>
  obtain ⟨i, rfl, hi, hrow, hsz, hB⟩ := hrel
  by_cases hlt : i < x.args.length
  ·obtain ⟨ar, cr, rfl⟩ := hrow.shape
   have hop := (hq.out i hlt).keep hB
   obtain ⟨d0, d1, d2, d3⟩ := hop
   obtain rfl := s2.out (by omega)
   have ht : Kp (x.args.take (i + 1) = x.args.take i ++ [x.args[i]]) := ⟨List.take_succ_eq_append_getElem hlt⟩
   have hlen : ((x.args.take i).map (txO gs)).length = i := by simp; omega
   obtain ⟨q, hqe⟩ : ∃ q, x.args[i] = q := ⟨_, rfl⟩
   have DW : Kp (∀ W, Below W0.heap.size W0 W → Calls Tryz.prog 146 #[.agg #[vg, vf], .agg #[.int .i64 q.k, .int .i64 q.t, .int .i64 q.i, .int .u64 q.w]] W fun e w' => e = .returned (.string (txO gs q)) ∧ Below W.heap.size W w') := ⟨fun W hW => by rw [← hqe]; exact hDW.out W hW i hlt⟩
   rw [hqe] at d0 d1 d2 d3 ht
   obtain ⟨w3, hw3⟩ : ∃ w3, w3 = wr.alloc (Go.Obj.cells #[.int .i64 q.k, .int .i64 q.t, .int .i64 q.i, .int .u64 q.w] 135) := ⟨_, rfl⟩
   have b3 : Below wr.heap.size wr w3 := by rw [hw3]; exact bel_alloc _ _
   have hB3 := bel_trans hB b3
   have hx3 : w3.heap[wr.heap.size]? = some (Go.Obj.cells #[.int .i64 q.k, .int .i64 q.t, .int .i64 q.i, .int .u64 q.w] 135) := by rw [hw3]; exact (MapKept.heap_alloc wr _).1
   have e0 : At w3 wr.heap.size 0 _ := at_cells hx3 rfl
   have e1 : At w3 wr.heap.size 1 _ := at_cells hx3 rfl
   have e2 : At w3 wr.heap.size 2 _ := at_cells hx3 rfl
   have e3 : At w3 wr.heap.size 3 _ := at_cells hx3 rfl
   have P0 := at_keep p0 hB3
   have P1 := at_keep p1 hB3
   have D := Kp.mk (DW.out w3 hB3)
   have hrowK := Kp.mk (hrow.keep b3)
   have hBK := Kp.mk hB3
   have hs3 : w3.heap.size = wr.heap.size + 1 := by rw [hw3]; simp
   replace hw3 := Kp.mk hw3
   have c62 := at_keep c6 hB
   clear hrow hB hB3 hx3 hDW hqe
   go_upto_region 5 with fail
   rw [← hw3.out]
   clear hw3
   go_wp2_with (first
    | (go_at_call 146; refine D.out.mono ?_; rintro e w1 ⟨rfl, hb1⟩; have hrow1 := (hrowK.out.keep hb1).r; rw [hlen] at hrow1 ⊢; have hsz1 := hb1.size)
    | (at_builtin; refine wpList_append_vals _ rfl _ _ 122 rfl W0.heap.size 9 i0 (.string ⟨#[]⟩) 1 16 Tryz.underlying122 hi0 hz0 hz1 hz2 rfl (by decide) _ _ _ rfl (hrow1.alloc _) (some ⟨w1.heap.size, 0, none⟩) w1.heap.size 0 1 1 [.string (txO gs q)] rfl (fun _ => rfl) rfl (one_new w1 _ _) one_str (by unfold maxLen; omega) (by omega) (by simp; omega) ?_; intro v3 w4 hown3 hgrow3)
    | go_in)
   have hB1 := bel_trans hBK.out hb1
   have hsz2 : W0.heap.size ≤ w1.heap.size := by omega
   have hB4 := own_bel (hB1.alloc hsz2 _) (hrow1.alloc _) hgrow3 (by simp; omega)
   have hsz3 : W0.heap.size ≤ w4.heap.size := by have := hgrow3.size; simp at this; omega
   have hrow4 : OwnT w4 W0.heap.size v3 ((x.args.take (i + 1)).map (txO gs)) := by rw [ht.out, List.map_append]; exact ⟨by simpa [hlen, Nat.min_eq_left hi] using hown3⟩
   exact ⟨⟨i + 1, by go_num, by omega, hrow4, hsz3, hB4⟩, by simp [RowKit.intOf]; omega⟩
  ·obtain rfl : i = x.args.length := by omega
   rw [List.take_length] at hrow
   exact tl59
end Go.Proofs.YtgdcgjlmkmdklaaGreatDoor

namespace Go.Proofs.YtgdcgjlmkmdklaaGreatDoor
open Go.ChangeShapes Go.WideShapes Go.ChangeAt Go.RowKit
open Go.Lib
set_option linter.unusedVariables false
set_option linter.unusedSimpArgs false
def ftTx (x : InD) : ByteArray := match x.args with
 | [] => ⟨#[]⟩
 | q :: _ => nmOf typesL q.t
theorem Nmg.asks {w : World} {L : List (ByteArray × Int)} {b : Nat} (h : Nmg w L b) (vm : Value) (c : Int) (wc : (Lit.int .i64 c).wf = true) : Calls Tryz.prog 79 #[.agg #[vm, .map (some b)], .int .i64 c] w fun e w' => e = .returned (.string (nmOf L c)) ∧ Below w.heap.size w w' := by
 obtain ⟨n, D, h, hF⟩ := h.ex
 exact nameOf_c L b n D vm c wc w h hF
set_option maxRecDepth 100000 in
set_option maxHeartbeats 1000000 in
theorem firstTyI (vg vf : Value) (vs : List Value) (x : InD) (va vb vw : Value) (w : World) {lo : Nat} (hV : Voc w vs) (h : Ops lo w va x.args) (hb : ∀ q ∈ x.args, (Lit.int .i64 q.t).wf = true) (hn : x.args.length ≤ 1048576) :
  Calls Tryz.prog 120 #[wrVal vs vg vf, inVal x va vb vw] w fun e w' => e = .returned (.string (ftTx x)) ∧ Below w.heap.size w w' := by
 obtain ⟨a1, b1, a2, b2, a3, b3, a4, b4, a5, b5, rfl, N1, -⟩ := hV.ex
 obtain ⟨op, ty, fl, pr, ca, sz, args, bl, ws⟩ := x
 dsimp only at *
 obtain ⟨lb, b, o, n, a, cap, rfl, hnn, s1, s2, s3, hq⟩ : ∃ lb b o n a cap, va = .slice a n cap ∧ args.length = n ∧ n ≤ cap ∧ (0 < n → a = some ⟨b, o, none⟩) ∧ n ≤ 140737488355328 ∧ ∀ i (hi : i < args.length), OpAt w b (o + i * 4) args[i] := by
  obtain ⟨b, o, ⟨⟨a, cap, rfl, s1, s2⟩, s3⟩, -, hq⟩ := h.ex
  exact ⟨0, b, o, _, a, cap, rfl, rfl, s1, s2, s3, hq⟩
 show Calls Tryz.prog 120 #[.agg #[.map (some a1), .map (some b1), .map (some a2), .map (some b2), .map (some a3), .map (some b3), .map (some a4), .map (some b4), .map (some a5), .map (some b5), vg, vf], .agg #[.int .i64 op, .int .i64 ty, .int .i64 fl, .int .i64 pr, .int .i64 ca, .int .i64 sz, .slice a n cap, vb, vw]] w _
 obtain ⟨W0, hW⟩ : ∃ W0, W0 = (w.alloc (Go.Obj.cells #[.map (some a1), .map (some b1), .map (some a2), .map (some b2), .map (some a3), .map (some b3), .map (some a4), .map (some b4), .map (some a5), .map (some b5), vg, vf] 68)).alloc (Go.Obj.cells #[.int .i64 op, .int .i64 ty, .int .i64 fl, .int .i64 pr, .int .i64 ca, .int .i64 sz, .slice a n cap, vb, vw] 73) := ⟨_, rfl⟩
 obtain ⟨B0, hx, hy⟩ := two w _ _ _ _ hW
 have p0 : At W0 w.heap.size 0 (.map (some a1)) := hx 0 _ rfl
 have p1 : At W0 w.heap.size 1 (.map (some b1)) := hx 1 _ rfl
 have c6 : At W0 (w.heap.size + 1) 6 (.slice a n cap) := hy 6 _ rfl
 cases args with
 | nil =>
  have hr : ftTx ⟨op, ty, fl, pr, ca, sz, [], bl, ws⟩ = ⟨#[]⟩ := rfl
  rw [hr]
  obtain rfl : n = 0 := by simpa using hnn.symm
  replace hW := Kp.mk hW
  clear hq hx hy hV N1 hr h hb
  go_enter Tryz.func120, Tryz.ntmps120
  go_upto_region 1 with fail
  rw [← hW.out]
  clear hW
  go_wp2_with fail
  go_ret
  exact ⟨rfl, B0⟩
 | cons q r =>
  have hr : ftTx ⟨op, ty, fl, pr, ca, sz, q :: r, bl, ws⟩ = nmOf typesL q.t := rfl
  rw [hr]
  have n0 : 0 < n := by rw [← hnn]; simp
  obtain rfl := s2 n0
  have d1 := at_keep (hq 0 (by simp)).c1 B0
  have N1K := N1.keep B0
  have hqb := hb q (by simp)
  have e0 := cell_regrown p0
  have e1 := cell_regrown p1
  have e6 := cell_regrown c6
  have ed := cell_regrown d1
  have CQ : Kp (∀ d os, Calls Tryz.prog 79 _ (Go.Sort.grow (redrawn W0 d) os) _) := ⟨fun d os => Calls.regrown_of ((N1K.keep (below_regrown W0 d os)).asks (.map (some a1)) q.t hqb)⟩
  have hne : (((n : Int)) == 0) = false := beq_false_of_ne (by omega)
  replace hW := Kp.mk hW
  clear hq hx hy hV N1 hr h hb hnn N1K s2
  go_enter Tryz.func120, Tryz.ntmps120
  go_upto_region 1 with fail
  rw [← hW.out]
  clear hW
  go_upto_region 3 with fail
  refine wp_region_quiet_below (by kernel_rfl) (by kernel_rfl) ?_
  repeat (go_big_quiet_step (fail))
  go_big_quiet_step (exact CQ.out _ _)
  repeat (go_big_quiet_step (fail))
  refine wpQuiet_nil ?_
  intro _ hw'
  obtain ⟨⟨dq, osq⟩, hw''⟩ := hw'
  subst hw''
  have hq := below_regrown W0 dq osq
  go_wp2_with fail
  go_ret
  exact ⟨rfl, bel_trans B0 hq⟩
end Go.Proofs.YtgdcgjlmkmdklaaGreatDoor

namespace Go.Proofs.YtgdcgjlmkmdklaaGreatDoor
open Go.ChangeShapes Go.WideShapes Go.ChangeAt Go.RowKit
open Go.Lib
set_option linter.unusedVariables false
set_option linter.unusedSimpArgs false
structure FlO (w : World) : Prop where
 c0 : At w 0 0 (.int .i64 2)
 c1 : At w 0 1 (.int .i64 1)
 c2 : At w 0 2 (.int .i64 4)
theorem FlO.below {w w' : World} (h : FlO w) (hb : Below w.heap.size w w') : FlO w' := ⟨at_keep h.c0 hb, at_keep h.c1 hb, at_keep h.c2 hb⟩
theorem flo_of_laid {W : World} {rest : List (String × DataW Unit)} (h : laidMet Tryz.prog (("loop.example/g00010/impl.flagOrder", Lib.tabData .i64 [2, 1, 4]) :: rest) W) : FlO W := by
 have hg : Tryz.prog.globalNamed "loop.example/g00010/impl.flagOrder" = some 0 := by kernel_rfl
 have t := Lib.tabIs_of_head hg (by kernel_rfl) Tryz.underlying203 Tryz.underlying2 (by kernel_rfl) (by kernel_rfl) h
 exact ⟨t.cell hg 0 (by decide), t.cell hg 1 (by decide), t.cell hg 2 (by decide)⟩
def flL (fl : Int) (k : Nat) : List ByteArray := (([2, 1, 4] : List Int).take k).flatMap fun f => if bits BinOp.and IntKind.i64 fl f = 0 then [] else [nmOf flagsL f]
theorem flL_len (fl : Int) (k : Nat) (hk : k ≤ 3) : (flL fl k).length ≤ k := by
 by_cases h1 : bits BinOp.and IntKind.i64 fl 2 = 0 <;> by_cases h2 : bits BinOp.and IntKind.i64 fl 1 = 0 <;> by_cases h3 : bits BinOp.and IntKind.i64 fl 4 = 0 <;>
  rcases (show k = 0 ∨ k = 1 ∨ k = 2 ∨ k = 3 by omega) with rfl | rfl | rfl | rfl <;> simp [flL, h1, h2, h3]
theorem jn_small (fl : Int) : (jn (full (flL fl 3)) ⟨#[32]⟩).size ≤ 100 := by
 have q : ∀ a b c : Bool, (jn (full ((if a then [] else [nmOf flagsL 2]) ++ ((if b then [] else [nmOf flagsL 1]) ++ (if c then [] else [nmOf flagsL 4])))) ⟨#[32]⟩).size ≤ 100 := by decide +kernel
 have := q (decide (bits BinOp.and IntKind.i64 fl 2 = 0)) (decide (bits BinOp.and IntKind.i64 fl 1 = 0)) (decide (bits BinOp.and IntKind.i64 fl 4 = 0))
 simpa [flL] using this
set_option maxRecDepth 100000 in
set_option maxHeartbeats 1000000 in
theorem flagNamesI (vg vf : Value) (vs : List Value) (x : InD) (va vb vw : Value) (w : World) (hV : Voc w vs) (hF : FlO w) :
  Calls Tryz.prog 124 #[wrVal vs vg vf, inVal x va vb vw] w fun e w' => e = .returned (.string (jn (full (flL x.fl 3)) ⟨#[32]⟩)) ∧ Below w.heap.size w w' := by
 obtain ⟨i0, hi0, hz0, hz1, hz2⟩ := info_parts infoT
 obtain ⟨a1, b1, a2, b2, a3, b3, a4, b4, a5, b5, rfl, -, -, -, -, N5⟩ := hV.ex
 obtain ⟨op, ty, fl, pr, ca, sz, args, bl, ws⟩ := x
 dsimp only at *
 show Calls Tryz.prog 124 #[.agg #[.map (some a1), .map (some b1), .map (some a2), .map (some b2), .map (some a3), .map (some b3), .map (some a4), .map (some b4), .map (some a5), .map (some b5), vg, vf], .agg #[.int .i64 op, .int .i64 ty, .int .i64 fl, .int .i64 pr, .int .i64 ca, .int .i64 sz, va, vb, vw]] w _
 obtain ⟨W0, hW⟩ : ∃ W0, W0 = (w.alloc (Go.Obj.cells #[.map (some a1), .map (some b1), .map (some a2), .map (some b2), .map (some a3), .map (some b3), .map (some a4), .map (some b4), .map (some a5), .map (some b5), vg, vf] 68)).alloc (Go.Obj.cells #[.int .i64 op, .int .i64 ty, .int .i64 fl, .int .i64 pr, .int .i64 ca, .int .i64 sz, va, vb, vw] 73) := ⟨_, rfl⟩
 obtain ⟨B0, hx, hy⟩ := two w _ _ _ _ hW
 have p8 : At W0 w.heap.size 8 (.map (some a5)) := hx 8 _ rfl
 have p9 : At W0 w.heap.size 9 (.map (some b5)) := hx 9 _ rfl
 have c2 : At W0 (w.heap.size + 1) 2 (.int .i64 fl) := hy 2 _ rfl
 obtain ⟨f0, f1, f2⟩ := hF.below B0
 have NW : Kp (∀ W, Below W0.heap.size W0 W → ∀ c, (Lit.int .i64 c).wf = true → Calls Tryz.prog 79 #[.agg #[.map (some a5), .map (some b5)], .int .i64 c] W fun e w' => e = .returned (.string (nmOf flagsL c)) ∧ Below W.heap.size W w') := ⟨fun W hB c wc => ((N5.keep B0).keep hB).asks _ c wc⟩
 have i0' : ∀ w : World, (Instr.index 203 (.agg #[.int .i64 2, .int .i64 1, .int .i64 4]) (.int .i64 0)).run Tryz.prog w = .ok (.int .i64 2) w := fun _ => by kernel_rfl
 have i1' : ∀ w : World, (Instr.index 203 (.agg #[.int .i64 2, .int .i64 1, .int .i64 4]) (.int .i64 1)).run Tryz.prog w = .ok (.int .i64 1) w := fun _ => by kernel_rfl
 have i2' : ∀ w : World, (Instr.index 203 (.agg #[.int .i64 2, .int .i64 1, .int .i64 4]) (.int .i64 2)).run Tryz.prog w = .ok (.int .i64 4) w := fun _ => by kernel_rfl
 have hs0 : W0.heap.size = w.heap.size + 2 := by rw [hW]; simp
 replace hW := Kp.mk hW
 clear hx hy hV N5 hF
 go_enter Tryz.func124, Tryz.ntmps124
 go_upto_region 1 with fail
 rw [← hW.out]
 clear hW
 go_wp2_with fail
 go_loopw [5, 9] (fun s r wr => ∃ i : Nat, r = .int .i64 i ∧ i ≤ 3 ∧ OwnT wr W0.heap.size s (flL fl i) ∧ W0.heap.size ≤ wr.heap.size ∧ Below W0.heap.size W0 wr) (fun _ r _ => 3 - (RowKit.intOf r).toNat)
 case atStart => exact ⟨0, rfl, Nat.zero_le _, ⟨by simpa [flL] using World.ownsRow_nil _ _ _ _⟩, Nat.le_refl _, Below.refl _ _⟩
 case round =>
  obtain ⟨i, rfl, hi, hrow, hsz, hB⟩ := hrel
  by_cases hlt : i < 3
  ·obtain ⟨F, wF, hidx, hst⟩ : ∃ F : Int, (Lit.int .i64 F).wf = true ∧ (∀ w : World, (Instr.index 203 (.agg #[.int .i64 2, .int .i64 1, .int .i64 4]) (.int .i64 (i : Int))).run Tryz.prog w = .ok (.int .i64 F) w) ∧ flL fl (i + 1) = flL fl i ++ (if bits BinOp.and IntKind.i64 fl F = 0 then [] else [nmOf flagsL F]) := by
    rcases (show i = 0 ∨ i = 1 ∨ i = 2 by omega) with rfl | rfl | rfl
    ·exact ⟨2, by decide, i0', by simp [flL]⟩
    ·exact ⟨1, by decide, i1', by simp [flL]⟩
    ·exact ⟨4, by decide, i2', by simp [flL]⟩
   have hlen := flL_len fl i (by omega)
   clear i0' i1' i2'
   have c22 := at_keep c2 hB
   have hlt' : ((i : Int)) < 3 := by omega
   obtain ⟨ar, cr, rfl⟩ := hrow.shape
   by_cases e : bits BinOp.and IntKind.i64 fl F = 0
   ·rw [if_pos e, List.append_nil] at hst
    have hb : (bits BinOp.and IntKind.i64 fl F != 0) = false := by simp [e]
    rw [← hst] at hrow
    have hrowK := Kp.mk hrow
    have hBK := Kp.mk hB
    rw [hst] at hrowK
    clear hrow hB e
    go_wp2_with fail
    exact ⟨⟨i + 1, by go_num, by omega, by rw [hst]; exact hrowK.out, hsz, hBK.out⟩, by simp [RowKit.intOf]; omega⟩
   ·rw [if_neg e] at hst
    have hb : (bits BinOp.and IntKind.i64 fl F != 0) = true := by simp [e]
    have hrowK := Kp.mk hrow
    have hBK := Kp.mk hB
    have P8 := at_keep p8 hB
    have P9 := at_keep p9 hB
    have D := Kp.mk (NW.out wr hB F wF)
    obtain ⟨m, hm⟩ : ∃ m, (flL fl i).length = m := ⟨_, rfl⟩
    rw [hm] at hlen ⊢
    clear hrow hB e
    go_wp2_with (first
     | (go_at_call 79; refine D.out.mono ?_; rintro e w1 ⟨rfl, hb1⟩; have hrow1 := (hrowK.out.keep hb1).r; rw [hm] at hrow1; have hsz1 := hb1.size)
     | (at_builtin; refine wpList_append_vals _ rfl _ _ 122 rfl W0.heap.size 9 i0 (.string ⟨#[]⟩) 1 16 Tryz.underlying122 hi0 hz0 hz1 hz2 rfl (by decide) _ _ _ rfl (hrow1.alloc _) (some ⟨w1.heap.size, 0, none⟩) w1.heap.size 0 1 1 [.string (nmOf flagsL F)] rfl (fun _ => rfl) rfl (one_new w1 _ _) one_str (by unfold maxLen; omega) (by omega) (by simp; omega) ?_; intro v3 w4 hown3 hgrow3)
     | go_in)
    have hB1 := bel_trans hBK.out hb1
    have hsz2 : W0.heap.size ≤ w1.heap.size := by omega
    have hB4 := own_bel (hB1.alloc hsz2 _) (hrow1.alloc _) hgrow3 (by simp; omega)
    have hsz3 : W0.heap.size ≤ w4.heap.size := by have := hgrow3.size; simp at this; omega
    have hrow4 : OwnT w4 W0.heap.size v3 (flL fl (i + 1)) := by rw [hst]; exact ⟨by simpa [hm] using hown3⟩
    exact ⟨⟨i + 1, by go_num, by omega, hrow4, hsz3, hB4⟩, by simp [RowKit.intOf]; omega⟩
  ·obtain rfl : i = 3 := by omega
   have hl := flL_len fl 3 (by omega)
   have C := Kp.mk (spacedI _ _ wr hrow.read (by omega) (by have := jn_small fl; omega))
   obtain ⟨a3, c3, rfl⟩ := hrow.shape
   have hBK := Kp.mk hB
   clear hrow hB i0' i1' i2'
   go_wp2_with fail
   refine C.out.mono ?_
   rintro e w1 ⟨rfl, hb⟩
   go_wp2_with fail
   go_ret
   exact ⟨rfl, bel_trans B0 (bel_trans hBK.out hb)⟩
end Go.Proofs.YtgdcgjlmkmdklaaGreatDoor
