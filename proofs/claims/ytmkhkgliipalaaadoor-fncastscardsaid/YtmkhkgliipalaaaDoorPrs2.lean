/- Contracts over one translation: ParseWord of the program; the law that compares it with its specification. -/
import Derived.Test.YtmkhkgliipalaaaDoorPrs
namespace Go.Proofs.YtmkhkgliipalaaaDoor
open Go.ChangeShapes Go.WideShapes Go.ChangeAt Go.RowKit
open Go.Lib hiding intOf
set_option linter.unusedVariables false
set_option linter.unusedSimpArgs false
/-- What ParseWord reads besides its arguments. -/
structure Lp (w : World) : Prop where
  lt : Lt w
  syn : ∃ tp p, w.var? Tryd.prog "strconv.ErrSyntax" = some #[.iface tp p]
  ran : ∃ tp p, w.var? Tryd.prog "strconv.ErrRange" = some #[.iface tp p]
theorem gSyn : Tryd.prog.globalNamed "strconv.ErrSyntax" = some 2 := by kernel_rfl
theorem gRan : Tryd.prog.globalNamed "strconv.ErrRange" = some 3 := by kernel_rfl
theorem Lp.below {w w' : World} (h : Lp w) (hb : Below w.heap.size w w') : Lp w' := by
  obtain ⟨lt, ⟨t1, p1, s1⟩, ⟨t2, p2, s2⟩⟩ := h
  exact ⟨lt.below hb, ⟨t1, p1, var_kept gSyn s1 hb⟩, ⟨t2, p2, var_kept gRan s2 hb⟩⟩
theorem bel_parse {w w' : World} (h : w' = w ∨ ∃ t, w' = Lib.bytesWorld w 5 t) : Below w.heap.size w w' := by
  rcases h with rfl | ⟨t, rfl⟩
  · exact Below.refl _ _
  · exact Lib.bytesWorld_below _ _ _
set_option maxRecDepth 100000 in
set_option maxHeartbeats 2000000 in
theorem prsI_syn (x : Int) (s : ByteArray) (w : World) (hL : Lp w) (hs : s.size ≤ 281474976710656) (h : Lib.parseIntB 64 s.data.toList = .«syntax») :
    Calls Tryd.prog 21 #[.int .i64 x, .string s] w fun e w' => e = .returned (.agg #[.bool false, .int .u64 0]) ∧ Below w.heap.size w w' := by
  have hL1 := hL.below (bel_alloc w (Obj.cells #[.bool false, .int .u64 0] 42))
  obtain ⟨tp, p, hv⟩ := hL1.syn
  have HV : Hid _ := hv
  have H : Hid (Lib.parseIntB 64 s.data.toList = .«syntax») := h
  clear h hL hL1 hv
  go_enter Tryd.func21, Tryd.ntmps21
  go_wp2_with fail
  refine (Tryd.strconv_ParseInt_10_at64_syntax_var s hs H.out tp p _ HV.out).mono ?_
  rintro e w1 ⟨n, rfl, _, _, hb1⟩
  obtain ⟨z1, c0, c1, d0, d1⟩ := own_num hb1
  go_wp2_with fail
  exact bodyPost_ret (v := .agg #[.bool false, .int .u64 0]) (by simp [results, Tryd.results21, go_sem, c0, c1, z1]) rfl ⟨rfl, ((bel_trans (bel_alloc _ _) hb1).setCell (by simp) _).setCell (by simp) _⟩
set_option maxRecDepth 100000 in
set_option maxHeartbeats 2000000 in
theorem prsI_ran (x : Int) (s : ByteArray) (w : World) (hL : Lp w) (hs : s.size ≤ 281474976710656) (h : Lib.parseIntB 64 s.data.toList = .range) :
    Calls Tryd.prog 21 #[.int .i64 x, .string s] w fun e w' => e = .returned (.agg #[.bool false, .int .u64 0]) ∧ Below w.heap.size w w' := by
  have hL1 := hL.below (bel_alloc w (Obj.cells #[.bool false, .int .u64 0] 42))
  obtain ⟨tp, p, hv⟩ := hL1.ran
  have HV : Hid _ := hv
  have H : Hid (Lib.parseIntB 64 s.data.toList = .range) := h
  clear h hL hL1 hv
  go_enter Tryd.func21, Tryd.ntmps21
  go_wp2_with fail
  refine (Tryd.strconv_ParseInt_10_at64_range_var s hs H.out tp p _ HV.out).mono ?_
  generalize Lib.intSat 64 s.data.toList = sat
  rintro e w1 ⟨n, rfl, _, _, hb1⟩
  obtain ⟨z1, c0, c1, d0, d1⟩ := own_num hb1
  go_wp2_with fail
  exact bodyPost_ret (v := .agg #[.bool false, .int .u64 0]) (by simp [results, Tryd.results21, go_sem, c0, c1, z1]) rfl ⟨rfl, ((bel_trans (bel_alloc _ _) hb1).setCell (by simp) _).setCell (by simp) _⟩
/-- What a call of FormatWord of the program answers where the table is laid. -/
def FmtL (f : Nat) (x c : Int) (t : Array UInt8) : Prop := ∀ w : World, Lt w → Calls Tryd.prog f #[.int .i64 x, .int .u64 c] w fun e w' => e = .returned (.string ⟨t⟩) ∧ Below w.heap.size w w'
def CutL (f : Nat) (x v c : Int) : Prop := ∀ w : World, Wid w → Calls Tryd.prog f #[.int .i64 x, .int .u64 v] w fun e w' => e = .returned (.int .u64 c) ∧ w' = w
set_option maxRecDepth 100000 in
set_option maxHeartbeats 2000000 in
theorem prsI_o (x : Int) (s : ByteArray) (n c : Int) (t : Array UInt8) (w : World) (hL : Lp w) (hs : s.size ≤ 281474976710656) (h : Lib.parseIntB 64 s.data.toList = .ok n)
    (hC : CutL 16 x (IntKind.u64.wrap n) c) (hF : FmtL 20 x c t) (hq : ((⟨t⟩ : ByteArray).toList == s.toList) = false) :
    Calls Tryd.prog 21 #[.int .i64 x, .string s] w fun e w' => e = .returned (.agg #[.bool false, .int .u64 0]) ∧ Below w.heap.size w w' := by
  have hL1 := hL.lt.below (bel_alloc w (Obj.cells #[.bool false, .int .u64 0] 42))
  have H : Hid (Lib.parseIntB 64 s.data.toList = .ok n) := h
  clear h hL
  go_enter Tryd.func21, Tryd.ntmps21
  go_wp2_with fail
  refine (Tryd.strconv_ParseInt_10_at64_ok s (by omega) n H.out _).mono ?_
  rintro e w1 ⟨rfl, hw1⟩
  have hb1 := bel_parse hw1
  clear hw1
  have hL2 := hL1.below hb1
  go_wp2_with fail
  refine (hC _ hL2.wid).mono ?_
  rintro e w' ⟨rfl, rfl⟩
  go_wp2_with fail
  refine (hF _ hL2).mono ?_
  rintro e w2 ⟨rfl, hb2⟩
  have hb3 := bel_trans hb1 hb2
  obtain ⟨z1, c0, c1, d0, d1⟩ := own_num hb3
  go_wp2_with fail
  exact bodyPost_ret (v := .agg #[.bool false, .int .u64 0]) (by simp [results, Tryd.results21, go_sem, c0, c1, z1]) rfl ⟨rfl, ((bel_trans (bel_alloc _ _) hb3).setCell (by simp) _).setCell (by simp) _⟩
set_option maxRecDepth 100000 in
set_option maxHeartbeats 2000000 in
theorem prsI_y (x : Int) (s : ByteArray) (n c : Int) (t : Array UInt8) (w : World) (hL : Lp w) (hs : s.size ≤ 281474976710656) (h : Lib.parseIntB 64 s.data.toList = .ok n)
    (hC : CutL 16 x (IntKind.u64.wrap n) c) (hF : FmtL 20 x c t) (hq : ((⟨t⟩ : ByteArray).toList == s.toList) = true) :
    Calls Tryd.prog 21 #[.int .i64 x, .string s] w fun e w' => e = .returned (.agg #[.bool true, .int .u64 c]) ∧ Below w.heap.size w w' := by
  have hL1 := hL.lt.below (bel_alloc w (Obj.cells #[.bool false, .int .u64 0] 42))
  have H : Hid (Lib.parseIntB 64 s.data.toList = .ok n) := h
  clear h hL
  go_enter Tryd.func21, Tryd.ntmps21
  go_wp2_with fail
  refine (Tryd.strconv_ParseInt_10_at64_ok s (by omega) n H.out _).mono ?_
  rintro e w1 ⟨rfl, hw1⟩
  have hb1 := bel_parse hw1
  clear hw1
  have hL2 := hL1.below hb1
  go_wp2_with fail
  refine (hC _ hL2.wid).mono ?_
  rintro e w' ⟨rfl, rfl⟩
  go_wp2_with fail
  refine (hF _ hL2).mono ?_
  rintro e w2 ⟨rfl, hb2⟩
  have hb3 := bel_trans hb1 hb2
  obtain ⟨z1, c0, c1, d0, d1⟩ := own_num hb3
  go_wp2_with fail
  exact bodyPost_ret (v := .agg #[.bool true, .int .u64 c]) (by simp [results, Tryd.results21, go_sem, c0, c1, z1]) rfl ⟨rfl, ((bel_trans (bel_alloc _ _) hb3).setCell (by simp) _).setCell (by simp) _⟩
end Go.Proofs.YtmkhkgliipalaaaDoor
