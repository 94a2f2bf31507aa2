/- Contracts over one translation: ParseWord of the specification, way by way. -/
import Derived.Test.YtmkhkgliipalaaaDoorFmt2
import Derived.Lib.ParseIntBTie
namespace Go.Proofs.YtmkhkgliipalaaaDoor
open Go.ChangeShapes Go.WideShapes Go.ChangeAt Go.RowKit
open Go.Lib hiding intOf
set_option linter.unusedVariables false
set_option linter.unusedSimpArgs false
theorem take_snoc (s : ByteArray) (k : Nat) (h : k < s.size) : s.data.toList.take (k + 1) = s.data.toList.take k ++ [s[k]] := by
  rw [List.take_succ_eq_append_getElem (by simpa using h)]; rfl
theorem addUp_snoc (s : ByteArray) (k : Nat) (h : k < s.size) : addUp 0 (s.data.toList.take (k + 1)) = if s[k].toNat = 45 then addUp 0 (s.data.toList.take k) else (addUp 0 (s.data.toList.take k) * 10 + (s[k].toNat : Int) - 48) % 18446744073709551616 := by
  rw [take_snoc s k h, addUp_append]; rfl
theorem step_wrap (v c : Int) : IntKind.u64.wrap (IntKind.u64.wrap (IntKind.u64.wrap (v * 10) + IntKind.u64.wrap c) - 48) = (v * 10 + c - 48) % 18446744073709551616 := by
  rw [IntKind.wrap_u64, IntKind.wrap_u64, IntKind.wrap_u64, IntKind.wrap_u64]; omega
theorem ret_num {b : Bool} {a c : Int} (h : a = c) : Ending.returned (.agg #[.bool b, .int .u64 a]) = .returned (.agg #[.bool b, .int .u64 c]) := by rw [h]
set_option maxRecDepth 100000 in
set_option maxHeartbeats 2000000 in
theorem prsS_w (x : Int) (s : ByteArray) (w : World) (hx : vw x = false) :
    Calls Tryd.prog 23 #[.int .i64 x, .string s] w fun e w' => e = .returned (.agg #[.bool false, .int .u64 0]) ∧ Below w.heap.size w w' := by
  have HX : Hid (vw x = false) := hx
  clear hx
  go_enter Tryd.func23, Tryd.ntmps23
  go_wp2_with (go_at_call 43; refine (validWidthS_no _ _ HX.out).mono ?_; rintro e w' ⟨rfl, rfl⟩)
  exact bodyPost_ret (v := .agg #[.bool false, .int .u64 0]) (by simp [results, Tryd.results23, go_sem]) rfl ⟨rfl, bel_alloc _ _⟩
set_option maxRecDepth 100000 in
set_option maxHeartbeats 2000000 in
theorem prsS_long (x : Int) (s : ByteArray) (w : World) (hx : vw x = true) (hs : 30 < s.size) :
    Calls Tryd.prog 23 #[.int .i64 x, .string s] w fun e w' => e = .returned (.agg #[.bool false, .int .u64 0]) ∧ Below w.heap.size w w' := by
  have HX : Hid (vw x = true) := hx
  clear hx
  go_enter Tryd.func23, Tryd.ntmps23
  go_wp2_with (go_at_call 43; refine (validWidthS_yes _ _ HX.out).mono ?_; rintro e w' ⟨rfl, rfl⟩)
  exact bodyPost_ret (v := .agg #[.bool false, .int .u64 0]) (by simp [results, Tryd.results23, go_sem]) rfl ⟨rfl, bel_alloc _ _⟩
set_option maxRecDepth 100000 in
set_option maxHeartbeats 2000000 in
theorem prsS_empty (x : Int) (w : World) (hx : vw x = true) :
    Calls Tryd.prog 23 #[.int .i64 x, .string ⟨#[]⟩] w fun e w' => e = .returned (.agg #[.bool false, .int .u64 0]) ∧ Below w.heap.size w w' := by
  have HX : Hid (vw x = true) := hx
  clear hx
  go_enter Tryd.func23, Tryd.ntmps23
  go_wp2_with (go_at_call 43; refine (validWidthS_yes _ _ HX.out).mono ?_; rintro e w' ⟨rfl, rfl⟩)
  go_loop [5, 6] (fun v i => v = .int .u64 0 ∧ i = .int .i64 0) (fun _ i => 0)
  case atStart => exact ⟨rfl, rfl⟩
  case round =>
    obtain ⟨rfl, rfl⟩ := hrel
    go_wp2_with (go_at_call 44; refine (cut_spec _ _ _ HX.out (by decide) (by decide)).mono ?_; rintro e w' ⟨rfl, rfl⟩)
    exact bodyPost_ret (v := .agg #[.bool false, .int .u64 0]) (by simp [results, Tryd.results23, go_sem]) rfl ⟨rfl, bel_alloc _ _⟩
/-- A result's own block, laid as a Bool and a word, is still so behind a call that makes new memory alone. -/
theorem own_num {w w1 : World} {n : TypeId} (h : Below (w.alloc (Obj.cells #[.bool false, .int .u64 0] n)).heap.size (w.alloc (Obj.cells #[.bool false, .int .u64 0] n)) w1) :
    w.heap.size < w1.heap.size ∧ w1.cell? ⟨w.heap.size, 0, none⟩ = some (.bool false) ∧ w1.cell? ⟨w.heap.size, 1, none⟩ = some (.int .u64 0) ∧ w1.frozen? ⟨w.heap.size, 0, none⟩ = false ∧ w1.frozen? ⟨w.heap.size, 1, none⟩ = false := by
  have hs := h.size
  simp [go_sem] at hs
  refine ⟨by omega, ?_, ?_, ?_, ?_⟩
  · rw [h.cell (p := ⟨w.heap.size, 0, none⟩) (by simp [go_sem])]; simp [go_sem]
  · rw [h.cell (p := ⟨w.heap.size, 1, none⟩) (by simp [go_sem])]; simp [go_sem]
  · rw [h.frozen (p := ⟨w.heap.size, 0, none⟩) (by simp [go_sem])]; simp [go_sem]
  · rw [h.frozen (p := ⟨w.heap.size, 1, none⟩) (by simp [go_sem])]; simp [go_sem]
/-- What a call of FormatWord answers. -/
def FmtC (f : Nat) (x c : Int) (t : Array UInt8) : Prop := ∀ w : World, Calls Tryd.prog f #[.int .i64 x, .int .u64 c] w fun e w' => e = .returned (.string ⟨t⟩) ∧ Below w.heap.size w w'
def CutC (f : Nat) (x v c : Int) : Prop := ∀ w : World, Calls Tryd.prog f #[.int .i64 x, .int .u64 v] w fun e w' => e = .returned (.int .u64 c) ∧ w' = w

set_option maxRecDepth 100000 in
set_option maxHeartbeats 2000000 in
theorem prsS_po (x : Int) (s : ByteArray) (c : Int) (t : Array UInt8) (w : World) (hx : vw x = true) (hs : s.size ≤ 30) (h1 : 0 < s.size) (hd : ((s[0].toNat : Int) == 45) = false) (hne : ¬ s.toList = []) (hie : s.toList.isEmpty = false)
    (hC : CutC 44 x (addUp 0 s.data.toList) c) (hF : FmtC 22 x c t) (hq : ((⟨t⟩ : ByteArray).toList == s.toList) = false) :
    Calls Tryd.prog 23 #[.int .i64 x, .string s] w fun e w' => e = .returned (.agg #[.bool false, .int .u64 0]) ∧ Below w.heap.size w w' := by
  have HX : Hid (vw x = true) := hx
  clear hx
  go_enter Tryd.func23, Tryd.ntmps23
  go_wp2_with (go_at_call 43; refine (validWidthS_yes _ _ HX.out).mono ?_; rintro e w' ⟨rfl, rfl⟩)
  go_loop [5, 6] (fun v i => ∃ k : Nat, k ≤ s.size ∧ i = .int .i64 k ∧ v = .int .u64 (addUp 0 (s.data.toList.take k))) (fun _ i => s.size - (intOf i).toNat)
  case atStart => exact ⟨0, Nat.zero_le _, rfl, rfl⟩
  case round =>
    obtain ⟨k, hk, rfl, rfl⟩ := hrel
    by_cases hlt : k < s.size
    · have HS : Hid (addUp 0 (s.data.toList.take (k + 1)) = if s[k].toNat = 45 then addUp 0 (s.data.toList.take k) else (addUp 0 (s.data.toList.take k) * 10 + (s[k].toNat : Int) - 48) % 18446744073709551616) := addUp_snoc s k hlt
      by_cases hc : s[k].toNat = 45
      · have HC : Hid (s[k].toNat = 45) := hc
        have hb : ((s[k].toNat : Int) == 45) = true := by rw [hc]; rfl
        clear hc
        go_wp2_with fail
        go_round
        case rel => exact ⟨k + 1, by omega, by go_num, by rw [HS.out, if_pos HC.out]⟩
        case measure => simp [intOf]; omega
      · have HC : Hid (¬ s[k].toNat = 45) := hc
        have hb : ((s[k].toNat : Int) == 45) = false := beq_eq_false_iff_ne.2 (by omega)
        clear hc
        go_wp2_with fail
        go_round
        case rel => exact ⟨k + 1, by omega, by go_num, by rw [HS.out, if_neg HC.out, ← step_wrap]⟩
        case measure => simp [intOf]; omega
    · obtain rfl : k = s.size := by omega
      have et : s.data.toList.take s.size = s.data.toList := List.take_of_length_le (by simp)
      rw [et]
      clear et
      go_wp2_with fail
      refine (hC _).mono ?_
      rintro e w' ⟨rfl, rfl⟩
      go_wp2_with fail
      refine (hF _).mono ?_
      rintro e w1 ⟨rfl, hb1⟩
      obtain ⟨z1, c0, c1, d0, d1⟩ := own_num hb1
      go_wp2_with fail
      exact bodyPost_ret (v := .agg #[.bool false, .int .u64 0]) (by simp [results, Tryd.results23, go_sem, c0, c1, z1]) rfl ⟨rfl, ((bel_trans (bel_alloc _ _) hb1).setCell (by simp) _).setCell (by simp) _⟩
set_option maxRecDepth 100000 in
set_option maxHeartbeats 2000000 in
theorem prsS_py (x : Int) (s : ByteArray) (c : Int) (t : Array UInt8) (w : World) (hx : vw x = true) (hs : s.size ≤ 30) (h1 : 0 < s.size) (hd : ((s[0].toNat : Int) == 45) = false) (hne : ¬ s.toList = []) (hie : s.toList.isEmpty = false)
    (hC : CutC 44 x (addUp 0 s.data.toList) c) (hF : FmtC 22 x c t) (hq : ((⟨t⟩ : ByteArray).toList == s.toList) = true) :
    Calls Tryd.prog 23 #[.int .i64 x, .string s] w fun e w' => e = .returned (.agg #[.bool true, .int .u64 c]) ∧ Below w.heap.size w w' := by
  have HX : Hid (vw x = true) := hx
  clear hx
  go_enter Tryd.func23, Tryd.ntmps23
  go_wp2_with (go_at_call 43; refine (validWidthS_yes _ _ HX.out).mono ?_; rintro e w' ⟨rfl, rfl⟩)
  go_loop [5, 6] (fun v i => ∃ k : Nat, k ≤ s.size ∧ i = .int .i64 k ∧ v = .int .u64 (addUp 0 (s.data.toList.take k))) (fun _ i => s.size - (intOf i).toNat)
  case atStart => exact ⟨0, Nat.zero_le _, rfl, rfl⟩
  case round =>
    obtain ⟨k, hk, rfl, rfl⟩ := hrel
    by_cases hlt : k < s.size
    · have HS : Hid (addUp 0 (s.data.toList.take (k + 1)) = if s[k].toNat = 45 then addUp 0 (s.data.toList.take k) else (addUp 0 (s.data.toList.take k) * 10 + (s[k].toNat : Int) - 48) % 18446744073709551616) := addUp_snoc s k hlt
      by_cases hc : s[k].toNat = 45
      · have HC : Hid (s[k].toNat = 45) := hc
        have hb : ((s[k].toNat : Int) == 45) = true := by rw [hc]; rfl
        clear hc
        go_wp2_with fail
        go_round
        case rel => exact ⟨k + 1, by omega, by go_num, by rw [HS.out, if_pos HC.out]⟩
        case measure => simp [intOf]; omega
      · have HC : Hid (¬ s[k].toNat = 45) := hc
        have hb : ((s[k].toNat : Int) == 45) = false := beq_eq_false_iff_ne.2 (by omega)
        clear hc
        go_wp2_with fail
        go_round
        case rel => exact ⟨k + 1, by omega, by go_num, by rw [HS.out, if_neg HC.out, ← step_wrap]⟩
        case measure => simp [intOf]; omega
    · obtain rfl : k = s.size := by omega
      have et : s.data.toList.take s.size = s.data.toList := List.take_of_length_le (by simp)
      rw [et]
      clear et
      go_wp2_with fail
      refine (hC _).mono ?_
      rintro e w' ⟨rfl, rfl⟩
      go_wp2_with fail
      refine (hF _).mono ?_
      rintro e w1 ⟨rfl, hb1⟩
      obtain ⟨z1, c0, c1, d0, d1⟩ := own_num hb1
      go_wp2_with fail
      exact bodyPost_ret (v := .agg #[.bool true, .int .u64 c]) (by simp [results, Tryd.results23, go_sem, c0, c1, z1]) rfl ⟨rfl, ((bel_trans (bel_alloc _ _) hb1).setCell (by simp) _).setCell (by simp) _⟩
set_option maxRecDepth 100000 in
set_option maxHeartbeats 2000000 in
theorem prsS_no (x : Int) (s : ByteArray) (c : Int) (t : Array UInt8) (w : World) (hx : vw x = true) (hs : s.size ≤ 30) (h1 : 0 < s.size) (hd : ((s[0].toNat : Int) == 45) = true) (hne : ¬ s.toList = []) (hie : s.toList.isEmpty = false)
    (hC : CutC 44 x (IntKind.u64.wrap (-(addUp 0 s.data.toList))) c) (hF : FmtC 22 x c t) (hq : ((⟨t⟩ : ByteArray).toList == s.toList) = false) :
    Calls Tryd.prog 23 #[.int .i64 x, .string s] w fun e w' => e = .returned (.agg #[.bool false, .int .u64 0]) ∧ Below w.heap.size w w' := by
  have HX : Hid (vw x = true) := hx
  clear hx
  go_enter Tryd.func23, Tryd.ntmps23
  go_wp2_with (go_at_call 43; refine (validWidthS_yes _ _ HX.out).mono ?_; rintro e w' ⟨rfl, rfl⟩)
  go_loop [5, 6] (fun v i => ∃ k : Nat, k ≤ s.size ∧ i = .int .i64 k ∧ v = .int .u64 (addUp 0 (s.data.toList.take k))) (fun _ i => s.size - (intOf i).toNat)
  case atStart => exact ⟨0, Nat.zero_le _, rfl, rfl⟩
  case round =>
    obtain ⟨k, hk, rfl, rfl⟩ := hrel
    by_cases hlt : k < s.size
    · have HS : Hid (addUp 0 (s.data.toList.take (k + 1)) = if s[k].toNat = 45 then addUp 0 (s.data.toList.take k) else (addUp 0 (s.data.toList.take k) * 10 + (s[k].toNat : Int) - 48) % 18446744073709551616) := addUp_snoc s k hlt
      by_cases hc : s[k].toNat = 45
      · have HC : Hid (s[k].toNat = 45) := hc
        have hb : ((s[k].toNat : Int) == 45) = true := by rw [hc]; rfl
        clear hc
        go_wp2_with fail
        go_round
        case rel => exact ⟨k + 1, by omega, by go_num, by rw [HS.out, if_pos HC.out]⟩
        case measure => simp [intOf]; omega
      · have HC : Hid (¬ s[k].toNat = 45) := hc
        have hb : ((s[k].toNat : Int) == 45) = false := beq_eq_false_iff_ne.2 (by omega)
        clear hc
        go_wp2_with fail
        go_round
        case rel => exact ⟨k + 1, by omega, by go_num, by rw [HS.out, if_neg HC.out, ← step_wrap]⟩
        case measure => simp [intOf]; omega
    · obtain rfl : k = s.size := by omega
      have et : s.data.toList.take s.size = s.data.toList := List.take_of_length_le (by simp)
      rw [et]
      clear et
      go_wp2_with fail
      refine (hC _).mono ?_
      rintro e w' ⟨rfl, rfl⟩
      go_wp2_with fail
      refine (hF _).mono ?_
      rintro e w1 ⟨rfl, hb1⟩
      obtain ⟨z1, c0, c1, d0, d1⟩ := own_num hb1
      go_wp2_with fail
      exact bodyPost_ret (v := .agg #[.bool false, .int .u64 0]) (by simp [results, Tryd.results23, go_sem, c0, c1, z1]) rfl ⟨rfl, ((bel_trans (bel_alloc _ _) hb1).setCell (by simp) _).setCell (by simp) _⟩
set_option maxRecDepth 100000 in
set_option maxHeartbeats 2000000 in
theorem prsS_ny (x : Int) (s : ByteArray) (c : Int) (t : Array UInt8) (w : World) (hx : vw x = true) (hs : s.size ≤ 30) (h1 : 0 < s.size) (hd : ((s[0].toNat : Int) == 45) = true) (hne : ¬ s.toList = []) (hie : s.toList.isEmpty = false)
    (hC : CutC 44 x (IntKind.u64.wrap (-(addUp 0 s.data.toList))) c) (hF : FmtC 22 x c t) (hq : ((⟨t⟩ : ByteArray).toList == s.toList) = true) :
    Calls Tryd.prog 23 #[.int .i64 x, .string s] w fun e w' => e = .returned (.agg #[.bool true, .int .u64 c]) ∧ Below w.heap.size w w' := by
  have HX : Hid (vw x = true) := hx
  clear hx
  go_enter Tryd.func23, Tryd.ntmps23
  go_wp2_with (go_at_call 43; refine (validWidthS_yes _ _ HX.out).mono ?_; rintro e w' ⟨rfl, rfl⟩)
  go_loop [5, 6] (fun v i => ∃ k : Nat, k ≤ s.size ∧ i = .int .i64 k ∧ v = .int .u64 (addUp 0 (s.data.toList.take k))) (fun _ i => s.size - (intOf i).toNat)
  case atStart => exact ⟨0, Nat.zero_le _, rfl, rfl⟩
  case round =>
    obtain ⟨k, hk, rfl, rfl⟩ := hrel
    by_cases hlt : k < s.size
    · have HS : Hid (addUp 0 (s.data.toList.take (k + 1)) = if s[k].toNat = 45 then addUp 0 (s.data.toList.take k) else (addUp 0 (s.data.toList.take k) * 10 + (s[k].toNat : Int) - 48) % 18446744073709551616) := addUp_snoc s k hlt
      by_cases hc : s[k].toNat = 45
      · have HC : Hid (s[k].toNat = 45) := hc
        have hb : ((s[k].toNat : Int) == 45) = true := by rw [hc]; rfl
        clear hc
        go_wp2_with fail
        go_round
        case rel => exact ⟨k + 1, by omega, by go_num, by rw [HS.out, if_pos HC.out]⟩
        case measure => simp [intOf]; omega
      · have HC : Hid (¬ s[k].toNat = 45) := hc
        have hb : ((s[k].toNat : Int) == 45) = false := beq_eq_false_iff_ne.2 (by omega)
        clear hc
        go_wp2_with fail
        go_round
        case rel => exact ⟨k + 1, by omega, by go_num, by rw [HS.out, if_neg HC.out, ← step_wrap]⟩
        case measure => simp [intOf]; omega
    · obtain rfl : k = s.size := by omega
      have et : s.data.toList.take s.size = s.data.toList := List.take_of_length_le (by simp)
      rw [et]
      clear et
      go_wp2_with fail
      refine (hC _).mono ?_
      rintro e w' ⟨rfl, rfl⟩
      go_wp2_with fail
      refine (hF _).mono ?_
      rintro e w1 ⟨rfl, hb1⟩
      obtain ⟨z1, c0, c1, d0, d1⟩ := own_num hb1
      go_wp2_with fail
      exact bodyPost_ret (v := .agg #[.bool true, .int .u64 c]) (by simp [results, Tryd.results23, go_sem, c0, c1, z1]) rfl ⟨rfl, ((bel_trans (bel_alloc _ _) hb1).setCell (by simp) _).setCell (by simp) _⟩
end Go.Proofs.YtmkhkgliipalaaaDoor
