/- Contracts over one translation: the specification's decimal numeral, and FormatWord of the program and of its specification. -/
import Derived.Test.YtikecpcgcccmoaaDoorWords2
import Derived.Test.YtikecpcgcccmoaaDoorDec
import Derived.Test.YtikecpcgcccmoaaDoorShelf
import Derived.Deep.RegionWith
import Derived.Lib.AtoiErrMem
namespace Go.Proofs.YtikecpcgcccmoaaDoor
open Go.ChangeShapes Go.WideShapes Go.ChangeAt Go.RowKit
open Go.Lib
set_option linter.unusedVariables false
set_option linter.unusedSimpArgs false
theorem below_grow (w : World) (d : Nat) (os : Array Obj) : Below w.heap.size w (Sort.grow (w.drewN d) os) :=
  ⟨rfl, rfl, rfl, by simp [Sort.grow, World.drewN], fun k hk => by simp [Sort.grow, World.drewN, Array.getElem?_append, hk]⟩
/-- The byte of a digit. -/
def dgc (n : Nat) : UInt8 := UInt8.ofNat (48 + n)
theorem conv_one (W : World) (b : Nat) (z : Int) (h : W.cell? ⟨b, 0, none⟩ = some (.int .u8 z)) :
    (convert 44 9 (.slice (some ⟨b, 0, none⟩) 1 1)).run Tryd.prog W = .ok (.string ⟨#[UInt8.ofNat z.toNat]⟩) W := by
  have k := run_convert_bytes_arg (P := Tryd.prog) W 44 5 Tryd.underlying44 Tryd.underlying5 b 0 1 1 [z] rfl (fun i hi => by
    obtain rfl : i = 0 := by omega
    simpa using h) 9 Tryd.underlying9
  simpa [strOfNums] using k
set_option maxRecDepth 100000 in
set_option maxHeartbeats 1000000 in
theorem decS_small (v : Int) (w : World) (h0 : 0 ≤ v) (h : v < 10) :
    Calls Tryd.prog 25 #[.int .u64 v] w fun e w' => e = .returned (.string ⟨(decDigits v.toNat).toArray⟩) ∧ Below w.heap.size w w' := by
  have hd : Hid (decDigits v.toNat = [dgc v.toNat]) := show decDigits v.toNat = [dgc v.toNat] by rw [decDigits, dif_pos (by omega)]; rfl
  have k := conv_one (w.alloc (Obj.cells #[Value.int IntKind.u8 (48 + v)] 5)) w.heap.size (48 + v) (by simp)
  have e : UInt8.ofNat (48 + v).toNat = dgc v.toNat := by unfold dgc; congr 1; omega
  rw [e] at k
  clear e
  go_enter Tryd.func25, Tryd.ntmps25
  go_wp2
  go_ret
  exact ⟨by rw [hd.out]; rfl, bel_alloc _ _⟩
theorem cell_after {W w1 : World} {b : Nat} {v : Value} (hb : Below W.heap.size W w1) (h : W.cell? ⟨b, 0, none⟩ = some v) : w1.cell? ⟨b, 0, none⟩ = some v := by
  have lt : b < W.heap.size := lt_of_cell h
  rw [hb.cell (p := ⟨b, 0, none⟩) lt]; exact h
theorem cell_new1 (w : World) (z : Int) : ((w.alloc (Obj.cells #[Value.int IntKind.u8 z] 5)).drew).cell? ⟨w.heap.size, 0, none⟩ = some (.int .u8 z) := by simp [go_sem]
theorem ba_app (a : List UInt8) (c : UInt8) : ((⟨a.toArray⟩ : ByteArray) ++ ⟨#[c]⟩) = ⟨(a ++ [c]).toArray⟩ := by
  apply ByteArray.ext
  simp
theorem ba_cons (a : List UInt8) (c : UInt8) : ((⟨#[c]⟩ : ByteArray) ++ ⟨a.toArray⟩) = ⟨(c :: a).toArray⟩ := by
  apply ByteArray.ext
  simp
theorem digit_u8 (v : Int) (h0 : 0 ≤ v) : UInt8.ofNat (IntKind.u8.wrap (IntKind.u64.wrap (48 + v.tmod 10))).toNat = dgc (v.toNat % 10) := by
  unfold dgc
  rw [Int.tmod_eq_emod_of_nonneg h0, IntKind.wrap_u64, IntKind.wrap_u8]
  congr 1; omega
set_option maxRecDepth 100000 in
set_option maxHeartbeats 1000000 in
theorem decS_big (v : Int) (w : World) (h0 : 0 ≤ v) (h : 10 ≤ v) (h1 : v ≤ 18446744073709551615) (l : List UInt8) (hl : l.length ≤ 100)
    (ih : ∀ w, Calls Tryd.prog 25 #[.int .u64 (IntKind.u64.wrap (v.tdiv 10))] w fun e w' => e = .returned (.string ⟨l.toArray⟩) ∧ Below w.heap.size w w') :
    Calls Tryd.prog 25 #[.int .u64 v] w fun e w' => e = .returned (.string ⟨(l ++ [dgc (v.toNat % 10)]).toArray⟩) ∧ Below w.heap.size w w' := by
  have IH : Hid (∀ w, Calls Tryd.prog 25 #[.int .u64 (IntKind.u64.wrap (v.tdiv 10))] w fun e w' => e = .returned (.string ⟨l.toArray⟩) ∧ Below w.heap.size w w') := ih
  clear ih
  have D := digit_u8 v h0
  have K : ∀ (W : World) (b : Nat), W.cell? ⟨b, 0, none⟩ = some (.int .u8 (IntKind.u8.wrap (IntKind.u64.wrap (48 + v.tmod 10)))) → (convert 44 9 (.slice (some ⟨b, 0, none⟩) 1 1)).run Tryd.prog W = .ok (.string ⟨#[dgc (v.toNat % 10)]⟩) W := fun W b hh => by
    rw [conv_one W b _ hh, D]
  clear D
  go_enter Tryd.func25, Tryd.ntmps25
  go_wp2_with fail
  go_region_with (go_at_call 25; refine (IH.out _).mono ?_; rintro e w1 ⟨rfl, hb1⟩; first | (have c2 := cell_after hb1 (cell_new1 w (IntKind.u8.wrap (IntKind.u64.wrap (48 + v.tmod 10))))) | skip)
  all_goals
    go_wp2_with fail
    go_ret
    refine ⟨by rw [ba_app]; rfl, ?_⟩
    first | exact (bel_trans (Below.refl _ _).drew hb1).alloc hb1.size _ | exact bel_trans ((Below.refl _ _).alloc (Nat.le_refl _) _).drew hb1
theorem dec_spec_n (n : Nat) : ∀ (v : Int) (w : World), v.toNat = n → 0 ≤ v → v ≤ 18446744073709551615 →
    Calls Tryd.prog 25 #[.int .u64 v] w fun e w' => e = .returned (.string ⟨(decDigits v.toNat).toArray⟩) ∧ Below w.heap.size w w' := by
  induction n using Nat.strongRecOn with
  | _ n ih =>
    intro v w hn h0 h1
    by_cases h : v < 10
    · exact decS_small v w h0 h
    · have e : IntKind.u64.wrap (v.tdiv 10) = v / 10 := by
        rw [Int.tdiv_eq_ediv_of_nonneg h0, IntKind.wrap_u64]; omega
      have e2 : decDigits v.toNat = decDigits (v / 10).toNat ++ [dgc (v.toNat % 10)] := by
        rw [decDigits, dif_neg (by omega), show v.toNat / 10 = (v / 10).toNat by omega]; rfl
      rw [e2]
      refine decS_big v w h0 (by omega) h1 _ ?_ fun w => ?_
      · rw [decDigits_length]
        have := nDigits_le20 (v / 10).toNat (by omega)
        omega
      · rw [e]
        exact ih (v / 10).toNat (by omega) (v / 10) w rfl (by omega) (by omega)
theorem dec_spec (v : Int) (w : World) (h0 : 0 ≤ v) (h1 : v ≤ 18446744073709551615) :
    Calls Tryd.prog 25 #[.int .u64 v] w fun e w' => e = .returned (.string ⟨(decDigits v.toNat).toArray⟩) ∧ Below w.heap.size w w' :=
  dec_spec_n _ v w rfl h0 h1
/-- The number that a word of a width is written as. -/
def numW (x v : Int) : Int := if x = 1 then v else sgnI x v
set_option maxHeartbeats 1000000 in
theorem sizeF (v : Int) (w : World) (h0 : -9223372036854775808 ≤ v) (h1 : v < 0) :
    Calls Tryd.prog 26 #[.int .i64 v] w fun e w' => e = .returned (.int .u64 (-v)) ∧ w' = w := by
  go_enter Tryd.func26, Tryd.ntmps26
  go_wp2
  go_ret
  refine ⟨ret_int ?_, rfl⟩
  first | omega | (simp only [IntKind.wrap_u64]; omega)
theorem sgnF_bd {x v : Int} (h : isW x v = true) : -9223372036854775808 ≤ sgnI x v ∧ sgnI x v ≤ 9223372036854775807 := by
  have bd := isW_bd h
  rcases vw_cases (isW_vw h) with rfl | rfl | rfl | rfl | rfl <;> simp [sgnI] at * <;> split <;> omega
theorem word_u64 {x v : Int} (h : isW x v = true) : 0 ≤ v ∧ v ≤ 18446744073709551615 := by
  have bd := isW_bd h
  rcases vw_cases (isW_vw h) with rfl | rfl | rfl | rfl | rfl <;> simp at bd <;> omega
set_option maxRecDepth 100000 in
set_option maxHeartbeats 2000000 in
theorem fmtS_no (x v : Int) (w : World) (h0 : 0 ≤ v) (h1 : v ≤ 18446744073709551615) (h : isW x v = false) :
    Calls Tryd.prog 12 #[.int .i64 x, .int .u64 v] w fun e w' => e = .returned (.string ⟨#[]⟩) ∧ Below w.heap.size w w' := by
  have H : Hid (isW x v = false) := h
  clear h
  go_enter Tryd.func12, Tryd.ntmps12
  go_wp2_with (go_at_call 23; refine (isS_no _ _ _ h0 h1 H.out).mono ?_; rintro e w' ⟨rfl, rfl⟩)
  go_ret
  exact ⟨rfl, Below.refl _ _⟩
set_option maxRecDepth 100000 in
set_option maxHeartbeats 2000000 in
theorem fmtS_yes (x v : Int) (w : World) (h : isW x v = true) :
    Calls Tryd.prog 12 #[.int .i64 x, .int .u64 v] w fun e w' => e = .returned (.string ⟨(itoa (numW x v)).toArray⟩) ∧ Below w.heap.size w w' := by
  have H : Hid (isW x v = true) := h
  have bd := word_u64 h
  have sb := sgnF_bd h
  have xp : 1 ≤ x := by rcases vw_cases (isW_vw h) with rfl | rfl | rfl | rfl | rfl <;> omega
  have S : sgnI x v < 0 ∨ sgnI x v = v := by unfold sgnI; have b2 := (isW_bd h).2; split <;> omega
  by_cases hx : x = 1
  · subst hx
    have E : Hid (itoa (numW 1 v) = decDigits v.toNat) := show itoa (numW 1 v) = decDigits v.toNat by unfold numW itoa; rw [if_pos rfl, if_neg (by omega)]
    clear h S
    go_enter Tryd.func12, Tryd.ntmps12
    go_wp2_with (first | (go_at_call 23; refine (isS_yes _ _ _ bd.1 bd.2 H.out).mono ?_; rintro e w' ⟨rfl, rfl⟩) | (go_at_call 24; refine (signed_spec _ _ _ bd.1 bd.2 H.out).mono ?_; rintro e w' ⟨rfl, rfl⟩) | (go_at_call 25; refine (dec_spec _ _ bd.1 bd.2).mono ?_; rintro e w1 ⟨rfl, hb1⟩))
    go_ret
    exact ⟨by rw [E.out]; rfl, hb1⟩
  · by_cases hn : sgnI x v < 0
    · have E : Hid (itoa (numW x v) = 45 :: decDigits (- sgnI x v).toNat) := show itoa (numW x v) = 45 :: decDigits (- sgnI x v).toNat by unfold numW itoa; rw [if_neg hx, if_pos hn, show (sgnI x v).natAbs = (- sgnI x v).toNat by omega]
      have L : (decDigits (- sgnI x v).toNat).length ≤ 100 := by
        rw [decDigits_length]
        have := nDigits_le20 (- sgnI x v).toNat (by omega)
        omega
      have hx2 : 1 < x := by omega
      clear h S hx
      go_enter Tryd.func12, Tryd.ntmps12
      go_wp2_with (first | (go_at_call 23; refine (isS_yes _ _ _ bd.1 bd.2 H.out).mono ?_; rintro e w' ⟨rfl, rfl⟩) | (go_at_call 24; refine (signed_spec _ _ _ bd.1 bd.2 H.out).mono ?_; rintro e w' ⟨rfl, rfl⟩) | (go_at_call 26; refine (sizeF _ _ sb.1 hn).mono ?_; rintro e w' ⟨rfl, rfl⟩) | (go_at_call 25; refine (dec_spec _ _ (by omega) (by omega)).mono ?_; rintro e w1 ⟨rfl, hb1⟩))
      go_wp2_with fail
      go_ret
      exact ⟨by rw [E.out, ba_cons]; rfl, hb1⟩
    · have E : Hid (itoa (numW x v) = decDigits v.toNat) := show itoa (numW x v) = decDigits v.toNat by unfold numW itoa; rw [if_neg hx, if_neg hn]; congr 2; omega
      have hx2 : 1 < x := by omega
      have hn2 : 0 ≤ sgnI x v := by omega
      clear h S hx hn
      go_enter Tryd.func12, Tryd.ntmps12
      go_wp2_with (first | (go_at_call 23; refine (isS_yes _ _ _ bd.1 bd.2 H.out).mono ?_; rintro e w' ⟨rfl, rfl⟩) | (go_at_call 24; refine (signed_spec _ _ _ bd.1 bd.2 H.out).mono ?_; rintro e w' ⟨rfl, rfl⟩) | (go_at_call 25; refine (dec_spec _ _ bd.1 bd.2).mono ?_; rintro e w1 ⟨rfl, hb1⟩))
      go_ret
      exact ⟨by rw [E.out]; rfl, hb1⟩
end Go.Proofs.YtikecpcgcccmoaaDoor
