/- Over one translation: ParseWord of the program answers what its specification answers, at every text of at most 2^20 bytes; the law that compares them answers true. -/
import Derived.Test.YtmkhkgliipalaaaDoorPrs2
namespace Go.Proofs.YtmkhkgliipalaaaDoor
open Go.ChangeShapes Go.WideShapes Go.ChangeAt Go.RowKit
open Go.Lib hiding intOf
set_option linter.unusedVariables false
set_option linter.unusedSimpArgs false
theorem num_bd {x v : Int} (h : isW x v = true) : -9223372036854775808 ≤ numW x v ∧ numW x v ≤ 9223372036854775807 := by
  have b := sgnF_bd h
  have w := isW_bd h
  unfold numW
  split
  · rename_i e; subst e; simp at w; omega
  · exact b
theorem cut_num {x v : Int} (h : isW x v = true) : cutI x (numW x v % 18446744073709551616) = v := by
  have w := isW_bd h
  rcases vw_cases (isW_vw h) with rfl | rfl | rfl | rfl | rfl <;> simp [numW, cutI, sgnI] at * <;> (try split) <;> omega
theorem isWF_cut {x : Int} (hx : vw x = true) (n : Int) : isW x (cutI x n) = true := by
  have hp : (0 : Int) < 2 ^ x.toNat := Int.pow_pos (by decide)
  unfold isW cutI
  rw [hx]
  simp only [Bool.true_and, decide_eq_true_eq]
  exact ⟨Int.emod_nonneg _ (by omega), Int.emod_lt_of_pos _ hp⟩
theorem isW_not {x v : Int} (hx : vw x = false) : isW x v = false := by simp [isW, hx]
theorem cmp_eq (t : List UInt8) (s : ByteArray) (h : t = s.data.toList) : ((⟨t.toArray⟩ : ByteArray).toList == s.toList) = true := by
  rw [ByteArray.toList_eq, ByteArray.toList_eq]; simp [h]
theorem cmp_ne (t : List UInt8) (s : ByteArray) (h : ¬ s.data.toList = t) : ((⟨t.toArray⟩ : ByteArray).toList == s.toList) = false := by
  rw [ByteArray.toList_eq, ByteArray.toList_eq]
  apply beq_eq_false_iff_ne.2
  exact fun e => h (by simpa using e.symm)
theorem size_l (s : ByteArray) : s.size = s.data.toList.length := by simp only [Array.length_toList]; rfl
theorem read_neg (s : ByteArray) (h1 : 0 < s.size) (hd : ((s[0].toNat : Int) == 45) = true) : readUp s.data.toList = IntKind.u64.wrap (-(addUp 0 s.data.toList)) := by
  have hl := size_l s
  have h0 : s[0].toNat = 45 := by have := beq_iff_eq.1 hd; omega
  unfold readUp
  rw [IntKind.wrap_u64, if_pos]
  cases e : s.data.toList with
  | nil => have h9 : s.size = 0 := by rw [hl, e]; rfl
           omega
  | cons c r =>
    have : s[0] = c := by show s.data[0] = c; rw [← Array.getElem_toList]; simp [e]
    simp [← this, h0]
theorem read_pos (s : ByteArray) (h1 : 0 < s.size) (hd : ((s[0].toNat : Int) == 45) = false) : readUp s.data.toList = addUp 0 s.data.toList := by
  have hl := size_l s
  have h0 : ¬ s[0].toNat = 45 := by have := beq_eq_false_iff_ne.1 hd; omega
  unfold readUp
  rw [if_neg]
  cases e : s.data.toList with
  | nil => simp
  | cons c r =>
    have : s[0] = c := by show s.data[0] = c; rw [← Array.getElem_toList]; simp [e]
    simp [← this, h0]
theorem read_bd (l : List UInt8) : 0 ≤ readUp l ∧ readUp l ≤ 18446744073709551615 := by
  unfold readUp
  have := addUp_bd l 0 (by decide) (by decide)
  split <;> omega
theorem cut_w64 {x : Int} (hx : vw x = true) (n : Int) : cutI x (IntKind.u64.wrap n) = cutI x (n % 18446744073709551616) := by
  rw [IntKind.wrap_u64]
/-- The specification, at a text that is no empty one and no longer than thirty bytes. -/
theorem prsS_mid (x : Int) (s : ByteArray) (hx : vw x = true) (hs : s.size ≤ 30) (h1 : 0 < s.size) (g : Bool) (v : Int)
    (hg : if g then s.data.toList = itoa (numW x (cutI x (readUp s.data.toList))) ∧ v = cutI x (readUp s.data.toList) else ¬ s.data.toList = itoa (numW x (cutI x (readUp s.data.toList))) ∧ v = 0) (w : World) :
    Calls Tryd.prog 23 #[.int .i64 x, .string s] w fun e w' => e = .returned (.agg #[.bool g, .int .u64 v]) ∧ Below w.heap.size w w' := by
  have hl := size_l s
  have hne : ¬ s.toList = [] := by
    rw [ByteArray.toList_eq]
    intro e
    have h9 : s.size = 0 := by rw [hl, e]; rfl
    omega
  have hie : s.toList.isEmpty = false := by cases e : s.toList with
    | nil => exact absurd e hne
    | cons c r => rfl
  have rb := read_bd s.data.toList
  have cw := isWF_cut hx (readUp s.data.toList)
  have cb := word_u64 cw
  have hF : FmtC 22 x (cutI x (readUp s.data.toList)) (itoa (numW x (cutI x (readUp s.data.toList)))).toArray := fun w => fmtS_yes x _ w cw
  have hC : CutC 44 x (readUp s.data.toList) (cutI x (readUp s.data.toList)) := fun w => cut_spec x _ w hx rb.1 rb.2
  cases hd : ((s[0].toNat : Int) == 45) with
  | true =>
    have er := read_neg s h1 hd
    cases g with
    | true =>
      obtain ⟨e1, rfl⟩ := hg
      refine prsS_ny x s _ _ w hx hs h1 hd hne hie ?_ hF (cmp_eq _ s e1.symm)
      rw [← er]; exact hC
    | false =>
      obtain ⟨e1, rfl⟩ := hg
      refine prsS_no x s _ _ w hx hs h1 hd hne hie ?_ hF (cmp_ne _ s e1)
      rw [← er]; exact hC
  | false =>
    have er := read_pos s h1 hd
    cases g with
    | true =>
      obtain ⟨e1, rfl⟩ := hg
      refine prsS_py x s _ _ w hx hs h1 hd hne hie ?_ hF (cmp_eq _ s e1.symm)
      rw [← er]; exact hC
    | false =>
      obtain ⟨e1, rfl⟩ := hg
      refine prsS_po x s _ _ w hx hs h1 hd hne hie ?_ hF (cmp_ne _ s e1)
      rw [← er]; exact hC
theorem itoa_len {x v : Int} (h : isW x v = true) : (itoa (numW x v)).length ≤ 21 := itoa_length_le _ (num_bd h).1 (num_bd h).2
/-- PARSEWORD: what the two answer, and what it says of the text. -/
theorem parse_full (x : Int) (s : ByteArray) (hs : s.size ≤ 281474976710656) : ∃ (g : Bool) (v : Int),
    ((g = true ∧ isW x v = true ∧ s.data.toList = itoa (numW x v)) ∨ (g = false ∧ v = 0 ∧ ∀ u, isW x u = true → ¬ s.data.toList = itoa (numW x u))) ∧
    (∀ w, Calls Tryd.prog 23 #[.int .i64 x, .string s] w fun e w' => e = .returned (.agg #[.bool g, .int .u64 v]) ∧ Below w.heap.size w w') ∧
    (∀ w, Lp w → Calls Tryd.prog 21 #[.int .i64 x, .string s] w fun e w' => e = .returned (.agg #[.bool g, .int .u64 v]) ∧ Below w.heap.size w w') := by
  have hl := size_l s
  by_cases h : ∃ v, isW x v = true ∧ s.data.toList = itoa (numW x v)
  · obtain ⟨v, hv, e⟩ := h
    have hx := isW_vw hv
    have il := itoa_len hv
    have ln := itoa_ne_nil (numW x v)
    have l0 : 0 < s.size := by
      rw [hl, e]
      cases q : itoa (numW x v) with
      | nil => exact absurd q ln
      | cons c r => simp
    have rd : cutI x (readUp s.data.toList) = v := by rw [e, readUp_itoa, cut_num hv]
    refine ⟨true, v, .inl ⟨rfl, hv, e⟩, fun w => prsS_mid x s hx (by rw [hl, e]; omega) l0 true v ?_ w, fun w hL => ?_⟩
    · rw [if_pos rfl, rd]; exact ⟨e, rfl⟩
    · have hp : Lib.parseIntB 64 s.data.toList = .ok (numW x v) := by rw [Lib.parseIntB_64, e]; exact atoi_itoa _ (num_bd hv).1 (num_bd hv).2
      have hc : cutI x (IntKind.u64.wrap (numW x v)) = v := by rw [cut_w64 hx, cut_num hv]
      refine prsI_y x s (numW x v) v (itoa (numW x v)).toArray w hL hs hp (fun w hw => ?_) (fun w hw => fmtI_yes x v w hw hv) (cmp_eq _ s e.symm)
      have k := cut_impl x (IntKind.u64.wrap (numW x v)) w hw hx (by rw [IntKind.wrap_u64]; omega) (by rw [IntKind.wrap_u64]; omega)
      rw [hc] at k
      exact k
  · have hno : ∀ v, isW x v = true → ¬ s.data.toList = itoa (numW x v) := fun v hv e => h ⟨v, hv, e⟩
    refine ⟨false, 0, .inr ⟨rfl, rfl, hno⟩, fun w => ?_, fun w hL => ?_⟩
    · cases hx : vw x with
      | false => exact prsS_w x s w hx
      | true =>
        by_cases h30 : 30 < s.size
        · exact prsS_long x s w hx h30
        · by_cases h0 : 0 < s.size
          · exact prsS_mid x s hx (by omega) h0 false 0 (by rw [if_neg (by decide)]; exact ⟨hno _ (isWF_cut hx _), rfl⟩) w
          · have es : s = ⟨#[]⟩ := by
              apply ByteArray.ext
              apply Array.ext'
              exact List.eq_nil_of_length_eq_zero (by omega)
            rw [es]
            exact prsS_empty x w hx
    · cases hp : Lib.parseIntB 64 s.data.toList with
      | «syntax» => exact prsI_syn x s w hL hs hp
      | range => exact prsI_ran x s w hL hs hp
      | ok n =>
        have wb : 0 ≤ IntKind.u64.wrap n ∧ IntKind.u64.wrap n ≤ 18446744073709551615 := by rw [IntKind.wrap_u64]; omega
        cases hx : vw x with
        | true =>
          have cw := isWF_cut hx (IntKind.u64.wrap n)
          exact prsI_o x s n _ _ w hL hs hp (fun w hw => cut_impl x _ w hw hx wb.1 wb.2) (fun w hw => fmtI_yes x _ w hw cw) (cmp_ne _ s (hno _ cw))
        | false =>
          refine prsI_o x s n 0 ([] : List UInt8).toArray w hL hs hp (fun w hw => cut_impl_no x _ w hw hx) (fun w hw => fmtI_no x 0 w hw.wid (by decide) (by decide) (isW_not hx)) (cmp_ne _ s ?_)
          rw [Lib.parseIntB_64] at hp
          exact atoi_ne_nil hp
theorem parse_same (x : Int) (s : ByteArray) (hs : s.size ≤ 281474976710656) : ∃ (g : Bool) (v : Int),
    (∀ w, Calls Tryd.prog 23 #[.int .i64 x, .string s] w fun e w' => e = .returned (.agg #[.bool g, .int .u64 v]) ∧ Below w.heap.size w w') ∧
    (∀ w, Lp w → Calls Tryd.prog 21 #[.int .i64 x, .string s] w fun e w' => e = .returned (.agg #[.bool g, .int .u64 v]) ∧ Below w.heap.size w w') := by
  obtain ⟨g, v, _, hS, hI⟩ := parse_full x s hs
  exact ⟨g, v, hS, hI⟩
set_option maxHeartbeats 2000000 in
theorem eq_num (a c : Bool) (b d : Int) (w : World) (hac : (a == c) = true) (hbd : (b == d) = true) :
    Calls Tryd.prog 24 #[.agg #[.bool a, .int .u64 b], .agg #[.bool c, .int .u64 d]] w fun e w' => e = .returned (.bool true) ∧ Below w.heap.size w w' := by
  go_enter Tryd.func24, Tryd.ntmps24
  go_wp2
  go_ret
  exact ⟨rfl, bel_trans (bel_alloc _ _) (bel_alloc _ _)⟩
theorem num_cells {wa wb : World} {c : Bool} {r : Int} {n : TypeId} (h : Below (wa.alloc (Obj.cells #[.bool c, .int .u64 r] n)).heap.size (wa.alloc (Obj.cells #[.bool c, .int .u64 r] n)) wb) :
    wa.heap.size < wb.heap.size ∧ wb.cell? ⟨wa.heap.size, 0, none⟩ = some (.bool c) ∧ wb.cell? ⟨wa.heap.size, 1, none⟩ = some (.int .u64 r) := by
  have hs := h.size
  simp at hs
  refine ⟨by omega, ?_, ?_⟩
  · rw [h.cell (p := ⟨wa.heap.size, 0, none⟩) (by simp)]; simp
  · rw [h.cell (p := ⟨wa.heap.size, 1, none⟩) (by simp)]; simp
set_option maxRecDepth 100000 in
set_option maxHeartbeats 2000000 in
/-- THE LAW OF ParseWord. -/
theorem parseWord_law (a0 : Int) (s : ByteArray) (w0 : (Lit.int .i64 a0).wf = true) (w1 : s.size ≤ maxLen) (w : World) (hL : Lp w) :
    Calls Tryd.prog 8 #[.int .i64 a0, .string s] w fun e w' => e = .returned (.bool true) ∧ Below w.heap.size w w' := by
  unfold maxLen at w1
  by_cases hb : 1048576 < s.size
  · go_enter Tryd.func8, Tryd.ntmps8
    go_wp2_with fail
    go_ret
    exact ⟨rfl, Below.refl _ _⟩
  · obtain ⟨g, v, hS, hI⟩ := parse_same a0 s (by omega)
    have HS : Hid (∀ w, Calls Tryd.prog 23 #[.int .i64 a0, .string s] w fun e w' => e = .returned (.agg #[.bool g, .int .u64 v]) ∧ Below w.heap.size w w') := hS
    have HI : Hid (∀ w, Lp w → Calls Tryd.prog 21 #[.int .i64 a0, .string s] w fun e w' => e = .returned (.agg #[.bool g, .int .u64 v]) ∧ Below w.heap.size w w') := hI
    clear hS hI w0
    have hb2 : s.size ≤ 1048576 := by omega
    clear hb
    go_enter Tryd.func8, Tryd.ntmps8
    go_wp2_with fail
    refine (HS.out _).mono ?_
    rintro e wa ⟨rfl, hb1⟩
    go_wp2_with fail
    refine (HI.out _ (hL.below (bel_trans hb1 (bel_alloc _ _)))).mono ?_
    rintro e wb ⟨rfl, hb2⟩
    obtain ⟨z2, k20, k21⟩ := num_cells hb2
    go_wp2_with fail
    refine (eq_num _ _ _ _ _ (by simp) (by simp)).mono ?_
    rintro e wc ⟨rfl, hb3⟩
    go_wp2_with fail
    go_ret
    exact ⟨rfl, bel_trans (bel_trans (bel_trans (bel_trans hb1 (bel_alloc _ _)) hb2) (bel_alloc _ _)) hb3⟩
theorem star_es : "*" ++ "errors.errorString" = "*errors.errorString" := by decide
theorem row_es (u : TypeId) (h : Tryd.prog.typeName? 3 u = some "*errors.errorString") : u = 95 :=
  typeName_ptr_named (nm := "errors.errorString") (by rw [star_es]; kernel_rfl) (by kernel_rfl) (by decide) u (by rw [star_es]; exact h)
/-- What the rows list gives the walks. -/
theorem lp_of_laid {W : World} {x0 x1 : String × DataW Unit} {t0 t1 : List UInt8} {rest : List (String × DataW Unit)} (h : laidMet Tryd.prog (x0 :: x1 :: ("internal/strconv.uint64pow10", Lib.tabData .u64 Lib.pow10Tab) :: ("strconv.ErrRange", .iface "*errors.errorString" (.ptr (.agg [.lit (.string t0)]))) :: ("strconv.ErrSyntax", .iface "*errors.errorString" (.ptr (.agg [.lit (.string t1)]))) :: ("loop.example/g00010/impl.widths", Lib.tabData .i64 [1, 8, 16, 32, 64]) :: rest) W) : Lp W := by
  obtain ⟨a0, s0, hv0, -, -, -⟩ := laid_sentinel h.tail.tail.tail gRan (by kernel_rfl) Tryd.underlying54 row_es Tryd.underlying95 Tryd.underlying97 rfl rfl Tryd.underlying9 (by kernel_rfl) (by kernel_rfl)
  obtain ⟨a1, s1, hv1, -, -, -⟩ := laid_sentinel h.tail.tail.tail.tail gSyn (by kernel_rfl) Tryd.underlying54 row_es Tryd.underlying95 Tryd.underlying97 rfl rfl Tryd.underlying9 (by kernel_rfl) (by kernel_rfl)
  exact ⟨⟨wid_of_laid h.tail.tail.tail.tail.tail, Lib.tabIs_of_head gTab (by kernel_rfl) Tryd.underlying82 Tryd.underlying25 (by kernel_rfl) (by kernel_rfl) h.tail.tail⟩, ⟨_, _, hv1⟩, ⟨_, _, hv0⟩⟩
end Go.Proofs.YtmkhkgliipalaaaDoor
