/- A writer behind bits; the program's PutBits and PutVar. -/
import Derived.Test.YtfagafglloopbaaBi4
import Derived.Deep.RegionWith
namespace Go.Proofs.Ytfagafglloopbaa
open Go.ChangeShapes Go.WideShapes Go.ChangeAt Go.RowKit
open Go.Sort (grow)
set_option linter.unusedVariables false
set_option linter.unusedSimpArgs false
set_option maxRecDepth 100000 in
set_option maxHeartbeats 2000000 in
/-- slices.Clone. -/
theorem cloneB (v : Value) (xs : List Int) (w : World) {lo : Nat} (h : Ints lo .u8 w v xs) (hn : xs.length ≤ 1048576) :
    Calls Try.prog 42 #[v] w fun e w' => ∃ v', e = .returned v' ∧ OwnB w' w.heap.size v' xs ∧ Below w.heap.size w w' := by
  obtain ⟨b, o, ⟨⟨a, cap, rfl, h1, h2⟩, h3⟩, -, hc⟩ := h.ex
  obtain ⟨i0, hi0, hz0, hz1, hz2⟩ := info_parts info8
  have q22 : ∀ (w : World) (a : Option Addr) (n c n' c' : Nat), (binOp .eql 22 (.slice a n c) (.slice none n' c')).run Try.prog w = .ok (.bool a.isNone) w := fun w a n c n' c' => Lib.run_eql_slice_nil w _ _ a n c n' c' Try.underlying22
  cases a with
  | none =>
    obtain rfl : xs = [] := by
      cases xs with
      | nil => rfl
      | cons x r => cases h2 (by simp)
    clear hc h2
    go_enter Try.func42, Try.ntmps42
    go_wp2
    go_ret
    exact ⟨_, rfl, ⟨rfl, .inl ⟨rfl, rfl⟩⟩, Below.refl _ _⟩
  | some ad =>
    have hr := World.ownsRow_made (base := w.heap.size) (e := 5) (size := 1) w #[] 0 (Nat.le_refl _) (Nat.zero_le _) rfl
    replace hc := Kp.mk hc
    replace h2 := Kp.mk h2
    replace hr := Kp.mk hr
    go_enter Try.func42, Try.ntmps42
    go_wp2_with (at_builtin; refine wpList_append_vals _ rfl _ _ 22 rfl w.heap.size 5 i0 (.int .u8 0) 1 1 Try.underlying22 hi0 hz0 hz1 hz2 rfl (by decide) _ _ _ rfl hr.out (some ad) b o xs.length cap (xs.map (Value.int .u8)) rfl h2.out ?qc1 ?qc2 ?qc3 ?qc4 ?qc5 ?qc6 ?_)
    case qc1 => simp
    case qc2 =>
      intro j hj
      rw [List.getElem_map]
      exact at_keep (hc.out j (by simpa using hj)) (bel_alloc _ _)
    case qc3 => intro u hu; obtain ⟨x, _, rfl⟩ := List.mem_map.1 hu; rfl
    case qc4 => unfold maxLen; omega
    case qc5 => omega
    case qc6 => simp
    intro v' w1 hown hgrow
    have hB := own_bel (bel_alloc w _) hr.out hgrow (by simp)
    go_wp2
    go_ret
    exact ⟨v', rfl, by unfold OwnB; simpa using hown, hB⟩

theorem OwnB.mono {w : World} {base base' : Nat} {v : Value} {xs : List Int} (h : OwnB w base v xs) (hb : base' ≤ base) : OwnB w base' v xs :=
  ⟨h.1, h.2.elim Or.inl (fun ⟨g, cap, cur, hv, hg, r⟩ => Or.inr ⟨g, cap, cur, hv, by omega, r⟩)⟩
theorem OwnB.form {w : World} {base : Nat} {v : Value} {xs : List Int} (h : OwnB w base v xs) : ∃ a cap, v = .slice a xs.length cap := by
  rcases h.2 with ⟨rfl, e⟩ | ⟨g, cap, cur, rfl, _⟩
  · rw [e]; exact ⟨_, _, rfl⟩
  · exact ⟨_, _, rfl⟩
set_option maxRecDepth 100000 in
set_option maxHeartbeats 2000000 in
theorem behindI (v : Value) (xs : List Int) (c : Int) (w : World) {lo : Nat} (h : Ints lo .u8 w v xs) (hn : xs.length ≤ 1048576) (c0 : -9223372036854775808 ≤ c) (c1 : c ≤ 9223372036854775807) (hb : ∀ i (h : i < xs.length), 0 ≤ xs[i] ∧ xs[i] < 256) :
    Calls Try.prog 24 #[.agg #[v, .int .i64 c]] w fun e w' => ∃ v', e = .returned (.agg #[v', .int .i64 ((sndOf xs c).2 : Int)]) ∧ OwnB w' w.heap.size v' (sndOf xs c).1 ∧ Below w.heap.size w w' := by
  have C1 : Kp (∀ W, Ints lo .u8 W v xs → Calls Try.prog 29 #[.agg #[v, .int .i64 c]] W _) := ⟨fun W h => soundI v xs c W h hn c0 c1 hb⟩
  have hl : (sndOf xs c).1.length ≤ 1048576 := by
    by_cases q : okB xs c
    · rw [sndOf_yes q]; exact hn
    · rw [sndOf_no q]; decide
  obtain ⟨⟨ys, k⟩, hy⟩ : ∃ p, p = sndOf xs c := ⟨_, rfl⟩
  rw [← hy] at C1 hl ⊢
  have C2 : Kp (∀ W u, Ints lo .u8 W u ys → Calls Try.prog 42 #[u] W _) := ⟨fun W u h => cloneB u ys W h hl⟩
  obtain ⟨b, o, ⟨⟨a, cap, rfl, h1, h2⟩, h3⟩, -, hc⟩ := h.ex
  have H := Kp.mk h
  clear h h1 h2 h3 hc hy hn hb
  have G1 := Kp.mk (C1.out _ (H.out.keep (bel_trans (bel_alloc w (Go.Obj.cells #[.slice a xs.length cap, .int .i64 c] 24 (0, 0))) (bel_alloc _ (Go.Obj.cells #[.slice none 0 0, .int .i64 0] 45 (0, 0))))))
  go_enter Try.func24, Try.ntmps24
  go_wp2_with fail
  refine G1.out.mono ?_
  rintro e w1 ⟨v1, rfl, H1, hb1⟩
  have b0 : Below w.heap.size w w1 := bel_trans (bel_alloc w _) (bel_trans (bel_alloc _ _) hb1)
  have x1 : w1.heap[w.heap.size]? = _ := keep_cells (keep_cells (new_cells w (Go.Obj.cells #[.slice a xs.length cap, .int .i64 c] 24 (0, 0))) (bel_alloc _ _)) hb1
  have x2 : w1.heap[w.heap.size + 1]? = some (Go.Obj.cells #[.slice none 0 0, .int .i64 0] 45 (0, 0)) := by
    have := keep_cells (new_cells (w.alloc (Go.Obj.cells #[.slice a xs.length cap, .int .i64 c] 24 (0, 0))) (Go.Obj.cells #[.slice none 0 0, .int .i64 0] 45 (0, 0))) hb1
    rwa [World.size_alloc] at this
  have y10 : w1.cell? ⟨w.heap.size, 0, none⟩ = some (.slice a xs.length cap) := at_cells x1 rfl
  have y11 : w1.cell? ⟨w.heap.size, 1, none⟩ = some (.int .i64 c) := at_cells x1 rfl
  have f1 := rw_cells x1
  have H2 := H1 w lo H.out
  obtain ⟨b', o', ⟨⟨a', cap', rfl, h1', h2'⟩, h3'⟩, hlo, hc'⟩ := H2.ex
  obtain ⟨X, hX⟩ : ∃ X, X = (w1.setCell ⟨w.heap.size, 0, none⟩ (.slice a' ys.length cap')).setCell ⟨w.heap.size, 1, none⟩ (.int .i64 k) := ⟨_, rfl⟩
  clear G1 C1
  go_wp2_with fail
  rw [← hX]
  have bX : Below w.heap.size w X := by rw [hX]; exact bel_set (bel_set b0 (Nat.le_refl _) _) (Nat.le_refl _) _
  have xX : X.heap[w.heap.size]? = some (Go.Obj.cells #[.slice a' ys.length cap', .int .i64 k] 24 (0, 0)) := by
    rw [hX]
    exact set_cells (set_cells x1 0 _) 1 _
  have xY : X.heap[w.heap.size + 1]? = some (Go.Obj.cells #[.slice none 0 0, .int .i64 0] 45 (0, 0)) := by
    rw [hX, heap_set _ _ _ _ _ (by omega), heap_set _ _ _ _ _ (by omega)]
    exact x2
  have sX : w.heap.size + 2 ≤ X.heap.size := by have := (Array.getElem?_eq_some_iff.1 xY).1; omega
  have G2 := Kp.mk (C2.out X.drew _ (H2.keep bX.drew))
  clear hX x1 x2 y10 y11 f1 C2 H1 hc' h1' h2' h3' b0 hb1
  have y10 : X.cell? ⟨w.heap.size, 0, none⟩ = some (.slice a' ys.length cap') := at_cells xX rfl
  have y11 : X.cell? ⟨w.heap.size, 1, none⟩ = some (.int .i64 k) := at_cells xX rfl
  have HK : Kp (∀ w', Below X.heap.size X w' → w'.heap[w.heap.size]? = some (Go.Obj.cells #[.slice a' ys.length cap', .int .i64 k] 24 (0, 0)) ∧ w'.heap[w.heap.size + 1]? = some (Go.Obj.cells #[.slice none 0 0, .int .i64 0] 45 (0, 0))) := ⟨fun w' h => ⟨keep_cells xX h, keep_cells xY h⟩⟩
  have hBD := (Below.refl X.heap.size X).drew
  go_region_with (go_at_call 42; refine G2.out.mono ?_; rintro e w7 ⟨v7, rfl, O7, hb7⟩; obtain ⟨a7, c7, rfl⟩ := O7.form; have hb77 := hBD.trans hb7; have q1 : w7.cell? ⟨w.heap.size, 1, none⟩ = some (.int .i64 k) := at_cells (HK.out _ hb77).1 rfl; have q2 := rw_cells (HK.out _ hb77).2; have q3 : w7.cell? ⟨w.heap.size + 1, 0, none⟩ = some (.slice none 0 0) := at_cells (HK.out _ hb77).2 rfl; have q4 : w7.cell? ⟨w.heap.size + 1, 1, none⟩ = some (.int .i64 0) := at_cells (HK.out _ hb77).2 rfl)
  all_goals
    have sdr : X.drew.heap.size = X.heap.size := rfl
    have hne : (Value.slice a7 ys.length c7).ownBlock ≠ some (w.heap.size + 1) := fun e => by
      have := (O7.lt _ e).1
      rw [sdr] at this
      omega
    have O8 := Kp.mk (((O7.setOther (j := 0) hne (.slice a7 ys.length c7)).setOther (j := 1) hne (.int .i64 k)).mono (base' := w.heap.size) (by rw [sdr]; omega))
    have bf : Below w.heap.size w ((w7.setCell ⟨w.heap.size + 1, 0, none⟩ (.slice a7 ys.length c7)).setCell ⟨w.heap.size + 1, 1, none⟩ (.int .i64 k)) := bel_set (bel_set (bX.trans (hb77.mono (by omega))) (by omega) _) (by omega) _
    have zz := set_cells (set_cells (HK.out _ hb77).2 0 (.slice a7 ys.length c7)) 1 (.int .i64 k)
    obtain ⟨Z, hZ⟩ : ∃ Z, Z = (w7.setCell ⟨w.heap.size + 1, 0, none⟩ (.slice a7 ys.length c7)).setCell ⟨w.heap.size + 1, 1, none⟩ (.int .i64 k) := ⟨_, rfl⟩
    rw [← hZ] at zz O8 bf ⊢
    have z0 : Z.cell? ⟨w.heap.size + 1, 0, none⟩ = some (.slice a7 ys.length c7) := at_cells zz rfl
    have z1 : Z.cell? ⟨w.heap.size + 1, 1, none⟩ = some (.int .i64 k) := at_cells zz rfl
    clear hne O7 hb7 hb77 hBD G2 HK H2 H xX xY bX hZ q1 q2 q3 q4 zz
    go_wp2_with fail
    exact bodyPost_ret (v := .agg #[.slice a7 ys.length c7, .int .i64 k]) (by simp [results, Try.results24, go_sem, z0, z1]) rfl ⟨_, rfl, O8.out, bf⟩
/-- The bits with a number behind them. -/
def putR (xs : List Int) (c : Nat) (v n : Int) : List Int × Nat := if 1 ≤ n ∧ n ≤ 64 ∧ v / 2 ^ n.toNat = 0 then (putB xs c v n.toNat, c + n.toNat) else (xs, c)
/-- The bits with a number in pieces behind them. -/
def varR (xs : List Int) (c : Nat) (v n : Int) : List Int × Nat := if 2 ≤ n ∧ n ≤ 32 then varL (n.toNat - 1) 64 xs c v else (xs, c)
set_option maxRecDepth 100000 in
set_option maxHeartbeats 2000000 in
theorem putBitsI (v : Value) (xs : List Int) (c x n : Int) (w : World) {lo : Nat} (h : Ints lo .u8 w v xs) (hn : xs.length ≤ 1048576) (c0 : -9223372036854775808 ≤ c) (c1 : c ≤ 9223372036854775807) (hb : ∀ i (h : i < xs.length), 0 ≤ xs[i] ∧ xs[i] < 256) (x0 : 0 ≤ x) (x1 : x < 18446744073709551616) (n0 : -9223372036854775808 ≤ n) (n1 : n ≤ 9223372036854775807) :
    Calls Try.prog 10 #[.agg #[v, .int .i64 c], .int .u64 x, .int .i64 n] w fun e w' => ∃ v', e = .returned (.agg #[v', .int .i64 ((putR (sndOf xs c).1 (sndOf xs c).2 x n).2 : Int)]) ∧ OwnB w' w.heap.size v' (putR (sndOf xs c).1 (sndOf xs c).2 x n).1 ∧ Below w.heap.size w w' := by
  have C1 : Kp (∀ W, Ints lo .u8 W v xs → Calls Try.prog 24 #[.agg #[v, .int .i64 c]] W _) := ⟨fun W h => behindI v xs c W h hn c0 c1 hb⟩
  have hS := sndOf_snd (c := c) hb
  have hl : (sndOf xs c).1.length ≤ 1048576 := by
    by_cases q : okB xs c
    · rw [sndOf_yes q]; exact hn
    · rw [sndOf_no q]; decide
  obtain ⟨⟨ys, k⟩, hy⟩ : ∃ p, p = sndOf xs c := ⟨_, rfl⟩
  rw [← hy] at C1 hl hS ⊢
  have hk : k ≤ 140737488355328 := by have := hS.len; dsimp only at this hl; omega
  have CB : Kp (∀ w, Calls Try.prog 25 #[.int .i64 n] w _) := ⟨fun w => bitCountI n w⟩
  have CP : Kp (∀ B base W (m : Nat), Wtr 45 base W B ys k → base ≤ B → m ≤ 64 → Calls Try.prog 26 #[.pointer (some ⟨B, 0, none⟩), .int .u64 x, .int .i64 (m : Int)] W _) := ⟨fun B base W m h hb hm => putI B x m ys k base W h hb x0 x1 hm (by omega) hS⟩
  obtain ⟨b, o, ⟨⟨a, cap, rfl, h1, h2⟩, h3⟩, -, hc⟩ := h.ex
  have H := Kp.mk h
  clear h h1 h2 h3 hc hy hn hb hS
  have G1 := Kp.mk (C1.out _ (H.out.keep (bel_trans (bel_alloc w (Go.Obj.cells #[.slice a xs.length cap, .int .i64 c] 24 (0, 0))) (bel_alloc _ (Go.Obj.cells #[.slice none 0 0, .int .i64 0] 24 (0, 0))))))
  obtain ⟨⟨zs, q⟩, hR⟩ : ∃ R, Kp (putR ys k x n = R) := ⟨_, ⟨rfl⟩⟩
  dsimp only
  rw [hR.out]
  go_enter Try.func10, Try.ntmps10
  go_wp2_with fail
  refine G1.out.mono ?_
  rintro e w1 ⟨v1, rfl, O1, hb1⟩
  obtain ⟨a1, c1', rfl⟩ := O1.form
  have x2 : w1.heap[w.heap.size + 1]? = some (Go.Obj.cells #[.slice none 0 0, .int .i64 0] 24 (0, 0)) := by
    have := keep_cells (new_cells (w.alloc (Go.Obj.cells #[.slice a xs.length cap, .int .i64 c] 24 (0, 0))) (Go.Obj.cells #[.slice none 0 0, .int .i64 0] 24 (0, 0))) hb1
    rwa [World.size_alloc] at this
  have b1 : Below w.heap.size w w1 := bel_trans (bel_alloc w _) (bel_trans (bel_alloc _ _) hb1)
  clear G1 C1 H hb1
  have xw := new_cells w1 (Go.Obj.cells #[.slice a1 ys.length c1', .int .i64 k] 45 (0, 0))
  have sw1 : w.heap.size + 2 ≤ w1.heap.size := by have := (Array.getElem?_eq_some_iff.1 x2).1; omega
  have b2 := bel_trans b1 (bel_alloc w1 (Go.Obj.cells #[.slice a1 ys.length c1', .int .i64 k] 45 (0, 0)))
  have x3 := keep_cells x2 (bel_alloc w1 (Go.Obj.cells #[.slice a1 ys.length c1', .int .i64 k] 45 (0, 0)))
  have O2 : OwnB (w1.alloc (Go.Obj.cells #[.slice a1 ys.length c1', .int .i64 k] 45 (0, 0))) (w.heap.size + 2) (.slice a1 ys.length c1') ys := by
    have := (O1.alloc (Go.Obj.cells #[.slice a1 ys.length c1', .int .i64 k] 45 (0, 0)))
    simpa using this
  obtain ⟨V, hV⟩ : ∃ V, V = w1.alloc (Go.Obj.cells #[.slice a1 ys.length c1', .int .i64 k] 45 (0, 0)) := ⟨_, rfl⟩
  rw [← hV] at xw b2 x3 O2
  obtain ⟨s, hs⟩ : ∃ s, s = w1.heap.size := ⟨_, rfl⟩
  rw [← hs] at xw sw1
  have HW : Wtr 45 (w.heap.size + 2) V s ys k := ⟨_, xw, O2⟩
  -- the end: the writer's bits are the answer
  have fin : ∀ (W : World) (zs : List Int) (q : Nat), Wtr 45 (w.heap.size + 2) W s zs q → Below (w.heap.size + 2) V W → ∃ az cz, W.cell? ⟨s, 0, none⟩ = some (.slice az zs.length cz) ∧ W.cell? ⟨s, 1, none⟩ = some (.int .i64 q) ∧ W.cell? ⟨w.heap.size + 1, 0, none⟩ = some (.slice none 0 0) ∧ W.cell? ⟨w.heap.size + 1, 1, none⟩ = some (.int .i64 0) ∧ (∀ j, W.frozen? ⟨w.heap.size + 1, j, none⟩ = false) ∧ ∃ Z, Kp (Z = (W.setCell ⟨w.heap.size + 1, 0, none⟩ (.slice az zs.length cz)).setCell ⟨w.heap.size + 1, 1, none⟩ (.int .i64 q)) ∧ Z.cell? ⟨w.heap.size + 1, 0, none⟩ = some (.slice az zs.length cz) ∧ Z.cell? ⟨w.heap.size + 1, 1, none⟩ = some (.int .i64 q) ∧ Kp (OwnB Z w.heap.size (.slice az zs.length cz) zs) ∧ Below w.heap.size w Z := fun W zs q hW hB => by
    obtain ⟨sv, h1, h2⟩ := hW.ex
    obtain ⟨az, cz, rfl⟩ := h2.form
    have h3 : W.heap[w.heap.size + 1]? = some (Go.Obj.cells #[.slice none 0 0, .int .i64 0] 24 (0, 0)) := (hB.block _ (by omega)).trans x3
    have hne := u8_ne h2 h3 (by decide)
    have zz := set_cells (set_cells h3 0 (.slice az zs.length cz)) 1 (.int .i64 q)
    exact ⟨az, cz, at_cells h1 rfl, at_cells h1 rfl, at_cells h3 rfl, at_cells h3 rfl, rw_cells h3, _, ⟨rfl⟩, at_cells zz rfl, at_cells zz rfl, ⟨((h2.setOther hne _).setOther hne _).mono (by omega)⟩, bel_set (bel_set (b2.trans (hB.mono (by omega))) (by omega) _) (by omega) _⟩
  replace fin := Kp.mk fin
  go_upto_region 2 with fail
  rw [← hV, ← hs]
  replace HW := Kp.mk HW
  have hbV := Kp.mk b2
  clear xw x2 x3 O1 O2 b1 b2 hV hs
  by_cases hg : 1 ≤ n ∧ n ≤ 64
  · obtain ⟨N, rfl⟩ := Int.eq_ofNat_of_zero_le (show 0 ≤ n by omega)
    have e0 : (decide ((1 : Int) ≤ (N : Int)) && decide ((N : Int) ≤ 64)) = true := by simp; omega
    rw [e0] at CB
    have yes : x / 2 ^ N = 0 → Kp (putB ys k x N = zs ∧ k + N = q) := fun hz => ⟨by
      have e := hR.out
      rw [putR, if_pos ⟨hg.1, hg.2, by simpa using hz⟩] at e
      injection e with e1 e2
      exact ⟨by simpa using e1, by simpa using e2⟩⟩
    have no : ¬ x / 2 ^ N = 0 → Kp (ys = zs ∧ k = q) := fun hz => ⟨by
      have e := hR.out
      rw [putR, if_neg (fun h => hz (by simpa using h.2.2))] at e
      injection e with e1 e2
      exact ⟨e1, e2⟩⟩
    by_cases hz : x / 2 ^ N = 0
    · have hzb : (x / 2 ^ N == 0) = true := by simp [hz]
      have er := (yes hz).out
      have hg2 : (N : Int) ≤ 64 := hg.2
      have GP := CP.out s (w.heap.size + 2) V N HW.out (by omega) (by omega)
      rw [er.1, er.2] at GP
      replace GP := Kp.mk GP
      replace hz := Kp.mk hz
      clear CP HW hbV hR er yes no
      by_cases h64 : N = 64
      · subst h64
        clear hzb hz
        have hzb : (x / 18446744073709551616 == 0) = true := by simp; omega
        go_wp2_with (first | (go_at_call 25; refine (CB.out _).mono ?_; rintro e w2 ⟨rfl, rfl⟩) | (go_at_call 26; refine GP.out.mono ?_; rintro e w2 ⟨rfl, hW2, hB2⟩; obtain ⟨az, cz, y0, y1, y2, y3, y4, Z, hZ, z0, z1, zo, zb⟩ := fin.out w2 zs q hW2 hB2))
        rw [← hZ.out]
        exact bodyPost_ret (v := .agg #[.slice az zs.length cz, .int .i64 q]) (by simp [results, Try.results10, go_sem, z0, z1]) rfl ⟨_, rfl, zo.out, zb⟩
      · have hN : N < 64 := by omega
        go_wp2_with (first | (go_at_call 25; refine (CB.out _).mono ?_; rintro e w2 ⟨rfl, rfl⟩) | (go_at_call 26; refine GP.out.mono ?_; rintro e w2 ⟨rfl, hW2, hB2⟩; obtain ⟨az, cz, y0, y1, y2, y3, y4, Z, hZ, z0, z1, zo, zb⟩ := fin.out w2 zs q hW2 hB2))
        rw [← hZ.out]
        exact bodyPost_ret (v := .agg #[.slice az zs.length cz, .int .i64 q]) (by simp [results, Try.results10, go_sem, z0, z1]) rfl ⟨_, rfl, zo.out, zb⟩
    · have hzb : (x / 2 ^ N == 0) = false := by simp [hz]
      obtain ⟨rfl, rfl⟩ := (no hz).out
      have hN : N < 64 := by
        have hg2 : (N : Int) ≤ 64 := hg.2
        have : N ≠ 64 := by
          rintro rfl
          exact hz (Int.ediv_eq_zero_of_lt x0 (by simpa using x1))
        omega
      obtain ⟨az, cz, y0, y1, y2, y3, y4, Z, hZ, z0, z1, zo, zb⟩ := fin.out V ys k HW.out (Below.refl _ _)
      replace hz := Kp.mk hz
      clear fin HW CP hbV hR yes no
      go_wp2_with (go_at_call 25; refine (CB.out _).mono ?_; rintro e w2 ⟨rfl, rfl⟩)
      rw [← hZ.out]
      exact bodyPost_ret (v := .agg #[.slice az ys.length cz, .int .i64 k]) (by simp [results, Try.results10, go_sem, z0, z1]) rfl ⟨_, rfl, zo.out, zb⟩
  · have e0 : (decide (1 ≤ n) && decide (n ≤ 64)) = false := by simp; omega
    rw [e0] at CB
    obtain ⟨rfl, rfl⟩ : ys = zs ∧ k = q := by
      have e := hR.out
      rw [putR, if_neg (fun h => hg ⟨h.1, h.2.1⟩)] at e
      injection e with e1 e2
      exact ⟨e1, e2⟩
    obtain ⟨az, cz, y0, y1, y2, y3, y4, Z, hZ, z0, z1, zo, zb⟩ := fin.out V ys k HW.out (Below.refl _ _)
    clear fin HW CP hbV
    go_wp2_with (go_at_call 25; refine (CB.out _).mono ?_; rintro e w2 ⟨rfl, rfl⟩)
    rw [← hZ.out]
    exact bodyPost_ret (v := .agg #[.slice az ys.length cz, .int .i64 k]) (by simp [results, Try.results10, go_sem, z0, z1]) rfl ⟨_, rfl, zo.out, zb⟩
end Go.Proofs.Ytfagafglloopbaa
