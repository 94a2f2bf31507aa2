/- Which value a place defines: the specification's answer, walked. -/
import Derived.Test.YtbfpfjkjeekbdaaDp12
namespace Go.Proofs.Ytbfpfjkjeekbdaa
open Go.ChangeShapes Go.WideShapes Go.ChangeAt Go.RowKit
open Go.Sort (grow)
set_option linter.unusedVariables false
set_option linter.unusedSimpArgs false
set_option maxRecDepth 100000 in
set_option maxHeartbeats 2000000 in
theorem resOfS (d : FnD) (vp vb : Value) (B I : Int) (w : World) {lo : Nat} (h : FnAt lo w d vp vb) (hn : fnN d ≤ 1048576) :
    Calls Try.prog 80 #[fnV d vp vb, .int .i64 B, .int .i64 I] w fun e w' => e = .returned (.int .i64 (rOf B I d.params.length (blPl 0 d.blocks))) ∧ Below w.heap.size w w' := by
  have HL : Kp (∀ W, Below w.heap.size w W → Calls Try.prog 102 #[fnV d vp vb, .int .i64 B, .int .i64 I] W fun e w' => e = .returned (.bool (decide (0 ≤ B ∧ B < d.blocks.length ∧ 0 ≤ I ∧ I < (d.blocks.getD B.toNat []).length))) ∧ Below W.heap.size W w') := ⟨fun W hb => l2AtS d vp vb B I W (h.keep hb) hn⟩
  unfold fnN at hn
  obtain ⟨name, link, params, res, blocks⟩ := d
  obtain ⟨-, hp, hb⟩ := h
  dsimp only [fnV] at *
  have nn := blsN_nn blocks
  have n1 : (params.length : Int) ≤ 1048576 := by omega
  have n2 : (blocks.length : Int) ≤ 1048576 := by omega
  have n3 : (params.length : Int) + blsN blocks ≤ 1048576 := by omega
  obtain ⟨a1, k1, rfl⟩ := hp.shape
  obtain ⟨b, o, ⟨⟨a2, k2, rfl, h1, h2⟩, h3⟩, -, hc⟩ := hb.ex
  replace hb := Kp.mk hb
  replace hp := Kp.mk hp
  clear hn nn
  obtain ⟨R, hR⟩ : ∃ R : Bool, decide (0 ≤ B ∧ B < blocks.length ∧ 0 ≤ I ∧ I < ((blocks.getD B.toNat []).length : Int)) = R := ⟨_, rfl⟩
  rw [hR] at HL
  cases R with
  | false =>
    have hA : rOf B I params.length (blPl 0 blocks) = -1 := rOf_none B I _ _ (fun e he q1 q2 => by
      exfalso
      obtain ⟨h1, h2, h3, h4⟩ := blPl_mem 0 blocks e he
      rw [decide_eq_false_iff_not] at hR
      apply hR
      have e1 : B.toNat = e.1 - 0 := by omega
      refine ⟨by omega, by omega, by omega, ?_⟩
      rw [e1, List.getD, List.getElem?_eq_getElem h2]
      simp only [Option.getD_some]
      omega)
    rw [hA]
    clear hA hR h2 hc
    go_enter Try.func80, Try.ntmps80
    go_wp2_with fail
    refine (HL.out _ (bel_alloc _ _)).mono ?_
    rintro e w1 ⟨rfl, hb1⟩
    go_wp2_with fail
    go_ret
    exact ⟨rfl, bel_trans (bel_alloc _ _) hb1⟩
  | true =>
    obtain ⟨q0, q1, q2, q3⟩ := of_decide_eq_true hR
    obtain ⟨B, rfl⟩ : ∃ n : Nat, B = n := ⟨B.toNat, by omega⟩
    obtain ⟨I, rfl⟩ : ∃ n : Nat, I = n := ⟨I.toNat, by omega⟩
    have hB : B < blocks.length := by omega
    have eB : blocks.getD ((B : Int)).toNat [] = blocks[B] := by simp [List.getD, hB]
    rw [eB] at q3
    have hI : I < (blocks[B]).length := by omega
    obtain rfl := h2 (by omega)
    clear q0 q1 q2 q3 hR eB h2
    obtain ⟨A, hA⟩ : ∃ A, rOf B I params.length (blPl 0 blocks) = A := ⟨_, rfl⟩
    rw [hA]
    obtain ⟨W0, hW⟩ : ∃ W0 : World, W0 = w.alloc (Obj.cells #[.string name, .int .i64 link, .slice a1 params.length k1, .int .i64 res, .slice (some ⟨b, o, none⟩) blocks.length k2] 30) := ⟨_, rfl⟩
    have B0 : Below w.heap.size w W0 := by rw [hW]; exact bel_alloc _ _
    have x2 : At W0 w.heap.size 2 (.slice a1 params.length k1) := by rw [hW]; exact al_at _ _ _ rfl
    have x4 : At W0 w.heap.size 4 (.slice (some ⟨b, o, none⟩) blocks.length k2) := by rw [hW]; exact al_at _ _ _ rfl
    go_enter Try.func80, Try.ntmps80
    go_wp2_with fail
    rw [← hW]
    clear hW
    refine (HL.out _ B0).mono ?_
    rintro e w1 ⟨rfl, hb1⟩
    replace x2 := at_keep x2 hb1
    replace x4 := at_keep x4 hb1
    have B1 := bel_trans B0 hb1
    clear hb1 B0 HL
    have HX : Kp (∀ n (hn : n < blocks.length), ∃ a k bb oo, At w1 b (o + n) (.slice a (blocks[n]).length k) ∧ (0 < (blocks[n]).length → a = some ⟨bb, oo, none⟩) ∧ ∀ i (hi : i < (blocks[n]).length), At w1 bb (oo + i * 9 + 1) (.int .i64 ((blocks[n])[i]).ty)) := ⟨fun n hn => by
      obtain ⟨vi, c0, hv⟩ := hc n hn
      obtain ⟨bb, oo, ⟨⟨a, k, rfl, i1, i2⟩, i3⟩, -, ic⟩ := hv.ex
      exact ⟨a, k, bb, oo, at_keep c0 B1, i2, fun i hi => by
        obtain ⟨_, _, _, q⟩ := ic i hi
        exact at_keep q.c1 B1⟩⟩
    clear hc
    obtain ⟨aa, ka, ba, oa, c0, i2, ic⟩ := HX.out B hB
    obtain rfl := i2 (by omega)
    have c1 := ic I hI
    clear i2 ic
    by_cases ht : ((blocks[B])[I]).ty = 0
    · have hA2 : A = -1 := by
        rw [← hA]
        refine rOf_none _ _ _ _ (fun e he q1 q2 => ?_)
        obtain ⟨h1, h2, h3, h4⟩ := blPl_mem 0 blocks e he
        rw [h4]
        have e1 : e.1 - 0 = B := by omega
        have e2 : e.2.1 = I := by omega
        simp only [e1, e2]
        exact ht
      subst hA2
      rw [ht] at c1
      clear HX hA ht
      go_wp2_with fail
      go_ret
      exact ⟨rfl, B1⟩
    · have hl := Kp.mk hI
      have hA := Kp.mk hA
      have H1 : Kp (((blocks[B])[I]).ty ≠ 0) := ⟨ht⟩
      obtain ⟨t, ht2⟩ : ∃ t, ((blocks[B])[I]).ty = t := ⟨_, rfl⟩
      rw [ht2] at c1 ht
      clear ht2
      go_wp2_with fail
      clear c0 c1 ht
      go_loopw [7, 8] (fun s r wr => wr = w1 ∧ ∃ (b2 : Nat) (n : Int), b2 ≤ B ∧ r = .int .i64 b2 ∧ s = .int .i64 n ∧ 0 ≤ n ∧ n + (blPl b2 (blocks.drop b2)).length ≤ 2097152 ∧ Kp (rOf B I n (blPl b2 (blocks.drop b2)) = A)) (fun _ r _ => blocks.length - (intOf r).toNat)
      case atStart => exact ⟨rfl, 0, params.length, Nat.zero_le _, rfl, rfl, by omega, by have := blPl_len 0 blocks; simp only [List.drop_zero]; omega, hA⟩
      case round =>
        obtain ⟨rfl, b2, n, hb2, rfl, rfl, hn0, hn1, hd⟩ := hrel
        have hlt : b2 < blocks.length := by omega
        have hb2' : (b2 : Int) ≤ B := by omega
        obtain ⟨aa, ka, ba, oa, c0, i2, ic⟩ := HX.out b2 hlt
        have hdr := Kp.mk (blPl_drop b2 blocks hlt)
        obtain ⟨xs, hxs⟩ : ∃ xs, xs = blocks[b2] := ⟨_, rfl⟩
        have hIb : Kp (b2 = B → I < xs.length) := ⟨fun e => by subst hxs; subst e; exact hI⟩
        have hTy : Kp (b2 = B → ∀ (q : I < xs.length), (xs[I]).ty ≠ 0) := ⟨fun e q => by subst hxs; subst e; exact H1.out⟩
        have ic2 : Kp (∀ i (hi : i < xs.length), At wr ba (oa + i * 9 + 1) (.int .i64 (xs[i]).ty)) := ⟨fun i hi => by subst hxs; exact ic i hi⟩
        clear ic
        have ic := ic2
        clear ic2
        rw [← hxs] at c0 i2
        rw [← hxs] at hdr
        rw [hdr.out] at hn1 hd
        replace i2 := Kp.mk i2
        have g2 : (xs.length : Int) ≤ 2097152 := by
          rw [List.length_append, List.drop_zero, inPl_len] at hn1
          omega
        clear hdr hxs
        rw [List.length_append] at hn1
        go_wp2_with fail
        go_loopw [7, 9] (fun s r wq => wq = wr ∧ ∃ (i : Nat) (n : Int), i ≤ xs.length ∧ (b2 = B → i ≤ I) ∧ r = .int .i64 i ∧ s = .int .i64 n ∧ 0 ≤ n ∧ n + ((inPl b2 i (xs.drop i)).length + (blPl (b2 + 1) (blocks.drop (b2 + 1))).length) ≤ 2097152 ∧ Kp (rOf B I n (inPl b2 i (xs.drop i) ++ blPl (b2 + 1) (blocks.drop (b2 + 1))) = A)) (fun _ r _ => xs.length - (intOf r).toNat)
        case atStart => exact ⟨rfl, 0, n, Nat.zero_le _, fun _ => Nat.zero_le _, rfl, rfl, hn0, by omega, hd⟩
        case round =>
          clear hd hn0 hn1
          obtain ⟨rfl, i, n, hi, hiI, rfl, rfl, hn0, hn1, hd⟩ := hrel
          replace hiI := Kp.mk hiI
          by_cases hlt2 : i < xs.length
          · obtain rfl := i2.out (by omega)
            have c1 := ic.out i hlt2
            have hdr := inPl_drop b2 i xs hlt2
            have hT2 : Kp (b2 = B → i = I → (xs[i]).ty ≠ 0) := ⟨fun e1 e2 => by subst e2; exact hTy.out e1 hlt2⟩
            rw [hdr, List.cons_append] at hd
            rw [hdr, List.length_cons] at hn1
            obtain ⟨t, ht⟩ : ∃ t, (xs[i]).ty = t := ⟨_, rfl⟩
            rw [ht] at c1 hd hT2
            clear hdr ht
            by_cases e1 : b2 = B
            · subst e1
              by_cases e2 : i = I
              · subst e2
                have t0 := hT2.out rfl rfl
                have hA2 : n = A := by rw [← hd.out]; simp only [rOf, and_self, if_true, if_neg t0]
                subst hA2
                clear hd hA hT2
                go_wp2_with fail
                go_ret
                exact ⟨rfl, B1⟩
              · have e3 : (i : Int) ≠ I := by omega
                have e4 : ¬ ((b2 : Int) = b2 ∧ (i : Int) = I) := by omega
                have hii : b2 = b2 → i + 1 ≤ I := fun _ => by have := hiI.out rfl; omega
                by_cases t0 : t = 0
                · subst t0
                  go_wp2_with fail
                  exact ⟨⟨trivial, i + 1, n, by omega, by simpa using hii, by go_num, rfl, hn0, by omega, ⟨by rw [← hd.out, rOf, if_neg e4, if_pos rfl]⟩⟩, by simp [intOf]; omega⟩
                · go_wp2_with fail
                  exact ⟨⟨trivial, i + 1, n + 1, by omega, by simpa using hii, by go_num, rfl, by omega, by omega, ⟨by rw [← hd.out, rOf, if_neg e4, if_neg t0]⟩⟩, by simp [intOf]; omega⟩
            · have e3 : (b2 : Int) ≠ B := by omega
              have e4 : ¬ ((b2 : Int) = B ∧ (i : Int) = I) := fun q => e3 q.1
              by_cases t0 : t = 0
              · subst t0
                go_wp2_with fail
                exact ⟨⟨_, .int .i64 n, .int .i64 ((i + 1 : Nat) : Int), ⟨i + 1, by omega, rfl, n, rfl, hn0, by omega, ⟨by rw [← hd.out, rOf, if_neg e4, if_pos rfl]⟩⟩, rfl, rfl, by go_num⟩, by simp [intOf]; omega⟩
              · go_wp2_with fail
                exact ⟨⟨_, .int .i64 (n + 1), .int .i64 ((i + 1 : Nat) : Int), ⟨i + 1, by omega, rfl, n + 1, rfl, by omega, by omega, ⟨by rw [← hd.out, rOf, if_neg e4, if_neg t0]⟩⟩, rfl, rfl, by go_num⟩, by simp [intOf]; omega⟩
          · have hne : b2 ≠ B := fun e => by have := hIb.out e; have := hiI.out e; omega
            have hb3 : b2 + 1 ≤ B := by omega
            rw [inPl_end b2 i xs (by omega), List.nil_append] at hd
            rw [inPl_end b2 i xs (by omega)] at hn1
            go_wp2_with fail
            exact ⟨⟨trivial, b2 + 1, n, hb3, by go_num, rfl, hn0, by simp at hn1; omega, hd⟩, by simp [intOf]; omega⟩
end Go.Proofs.Ytbfpfjkjeekbdaa
