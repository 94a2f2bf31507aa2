/- Where a block goes: the data; the specification's answer. -/
import Derived.Test.YtbfpfjkjeekbdaaVt2
namespace Go.Proofs.Ytbfpfjkjeekbdaa
open Go.ChangeShapes Go.WideShapes Go.ChangeAt Go.RowKit
set_option linter.unusedVariables false
set_option linter.unusedSimpArgs false
/-- Those of a list that are blocks, each once, behind those that are known. -/
def nxF (n : Nat) : List Int → List Int → List Int
  | acc, [] => acc
  | acc, b :: r => nxF n (if (decide (0 ≤ b) && decide (b < (n : Int)) && !acc.contains b) = true then acc ++ [b] else acc) r
theorem nxF_len (n : Nat) (acc l : List Int) : (nxF n acc l).length ≤ acc.length + l.length := by
  induction l generalizing acc with
  | nil => simp [nxF]
  | cons x r ih =>
    unfold nxF
    split
    · have := ih (acc ++ [x]); simp at this ⊢; omega
    · have := ih acc; simp; omega
theorem nxF_le (n : Nat) (acc l : List Int) : acc.length ≤ (nxF n acc l).length := by
  induction l generalizing acc with
  | nil => simp [nxF]
  | cons x r ih =>
    unfold nxF
    split
    · have := ih (acc ++ [x]); simp at this ⊢; omega
    · exact ih acc
theorem nxF_mem (n : Nat) (acc l : List Int) (x : Int) : x ∈ nxF n acc l ↔ x ∈ acc ∨ (x ∈ l ∧ 0 ≤ x ∧ x < n) := by
  induction l generalizing acc with
  | nil => simp [nxF]
  | cons y r ih =>
    unfold nxF
    rw [ih]
    split
    · rename_i h
      simp only [Bool.and_eq_true, decide_eq_true_eq, Bool.not_eq_true', List.contains_eq_mem, decide_eq_false_iff_not] at h
      simp only [List.mem_append, List.mem_cons, List.mem_nil_iff, or_false]
      constructor
      · rintro ((h1 | rfl) | h2)
        · exact .inl h1
        · exact .inr ⟨.inl rfl, h.1⟩
        · exact .inr ⟨.inr h2.1, h2.2⟩
      · rintro (h1 | ⟨rfl | h2, h3⟩)
        · exact .inl (.inl h1)
        · exact .inl (.inr rfl)
        · exact .inr ⟨h2, h3⟩
    · rename_i h
      simp only [Bool.and_eq_true, decide_eq_true_eq, Bool.not_eq_true', List.contains_eq_mem, decide_eq_false_iff_not, not_and, Decidable.not_not] at h
      constructor
      · rintro (h1 | h2)
        · exact .inl h1
        · exact .inr ⟨by simp [h2.1], h2.2⟩
      · rintro (h1 | ⟨h2, h3⟩)
        · exact .inl h1
        · rcases List.mem_cons.1 h2 with rfl | h2
          · exact .inl (h h3)
          · exact .inr ⟨h2, h3⟩
/-- What a block's last instruction names. -/
def lastB (x : List InD) : List Int := match x.getLast? with | some i => i.bl | none => []
def lastBl (bls : List (List InD)) (b : Int) : List Int := if 0 ≤ b ∧ b < bls.length then lastB (bls.getD b.toNat []) else []
def nextL (bls : List (List InD)) (b : Int) : List Int := nxF bls.length [] (lastBl bls b)
theorem lastBl_out {bls : List (List InD)} {b : Int} (h : ¬ (0 ≤ b ∧ b < bls.length)) : lastBl bls b = [] := if_neg h
theorem lastBl_in {bls : List (List InD)} {b : Nat} (h : b < bls.length) : lastBl bls b = lastB bls[b] := by
  unfold lastBl
  rw [if_pos ⟨by omega, by omega⟩]
  simp [h]
theorem lastB_nil : lastB [] = [] := rfl
theorem lastB_at (x : List InD) (h : 0 < x.length) : lastB x = (x[x.length - 1]'(by omega)).bl := by
  unfold lastB
  rw [List.getLast?_eq_getElem?, List.getElem?_eq_getElem (by omega)]
theorem lastB_len {x : List InD} : ((lastB x).length : Int) ≤ insN x := by
  by_cases h : 0 < x.length
  · rw [lastB_at x h]
    have := (insN_of x).1 (x.length - 1) (by omega)
    unfold inN at this
    omega
  · have := insN_nn x
    have : x = [] := List.length_eq_zero_iff.1 (by omega)
    subst this
    simp [lastB_nil]
    omega
theorem lastBl_len {bls : List (List InD)} {b : Int} : ((lastBl bls b).length : Int) ≤ blsN bls := by
  unfold lastBl
  split
  · rename_i h
    obtain ⟨k, rfl⟩ : ∃ k : Nat, b = k := ⟨b.toNat, by omega⟩
    have hk : k < bls.length := by omega
    have := (blsN_of bls).1 k hk
    have h2 := lastB_len (x := bls[k])
    unfold blN at this
    simp only [Int.toNat_natCast, List.getD_eq_getElem?_getD, List.getElem?_eq_getElem hk, Option.getD_some]
    omega
  · have := blsN_nn bls
    simpa using this
theorem nextL_len {bls : List (List InD)} {b : Int} : ((nextL bls b).length : Int) ≤ blsN bls := by
  have h1 := nxF_len bls.length [] (lastBl bls b)
  have h2 := @lastBl_len bls b
  unfold nextL
  simp only [List.length_nil, Nat.zero_add] at h1
  omega
set_option maxRecDepth 100000 in
set_option maxHeartbeats 2000000 in
theorem hasS (v : Value) (xs : List Int) (x : Int) (w : World) {lo : Nat} (h : Ints lo .i64 w v xs) (hn : xs.length ≤ 1048576) :
    Calls Try.prog 68 #[v, .int .i64 x] w fun e w' => e = .returned (.bool (xs.contains x)) ∧ Below w.heap.size w w' := by
  obtain ⟨b, o, ⟨⟨a, cap, rfl, h1, h2⟩, h3⟩, -, hc⟩ := h.ex
  obtain ⟨R, hR⟩ : ∃ R, R = xs.contains x := ⟨_, rfl⟩
  rw [← hR]
  replace hR := Kp.mk hR
  replace h2 := Kp.mk h2
  replace hc := Kp.mk hc
  go_enter Try.func68, Try.ntmps68
  go_wp2_with fail
  go_loopw [5] (fun s wr => ∃ i : Nat, i ≤ xs.length ∧ s = .int .i64 i ∧ Kp ((xs.drop i).contains x = R) ∧ wr = w) (fun s _ => xs.length - (intOf s).toNat)
  case atStart => exact ⟨0, Nat.zero_le _, rfl, ⟨by rw [List.drop_zero]; exact hR.out.symm⟩, rfl⟩
  case round =>
    obtain ⟨i, hi, rfl, hd, rfl⟩ := hrel
    by_cases hlt : i < xs.length
    · obtain rfl := h2.out (by omega)
      have c0 := hc.out i hlt
      have hd2 : Kp ((x == xs[i] || (xs.drop (i + 1)).contains x) = R) := ⟨by rw [← hd.out, List.drop_eq_getElem_cons hlt, List.contains_cons]⟩
      generalize xs[i] = q at *
      clear hd
      by_cases e1 : q = x
      · subst e1
        have e : R = true := by rw [← hd2.out]; simp
        subst e
        go_wp2_with fail
        go_ret
        exact ⟨rfl, Below.refl _ _⟩
      · have b1 : (q == x) = false := beq_eq_false_iff_ne.2 e1
        have b2 : (x == q) = false := beq_eq_false_iff_ne.2 (fun e => e1 e.symm)
        rw [b2] at hd2
        have hd3 := hd2.out
        simp only [Bool.false_or] at hd3
        replace hd3 := Kp.mk hd3
        clear hd2 b2
        go_wp2_with fail
        exact ⟨⟨i + 1, by omega, by go_num, hd3, trivial⟩, by simp [intOf]; omega⟩
    · have e : R = false := by rw [← hd.out, List.drop_eq_nil_of_le (by omega)]; rfl
      subst e
      go_wp2_with fail
      go_ret
      exact ⟨rfl, Below.refl _ _⟩
end Go.Proofs.Ytbfpfjkjeekbdaa
namespace Go.Proofs.Ytbfpfjkjeekbdaa
open Go.ChangeShapes Go.WideShapes Go.ChangeAt Go.RowKit
set_option linter.unusedVariables false
set_option linter.unusedSimpArgs false
theorem own_ne {w : World} {base size n : Nat} {e t : TypeId} {v : Value} {xs : List Value} {B : Nat} {arr : Array Value} {z : Nat × Nat} (h : w.ownsRow base e size v n xs) (hB : w.heap[B]? = some (Go.Obj.cells arr t z)) (ht : t ≠ e) : some B ≠ v.ownBlock := by
  rcases h.2 with h0 | ⟨g, cap, cur, rfl, hb, hg, h1, h2, h3, h4⟩
  · rw [h0.1]; simp [Value.ownBlock]
  · intro q
    simp only [Value.ownBlock] at q
    cases q
    rw [hB] at hg
    cases hg
    exact ht rfl
set_option maxRecDepth 100000 in
set_option maxHeartbeats 8000000 in
theorem nextS (d : FnD) (vp vb : Value) (t : Int) (w : World) {lo : Nat} (h : FnAt lo w d vp vb) (hn : fnN d ≤ 1048576) :
    Calls Try.prog 49 #[fnV d vp vb, .int .i64 t] w fun e w' => ∃ v, e = .returned v ∧ OwnI w' w.heap.size v (nextL d.blocks t) ∧ Below w.heap.size w w' := by
  unfold fnN at hn
  obtain ⟨name, link, params, res, blocks⟩ := d
  obtain ⟨-, hp, hb⟩ := h
  dsimp only [fnV] at *
  have nn := blsN_nn blocks
  have n2 : (blocks.length : Int) ≤ 1048576 := by omega
  obtain ⟨a1, k1, rfl⟩ := hp.shape
  obtain ⟨b, o, ⟨⟨a2, k2, rfl, h1, h2⟩, h3⟩, -, hc⟩ := hb.ex
  obtain ⟨i0, hi0, hz0, hz1, hz2⟩ := info_parts info64
  have n3 : blsN blocks ≤ 1048576 := by omega
  have hLn : ((lastBl blocks t).length : Int) ≤ blsN blocks := lastBl_len
  replace hLn := Kp.mk (show (lastBl blocks t).length ≤ 1048576 by omega)
  clear hn nn hp hb
  obtain ⟨A, hA⟩ : ∃ A, A = nextL blocks t := ⟨_, rfl⟩
  have hAK := Kp.mk hA
  rw [← hA]
  clear hA
  replace hc := Kp.mk hc
  replace h2 := Kp.mk h2
  have hmk : ∀ (W : World) (o : Obj) (H : Nat), H = W.heap.size + 1 → ((W.alloc o).alloc (Go.Obj.cells #[] 2)).ownsRow (W.heap.size + 1) 2 1 (.slice (some ⟨H, 0, none⟩) 0 0) 0 [] := fun W o H h => by
    subst h
    have := World.ownsRow_made (base := W.heap.size + 1) (e := 2) (size := 1) (W.alloc o) #[] 0 (by simp) (Nat.zero_le _) rfl
    rwa [World.size_alloc] at this
  have hown := hmk w (Go.Obj.cells #[.string name, .int .i64 link, .slice a1 params.length k1, .int .i64 res, .slice a2 blocks.length k2] 30) (w.heap.size + 1) rfl
  clear hmk
  obtain ⟨F, hF⟩ : ∃ F, F = Go.Obj.cells #[.string name, .int .i64 link, .slice a1 params.length k1, .int .i64 res, .slice a2 blocks.length k2] 30 (0, 0) := ⟨_, rfl⟩
  obtain ⟨W0, hW⟩ : ∃ W0, Kp (W0 = (w.alloc (Go.Obj.cells #[.string name, .int .i64 link, .slice a1 params.length k1, .int .i64 res, .slice a2 blocks.length k2] 30)).alloc (Go.Obj.cells #[] 2)) := ⟨_, ⟨rfl⟩⟩
  have hbx : W0.heap[w.heap.size]? = some F := by rw [hF, hW.out]; exact keep_cells (new_cells w _) (bel_alloc _ _)
  have hB1 : Below w.heap.size w W0 := by rw [hW.out]; exact bel_trans (bel_alloc w _) (bel_alloc _ _)
  have hsz1 : w.heap.size + 1 ≤ W0.heap.size := by rw [hW.out]; simp
  have hx4 : W0.cell? ⟨w.heap.size, 4, none⟩ = some (.slice a2 blocks.length k2) := at_cells (hbx.trans (by rw [hF])) rfl
  rw [← hW.out] at hown
  have hown0 := Kp.mk hown
  have hbx0 := Kp.mk hbx
  clear hown hbx
  replace hF := Kp.mk hF
  by_cases hin : 0 ≤ t ∧ t < blocks.length
  case neg =>
    have e : A = [] := by rw [hAK.out]; unfold nextL; rw [lastBl_out hin]; rfl
    subst e
    have hown := hown0
    by_cases t0 : t < 0
    · go_enter Try.func49, Try.ntmps49
      go_upto_region 2 with fail
      rw [← hW.out]
      go_wp2_with fail
      go_ret
      exact ⟨_, rfl, ⟨Joins_le hown0.out⟩, hB1⟩
    · have t1 : (t ≥ (blocks.length : Int)) := by omega
      go_enter Try.func49, Try.ntmps49
      go_upto_region 2 with fail
      rw [← hW.out]
      go_wp2_with fail
      go_ret
      exact ⟨_, rfl, ⟨Joins_le hown0.out⟩, hB1⟩
  case pos =>
    obtain ⟨T, rfl⟩ : ∃ T : Nat, t = T := ⟨t.toNat, by omega⟩
    have hT : T < blocks.length := by omega
    obtain rfl := h2.out (by omega)
    obtain ⟨vi, c0, hv⟩ := hc.out T hT
    replace c0 := at_keep c0 hB1
    obtain ⟨ys, hys⟩ : ∃ ys, Kp (blocks[T] = ys) := ⟨_, ⟨rfl⟩⟩
    rw [hys.out] at hv
    have hL : lastBl blocks T = lastB ys := by rw [lastBl_in hT, hys.out]
    obtain ⟨bi, oi, ⟨⟨ai, ki, rfl, i1, i2⟩, i3⟩, -, ic⟩ := hv.ex
    clear hv
    by_cases y0 : ys.length = 0
    · have e : A = [] := by rw [hAK.out]; unfold nextL; rw [hL, List.length_eq_zero_iff.1 y0]; rfl
      subst e
      replace ic := Kp.mk ic
      replace i2 := Kp.mk i2
      replace hL := Kp.mk hL
      rw [y0] at c0
      rw [y0] at i1
      go_enter Try.func49, Try.ntmps49
      go_upto_region 2 with fail
      rw [← hW.out]
      go_wp2_with fail
      go_ret
      exact ⟨_, rfl, ⟨Joins_le hown0.out⟩, hB1⟩
    · have y1 : 0 < ys.length := by omega
      have hl2 := lastB_at ys y1
      obtain ⟨va, vbb, vw, q⟩ := ic (ys.length - 1) (by omega)
      obtain rfl := i2 y1
      obtain ⟨x, hx⟩ : ∃ x, Kp (ys[ys.length - 1] = x) := ⟨_, ⟨rfl⟩⟩
      rw [hx.out] at q hl2
      have BC : Kp (∀ W, Below w.heap.size w W → Ints lo .i64 W vbb x.bl) := ⟨fun W hW => (q.keep hW).l.b⟩
      replace q := q.keep hB1
      obtain ⟨q0, q1, q2, q3, q4, q5, q6, q7, q8, ql⟩ := q
      have hbl := ql.b
      obtain ⟨_, _, ⟨⟨pa, ka, rfl, -, -⟩, -⟩, -, -⟩ := ql.a.ex
      obtain ⟨_, _, ⟨⟨pw, kw, rfl, -, -⟩, -⟩, -, -⟩ := ql.c.ex
      obtain ⟨op, ty, fl, pr, ca, sz, args, bl, ws⟩ := x
      dsimp only at q0 q1 q2 q3 q4 q5 q6 q7 q8 hl2 hbl BC
      have hL2 : lastBl blocks T = bl := hL.trans hl2
      have hbn : bl.length ≤ 1048576 := by rw [← hL2]; exact hLn.out
      have hA2 : A = nxF blocks.length [] bl := by rw [hAK.out]; unfold nextL; rw [hL2]
      obtain ⟨bb, ob, ⟨⟨ab, kb, rfl, b1, b2⟩, b3⟩, -, -⟩ := hbl.ex
      have hA3 := Kp.mk hA2.symm
      clear hAK hl2 hL hL2 hA2 ql hbl hx hys
      replace ic := Kp.mk ic
      replace b2 := Kp.mk b2
      obtain ⟨k, hk⟩ : ∃ k : Nat, ys.length = k + 1 := ⟨ys.length - 1, by omega⟩
      rw [hk] at c0 i1 i3 y0 y1 q0 q1 q2 q3 q4 q5 q6 q7 q8
      simp only [Nat.add_sub_cancel] at q0 q1 q2 q3 q4 q5 q6 q7 q8
      replace hk := Kp.mk hk
      have hBK : Kp (∀ (xs : List Int) (W : World) (v : Value), OwnI W (w.heap.size + 1) v xs → xs.length ≤ 1048576 → ∀ x : Int, Calls Try.prog 68 #[v, .int .i64 x] W fun e w' => e = .returned (.bool (xs.contains x)) ∧ Below W.heap.size W w') := ⟨fun xs W v ho hl x => hasS v xs x W (ho.ints hl) hl⟩
      have e1 : decide ((T : Int) < 0) = false := by simp
      have e2 : decide (blocks.length ≤ T) = false := by simp; omega
      have e3 : ((k : Int) + 1 == 0) = false := by simp; omega
      go_enter Try.func49, Try.ntmps49
      go_upto_region 2 with fail
      rw [← hW.out]
      go_upto_region 6 with fail
      clear q0 q1 q2 q3 q4 q5 q6 q7 q8 c0 ic y0 y1
      obtain ⟨G, hG⟩ : ∃ G, Kp (G = Go.Obj.cells #[.int .i64 op, .int .i64 ty, .int .i64 fl, .int .i64 pr, .int .i64 ca, .int .i64 sz, .slice pa args.length ka, .slice ab bl.length kb, .slice pw ws.length kw] 112 (0, 0)) := ⟨_, ⟨rfl⟩⟩
      obtain ⟨W1, hW1⟩ : ∃ W1, Kp (W1 = W0.alloc G) := ⟨_, ⟨rfl⟩⟩
      have hG1 : W1.heap[W0.heap.size]? = some G := by rw [hW1.out]; exact new_cells _ _
      have hB2 : Below w.heap.size w W1 := by rw [hW1.out]; exact hB1.alloc hB1.size _
      have hb01 : Below W0.heap.size W0 W1 := by rw [hW1.out]; exact bel_alloc _ _
      have hF1 : W1.heap[w.heap.size]? = some F := keep_cells hbx0.out hb01
      have hown : W1.ownsRow (w.heap.size + 1) 2 1 (.slice (some ⟨w.heap.size + 1, 0, none⟩) 0 0) 0 [] := by rw [hW1.out]; exact hown0.out.alloc _
      have hs1 : w.heap.size + 1 ≤ W1.heap.size := by have := hb01.size; omega
      rw [hG.out] at hW1
      rw [← hW1.out]
      clear b2 hb01 hbx0 hown0 hW hB1 hW1 hx4 hc h2
      have hz : W0.heap.size < W1.heap.size := (Array.getElem?_eq_some_iff.1 hG1).1
      go_wp2_with fail
      go_loopw [5, 8] (fun s r wr => ∃ (i : Nat) (acc : List Int), i ≤ bl.length ∧ r = .int .i64 i ∧ wr.ownsRow (w.heap.size + 1) 2 1 s acc.length (acc.map (Value.int .i64)) ∧ Kp (nxF blocks.length acc (bl.drop i) = A) ∧ acc.length + (bl.drop i).length ≤ 1048576 ∧ wr.heap[w.heap.size]? = some F ∧ wr.heap[W0.heap.size]? = some G ∧ w.heap.size + 1 ≤ wr.heap.size ∧ Below w.heap.size w wr) (fun _ r _ => bl.length - (intOf r).toNat)
      case atStart => exact ⟨0, [], Nat.zero_le _, rfl, hown, by rw [List.drop_zero]; exact hA3, by simpa using hbn, hF1, hG1, hs1, hB2⟩
      case round =>
        clear hown hF1 hG1 hs1 hB2 hA3
        obtain ⟨i, acc, hi, rfl, hown, hd, hn1, hF1, hG1, hs1, hBl⟩ := hrel
        have x4 : wr.cell? ⟨w.heap.size, 4, none⟩ = some (.slice (some ⟨b, o, none⟩) blocks.length k2) := at_cells (hF1.trans (by rw [hF.out])) rfl
        have x7 : wr.cell? ⟨W0.heap.size, 7, none⟩ = some (.slice ab bl.length kb) := at_cells (hG1.trans (by rw [hG.out])) rfl
        by_cases hlt : i < bl.length
        · obtain ⟨b9, o9, ⟨⟨_, _, e9, -, a9⟩, -⟩, -, c9⟩ := (BC.out _ hBl).ex
          cases e9
          obtain rfl := a9 (by omega)
          have cx := c9 i hlt
          clear c9 a9
          rw [List.drop_eq_getElem_cons hlt] at hd hn1
          generalize bl[i] = x at *
          unfold nxF at hd
          rw [List.length_cons] at hn1
          by_cases h0 : 0 ≤ x
          · by_cases h9 : x < blocks.length
            · have hO : OwnI wr (w.heap.size + 1) _ acc := ⟨hown⟩
              have hC := Kp.mk (hBK.out acc wr _ hO (by omega) x)
              have g0 : (x ≥ 0) := h0
              by_cases hm : acc.contains x = true
              · rw [if_neg (by rw [hm]; simp)] at hd
                rw [hm] at hC
                go_wp2_with fail
                refine hC.out.mono ?_
                rintro e w2 ⟨rfl, hb2⟩
                have hown2 := (hO.keep hb2).r
                have hF2 := keep_cells hF1 hb2
                have hG2 := keep_cells hG1 hb2
                have hBl2 := bel_trans hBl hb2
                have hs2 : w.heap.size + 1 ≤ w2.heap.size := by have := hb2.size; omega
                clear hown hF1 hG1 hBl x4 x7 cx hO
                go_wp2_with fail
                exact ⟨⟨i + 1, acc, by omega, by go_num, hown2, hd, by omega, hF2, hG2, hs2, hBl2⟩, by simp [intOf]; omega⟩
              · have hm2 : acc.contains x = false := by simpa using hm
                rw [if_pos (by rw [hm2]; simp [h0, h9])] at hd
                rw [hm2] at hC
                go_wp2_with fail
                refine hC.out.mono ?_
                rintro e w2 ⟨rfl, hb2⟩
                have hown2 := (hO.keep hb2).r
                have hF2 := keep_cells hF1 hb2
                have hG2 := keep_cells hG1 hb2
                have hBl2 := bel_trans hBl hb2
                have hs2 : w.heap.size + 1 ≤ w2.heap.size := by have := hb2.size; omega
                replace hn1 := Kp.mk hn1
                have hx1 : acc.length ≤ 1048576 := by have := hn1.out; omega
                clear hown hF1 hG1 hBl x4 x7 cx hO
                go_wp2_with (at_builtin; refine wpList_append_vals _ rfl _ _ 22 rfl (w.heap.size + 1) 2 i0 (.int .i64 0) 1 8 Try.underlying22 hi0 hz0 hz1 hz2 rfl (by decide) _ _ _ rfl (hown2.alloc _) (some ⟨w2.heap.size, 0, none⟩) w2.heap.size 0 1 1 [.int .i64 x] rfl (fun _ => rfl) rfl (one_new w2 _ _) one_cell (by unfold maxLen; omega) (by omega) (by simp; omega) ?_; intro v3 w3 hown3 hgrow3)
                have hB3 := own_bel (hBl2.alloc hBl2.size _) (Joins_le (hown2.alloc _)) hgrow3 (by simp; omega)
                have hF3 : w3.heap[w.heap.size]? = some F := by
                  rw [hgrow3.block w.heap.size (by simp; omega) (fun e => by have := (hown2.lt _ e.symm).1; omega), (MapKept.heap_alloc _ _).2 _ (by omega)]
                  exact hF2
                have hG3 : w3.heap[W0.heap.size]? = some G := by
                  have l := (Array.getElem?_eq_some_iff.1 hG2).1
                  rw [hgrow3.block W0.heap.size (by simp; omega) (own_ne hown2 (hG2.trans (by rw [hG.out])) (by decide)), (MapKept.heap_alloc _ _).2 _ (by omega)]
                  exact hG2
                have hs3 : w.heap.size + 1 ≤ w3.heap.size := by have := hgrow3.size; simp at this; omega
                have hown4 : w3.ownsRow (w.heap.size + 1) 2 1 v3 (acc ++ [x]).length ((acc ++ [x]).map (Value.int .i64)) := by simpa using hown3
                clear hown2 hown3 hgrow3 hBl2 hF2 hG2
                go_wp2_with fail
                exact ⟨⟨i + 1, acc ++ [x], by omega, by go_num, hown4, hd, by have := hn1.out; simp only [List.length_append, List.length_cons, List.length_nil]; omega, hF3, hG3, hs3, hB3⟩, by simp [intOf]; omega⟩
            · rw [if_neg (by simp [h9])] at hd
              have g0 : (x ≥ 0) := h0
              go_wp2_with fail
              exact ⟨⟨i + 1, acc, by omega, by go_num, hown, hd, by omega, hF1, hG1, hs1, hBl⟩, by simp [intOf]; omega⟩
          · rw [if_neg (by simp [h0])] at hd
            have g0 : ¬ (x ≥ 0) := h0
            go_wp2_with fail
            exact ⟨⟨i + 1, acc, by omega, by go_num, hown, hd, by omega, hF1, hG1, hs1, hBl⟩, by simp [intOf]; omega⟩
        · rw [List.drop_eq_nil_of_le (by omega)] at hd
          have e : acc = A := hd.out
          replace e := Kp.mk e
          replace hown := Kp.mk hown
          go_wp2_with fail
          go_ret
          exact ⟨_, rfl, ⟨by rw [← e.out]; exact Joins_le hown.out⟩, hBl⟩
end Go.Proofs.Ytbfpfjkjeekbdaa
