/- The least half way of each number: the program's answer. -/
import Derived.Test.YtbfpfjkjeekbdaaAv1
import Derived.Test.YtbfpfjkjeekbdaaHo1
namespace Go.Proofs.Ytbfpfjkjeekbdaa
open Go.ChangeShapes Go.WideShapes Go.ChangeAt Go.RowKit
set_option linter.unusedVariables false
set_option linter.unusedSimpArgs false
theorem cloneR (b M c : Nat) (z : Nat → Int) (w : World) (h : RowI w b M z) (h0 : 0 < M) (hM : M ≤ 1048576) (hc : M ≤ c) :
    Calls Try.prog 39 #[.slice (some ⟨b, 0, none⟩) M c] w fun e w' => ∃ b' c' : Nat, e = .returned (.slice (some ⟨b', 0, none⟩) M c') ∧ M ≤ c' ∧ w.heap.size ≤ b' ∧ RowI w' b' M z ∧ Below w.heap.size w w' := by
  have hl : ((List.range M).map z).length = M := by simp
  refine (cloneI _ ((List.range M).map z) w (lo := 0) (h.ints (n := M) (Nat.zero_le _) hl (Nat.le_refl _) hc hM (fun i hi => by simp)) (by rw [hl]; exact hM)).mono ?_
  rintro e w' ⟨v', rfl, ho, hB⟩
  obtain ⟨b', c', e', h1, h2, h3⟩ := OwnI.row ⟨ho⟩ (by rw [hl]; exact h0)
  rw [hl] at e' h1 h3
  exact ⟨b', c', by rw [e'], h1, h2, h3.congr (fun i hi => by simp [hi]), hB⟩
theorem RowI.keep' {w w' : World} {b M : Nat} {z : Nat → Int} (h : RowI w b M z) (hb : Below w.heap.size w w') : RowI w' b M z := h.keep hb
/-- What holds between two rounds. -/
structure LbI (M nb bu bw cu cw Bd b1 b2 b3 c1 c2 : Nat) (vN vP : Value) (w wr : World) (ls up low : Nat → Nat) : Prop where
  L : RowI wr (w.heap.size + 2) M (fun i => (ls i : Int))
  U : RowI wr bu M (fun i => (up i : Int))
  V : RowI wr bw M (fun i => (low i : Int))
  bd : wr.heap[Bd]? = some (Go.Obj.cells #[.slice (some ⟨bu, 0, none⟩) M cu, .slice (some ⟨bw, 0, none⟩) M cw] 129 (0, 0))
  ba : wr.heap[w.heap.size]? = some (Go.Obj.cells #[.slice (some ⟨b1, 0, none⟩) M c1, .slice (some ⟨b2, 0, none⟩) M c2, .slice (some ⟨b3, 0, none⟩) nb nb] 56 (0, 0))
  bg : wr.heap[w.heap.size + 1]? = some (Go.Obj.cells #[vN, vP] 53 (0, 0))
  bel : Below w.heap.size w wr
theorem LbI.keep {M nb bu bw cu cw Bd b1 b2 b3 c1 c2 : Nat} {vN vP : Value} {w wr w' : World} {ls up low : Nat → Nat} (h : LbI M nb bu bw cu cw Bd b1 b2 b3 c1 c2 vN vP w wr ls up low) (hb : Below wr.heap.size wr w') : LbI M nb bu bw cu cw Bd b1 b2 b3 c1 c2 vN vP w w' ls up low :=
  ⟨h.L.keep hb, h.U.keep hb, h.V.keep hb, keep_cells h.bd hb, keep_cells h.ba hb, keep_cells h.bg hb, bel_trans h.bel hb⟩
theorem get_inj_of {s : List Int} {i j : Nat} {x : Int} (h : s[i]? = some x) (h' : s[j]? = some x) (hn : s.Nodup) : i = j := get_inj hn h h'
theorem min_cast (a b : Nat) : ((min a b : Nat) : Int) = min (a : Int) (b : Int) := by omega
set_option maxRecDepth 100000 in
set_option maxHeartbeats 8000000 in
theorem leastI (nx : Int → List Int) (nb lo M : Nat) (arr : List Int) (fr : Nat → Nat) (pv : Nat → List Int) (w : World) (b1 b2 b3 c1 c2 : Nat) (vN vP : Value) (hN : ∃ a n c, vN = .slice a n c) (G : Rws lo w vP nb pv)
    (h1 : RowI w b1 M (fun i => arr.getD i 0)) (h2 : RowI w b2 M (fun i => (fr i : Int))) (h3 : RowI w b3 nb (numL arr)) (hc2 : M ≤ c2) (hM0 : 0 < M) (hMb : M ≤ 1048576) (hnb : nb ≤ 1048576) (hMa : M = arr.length) (hnd : arr.Nodup)
    (hbd : ∀ x ∈ arr, 0 ≤ x ∧ x < nb) (hpv : ∀ y : Nat, y < nb → (pv y).length ≤ 1048576 ∧ ∀ x, x ∈ pv y ↔ ∃ i : Nat, x = i ∧ i < nb ∧ (y : Int) ∈ nx i) (hnum : ∀ t : Nat, (0 ≤ numL arr t ↔ (t : Int) ∈ arr) ∧ (∀ a : Nat, arr[a]? = some (t : Int) → numL arr t = a) ∧ numL arr t < M)
    (D : Deep M (EN nx arr) (UpR M fr) fr) (hf0 : fr 0 = 0) :
    Calls Try.prog 55 #[.agg #[.slice (some ⟨b1, 0, none⟩) M c1, .slice (some ⟨b2, 0, none⟩) M c2, .slice (some ⟨b3, 0, none⟩) nb nb], .agg #[vN, vP]] w fun e w' => ∃ (ls : Nat → Nat), e = .returned (.slice (some ⟨w.heap.size + 2, 0, none⟩) M M) ∧ RowI w' (w.heap.size + 2) M (fun i => (ls i : Int)) ∧ Below w.heap.size w w' ∧ ls 0 = 0 ∧ ∀ u, 0 < u → u < M → Least (EN nx arr) (ls u) u := by
  obtain ⟨aN, nN, cN, rfl⟩ := hN
  obtain ⟨hb, ho, ⟨⟨aP, cP, rfl, g1, g2⟩, g3⟩, -, gc⟩ := G.ex
  have hnb0 : 0 < nb := by
    have := hbd arr[0] (List.getElem_mem (by omega))
    omega
  obtain rfl := g2 hnb0
  have hfr : ∀ b, 0 < b → b < M → fr b < b := fun b h0 hb => (D.tree b h0 hb).2.1
  have PC : Kp (∀ (W : World) (i : Nat), Below w.heap.size w W → i < nb → ∃ a c b o, At W hb (ho + i) (.slice a (pv i).length c) ∧ (0 < (pv i).length → a = some ⟨b, o, none⟩) ∧ ∀ q (h : q < (pv i).length), At W b (o + q) (.int .i64 (pv i)[q])) := ⟨fun W i hW hi => by
    obtain ⟨u, h1, h2⟩ := gc i hi
    obtain ⟨b, o, ⟨⟨a, c, rfl, s1, s2⟩, s3⟩, hl, hc⟩ := h2.ex
    exact ⟨a, c, b, o, at_keep h1 hW, s2, fun q hq => at_keep (hc q hq) hW⟩⟩
  clear gc g2 G
  obtain ⟨O, hmk, hRO, -⟩ := mkI M hMb
  have CC : Kp (∀ W t, RowI W b3 nb (numL arr) → Calls Try.prog 46 #[.agg #[.slice (some ⟨b1, 0, none⟩) M c1, .slice (some ⟨b2, 0, none⟩) M c2, .slice (some ⟨b3, 0, none⟩) nb nb], .int .i64 t] W fun e w' => e = .returned (.bool (isC (numL arr) nb t)) ∧ Below W.heap.size W w') := ⟨fun W t h => comesI _ _ _ _ _ _ b3 nb nb (numL arr) t W h hnb⟩
  have CK : Kp (∀ (b c : Nat) (z : Nat → Int) (W : World), RowI W b M z → M ≤ c → Calls Try.prog 39 #[.slice (some ⟨b, 0, none⟩) M c] W _) := ⟨fun b c z W h hc => cloneR b M c z W h hM0 hMb hc⟩
  obtain ⟨W1, hW1⟩ : ∃ W1, Kp (W1 = ((w.alloc (Go.Obj.cells #[.slice (some ⟨b1, 0, none⟩) M c1, .slice (some ⟨b2, 0, none⟩) M c2, .slice (some ⟨b3, 0, none⟩) nb nb] 56)).alloc (Go.Obj.cells #[.slice aN nN cN, .slice (some ⟨hb, ho, none⟩) nb cP] 53)).alloc O) := ⟨_, ⟨rfl⟩⟩
  have hB1 : Below w.heap.size w W1 := by rw [hW1.out]; exact bel_trans (bel_trans (bel_alloc _ _) (bel_alloc _ _)) (bel_alloc _ _)
  have hs1 : W1.heap.size = w.heap.size + 3 := by rw [hW1.out]; simp
  have ha1 : W1.heap[w.heap.size]? = some (Go.Obj.cells #[.slice (some ⟨b1, 0, none⟩) M c1, .slice (some ⟨b2, 0, none⟩) M c2, .slice (some ⟨b3, 0, none⟩) nb nb] 56 (0, 0)) := by rw [hW1.out]; exact keep_cells (keep_cells (new_cells w _) (bel_alloc _ _)) (bel_alloc _ _)
  have hg1 : W1.heap[w.heap.size + 1]? = some (Go.Obj.cells #[.slice aN nN cN, .slice (some ⟨hb, ho, none⟩) nb cP] 53 (0, 0)) := by rw [hW1.out]; exact keep_cells (new_at (by simp)) (bel_alloc _ _)
  have hl1 : RowI W1 (w.heap.size + 2) M (fun _ => 0) := by
    have := hRO ((w.alloc (Go.Obj.cells #[.slice (some ⟨b1, 0, none⟩) M c1, .slice (some ⟨b2, 0, none⟩) M c2, .slice (some ⟨b3, 0, none⟩) nb nb] 56)).alloc (Go.Obj.cells #[.slice aN nN cN, .slice (some ⟨hb, ho, none⟩) nb cP] 53))
    rw [World.size_alloc, World.size_alloc] at this
    rw [hW1.out]; exact this
  have hM1 : (M : Int) ≤ 1048576 := by omega
  have x0 := at_cells ha1 (j := 0) rfl
  have hmk0 := hmk ((w.alloc (Go.Obj.cells #[.slice (some ⟨b1, 0, none⟩) M c1, .slice (some ⟨b2, 0, none⟩) M c2, .slice (some ⟨b3, 0, none⟩) nb nb] 56)).alloc (Go.Obj.cells #[.slice aN nN cN, .slice (some ⟨hb, ho, none⟩) nb cP] 53))
  replace hnum := Kp.mk hnum
  replace hpv := Kp.mk hpv
  replace hbd := Kp.mk hbd
  replace hRO := Kp.mk hRO
  replace hfr := Kp.mk hfr
  replace D := Kp.mk D
  replace h1 := Kp.mk h1
  replace h2 := Kp.mk h2
  replace h3 := Kp.mk h3
  replace hf0 := Kp.mk hf0
  replace hMa := Kp.mk hMa
  replace ha1 := Kp.mk ha1
  replace hg1 := Kp.mk hg1
  go_enter Try.func55, Try.ntmps55
  go_upto_region 2 with fail
  rw [← hW1.out]
  clear hmk hmk0 x0
  go_wp2_with fail
  go_loopw [17] (fun s wr => ∃ k : Nat, k ≤ M ∧ s = .int .i64 k ∧ RowI wr (w.heap.size + 2) M (fun i => if i < k then (i : Int) else 0) ∧ wr.heap[w.heap.size]? = some (Go.Obj.cells #[.slice (some ⟨b1, 0, none⟩) M c1, .slice (some ⟨b2, 0, none⟩) M c2, .slice (some ⟨b3, 0, none⟩) nb nb] 56 (0, 0)) ∧ wr.heap[w.heap.size + 1]? = some (Go.Obj.cells #[.slice aN nN cN, .slice (some ⟨hb, ho, none⟩) nb cP] 53 (0, 0)) ∧ Below w.heap.size w wr) (fun s _ => M - (intOf s).toNat)
  case atStart => exact ⟨0, Nat.zero_le _, rfl, hl1.congr (fun i hi => by simp), ha1.out, hg1.out, hB1⟩
  case round =>
    clear hl1 hB1
    obtain ⟨k, hk, rfl, hl, ha, hg, hB⟩ := hrel
    by_cases hlt : k < M
    · have k0 : (0 : Int) ≤ (k : Int) := by omega
      have k1 : (k : Int) < (M : Int) := by omega
      have ck := hl.at hlt
      have fk := hl.rw k
      have hl2 := hl.set hlt (k : Int)
      have hl3 : RowI (wr.setCell ⟨w.heap.size + 2, k, none⟩ (.int .i64 (k : Int))) (w.heap.size + 2) M (fun i => if i < k + 1 then (i : Int) else 0) := hl2.congr (fun i hi => by
        by_cases e : i = k
        · subst e; rw [upd_same]; simp
        · rw [upd_other _ _ _ _ e]
          by_cases q : i < k
          · rw [if_pos q, if_pos (by omega)]
          · rw [if_neg q, if_neg (by omega)])
      have ha2 := (heap_set wr (w.heap.size + 2) k w.heap.size (.int .i64 (k : Int)) (by omega)).trans ha
      have hg2 := (heap_set wr (w.heap.size + 2) k (w.heap.size + 1) (.int .i64 (k : Int)) (by omega)).trans hg
      have hB2 : Below w.heap.size w (wr.setCell ⟨w.heap.size + 2, k, none⟩ (.int .i64 (k : Int))) := hB.setCell (by show w.heap.size ≤ w.heap.size + 2; omega) _
      replace hl := Kp.mk hl
      replace hl2 := Kp.mk hl2
      replace hl3 := Kp.mk hl3
      replace ha2 := Kp.mk ha2
      replace hg2 := Kp.mk hg2
      go_wp2_with fail
      exact ⟨⟨k + 1, by omega, by go_num, hl3.out, ha2.out, hg2.out, hB2⟩, by simp [intOf]; omega⟩
    · obtain rfl : M = k := by omega
      have hl0 : RowI wr (w.heap.size + 2) M (fun i => ((i : Nat) : Int)) := hl.congr (fun i hi => by simp [hi])
      have x1 := at_cells ha (j := 1) rfl
      have h2r := h2.out.keep' hB
      replace hl := Kp.mk hl
      replace ha := Kp.mk ha
      replace hg := Kp.mk hg
      go_wp2_with fail
      refine (CK.out b2 c2 _ wr h2r hc2).mono ?_
      rintro e w4 ⟨bu, cu, rfl, hcu, hbu, hU, hB4⟩
      go_wp2_with fail
      refine (CK.out (w.heap.size + 2) M _ w4 (hl0.keep hB4) (Nat.le_refl _)).mono ?_
      rintro e w5 ⟨bw, cw, rfl, hcw, hbw, hV, hB5⟩
      obtain ⟨W6, hW6⟩ : ∃ W6, Kp (W6 = w5.alloc (Go.Obj.cells #[.slice (some ⟨bu, 0, none⟩) M cu, .slice (some ⟨bw, 0, none⟩) M cw] 129)) := ⟨_, ⟨rfl⟩⟩
      have hB6 : Below w5.heap.size w5 W6 := by rw [hW6.out]; exact bel_alloc _ _
      have hbd6 : W6.heap[w5.heap.size]? = some (Go.Obj.cells #[.slice (some ⟨bu, 0, none⟩) M cu, .slice (some ⟨bw, 0, none⟩) M cw] 129 (0, 0)) := by rw [hW6.out]; exact new_cells _ _
      obtain ⟨Bd, hBd⟩ : ∃ Bd, Kp (w5.heap.size = Bd) := ⟨_, ⟨rfl⟩⟩
      have hws : w.heap.size + 2 < wr.heap.size := hl.out.lt
      have hbuw : bu < w4.heap.size := hU.lt
      have hbww : bw < w5.heap.size := hV.lt
      have hne : bu ≠ bw := by omega
      have hbu2 : bu < w5.heap.size := by have := hB5.size; omega
      have hI6 : LbI M nb bu bw cu cw Bd b1 b2 b3 c1 c2 (.slice aN nN cN) (.slice (some ⟨hb, ho, none⟩) nb cP) w W6 (fun i => i) fr (fun i => i) :=
        ⟨(((hl0.keep hB4).keep hB5).keep hB6), (hU.keep hB5).keep hB6, hV.keep hB6, by rw [← hBd.out]; exact hbd6, keep_cells (keep_cells (keep_cells ha.out hB4) hB5) hB6, keep_cells (keep_cells (keep_cells hg.out hB4) hB5) hB6, bel_trans (bel_trans (bel_trans hB hB4) hB5) hB6⟩
      rw [hBd.out] at hbu2 hbww
      have hwB : w.heap.size + 2 < Bd := by have := hB4.size; have := hB5.size; have := hBd.out; omega
      have hb3w : b3 < w.heap.size := h3.out.lt
      have hwbu : w.heap.size + 2 < bu := by omega
      have hwbw : w.heap.size + 2 < bw := by have := hB4.size; omega
      replace hI6 := Kp.mk hI6
      replace hl0 := Kp.mk hl0
      replace hU := Kp.mk hU
      replace hV := Kp.mk hV
      replace hbd6 := Kp.mk hbd6
      clear x1 h2r
      go_upto_region 8 with fail
      rw [← hW6.out]
      rw [hBd.out]
      clear hW6
      go_wp2_with fail
      go_loopw [8] (fun s wr => ∃ k : Nat, k < M ∧ s = .int .i64 k ∧ ∃ (ls up low : Nat → Nat), LbI M nb bu bw cu cw Bd b1 b2 b3 c1 c2 (.slice aN nN cN) (.slice (some ⟨hb, ho, none⟩) nb cP) w wr ls up low ∧ Asc M fr ls up low (k + 1) ∧ (∀ u, u ≤ k → ls u = u) ∧ ∀ u, k < u → u < M → Least (EN nx arr) (ls u) u) (fun s _ => (intOf s).toNat)
      case atStart => exact ⟨M - 1, by omega, by rw [show ((M - 1 : Nat) : Int) = (M : Int) - 1 by omega], _, _, _, hI6.out, by rw [show M - 1 + 1 = M by omega]; exact Asc.start M fr _, fun u hu => rfl, fun u h1 h2 => by omega⟩
      case round =>
        clear hI6
        obtain ⟨k, hn, rfl, ls, up, low, hI, hA, hid, hle⟩ := hrel
        by_cases k0 : k = 0
        · subst k0
          replace hI := Kp.mk hI
          replace hA := Kp.mk hA
          replace hle := Kp.mk hle
          replace hid := Kp.mk hid
          go_wp2_with fail
          go_ret
          exact ⟨ls, rfl, hI.out.L, hI.out.bel, hid.out 0 (Nat.le_refl _), hle.out⟩
        · skip
          have hk0 : 0 < k := by omega
          have hkl : k < arr.length := by rw [← hMa.out]; exact hn
          have hmx := hbd.out arr[k] (List.getElem_mem hkl)
          have hax : arr[k]? = some arr[k] := List.getElem?_eq_getElem hkl
          have d1 := (h1.out.keep' hI.bel).at hn
          rw [show arr.getD k 0 = arr[k] by simp [hkl]] at d1
          generalize arr[k] = x at *
          obtain ⟨tx, rfl⟩ : ∃ tx : Nat, x = tx := ⟨x.toNat, by omega⟩
          have htx : tx < nb := by omega
          obtain ⟨hpl, hpm⟩ := hpv.out tx htx
          obtain ⟨pa, pc, pb, po, hrow0, hpa, hpc⟩ := PC.out w tx (Below.refl _ _) htx
          have hrow := at_keep hrow0 hI.bel
          have x0 := at_cells hI.ba (j := 0) rfl
          have x2 := at_cells hI.bg (j := 1) rfl
          have k0 : (0 : Int) ≤ (k : Int) := by omega
          have k1 : (k : Int) < (M : Int) := by omega
          have t0 : (0 : Int) ≤ (tx : Int) := by omega
          have t1 : (tx : Int) < (nb : Int) := by omega
          have kpos : decide ((k : Int) > 0) = true := by simp; omega
          have hId := hI.keep (bel_drew wr)
          have PC2 : Kp (∀ (W : World) (q : Nat) (h : q < (pv tx).length), Below w.heap.size w W → At W pb (po + q) (.int .i64 (pv tx)[q])) := ⟨fun W q h hW => at_keep (hpc q h) hW⟩
          obtain ⟨wd, hwd⟩ : ∃ wd, Kp (wd = wr.drew) := ⟨_, ⟨rfl⟩⟩
          rw [← hwd.out] at hId
          have hbd' : Below wr.heap.size wr wd := by rw [hwd.out]; exact bel_drew wr
          have hsn : (fun i => ((setN ls k k i : Nat) : Int)) = (fun i => (ls i : Int)) := by
            funext i
            unfold setN
            split
            · rename_i e; subst e; rw [hid i (Nat.le_refl _)]
            · rfl
          have hId0 : LbI M nb bu bw cu cw Bd b1 b2 b3 c1 c2 (.slice aN nN cN) (.slice (some ⟨hb, ho, none⟩) nb cP) w wd (setN ls k k) up low := { hId with L := by rw [hsn]; exact hId.L }
          replace hI := Kp.mk hI
          replace hId := Kp.mk hId
          replace hA := Kp.mk hA
          replace hle := Kp.mk hle
          replace hid := Kp.mk hid
          replace hpa := Kp.mk hpa
          replace hpm := Kp.mk hpm
          replace hsn := Kp.mk hsn
          replace hId0 := Kp.mk hId0
          clear hpc
          go_upto_region 11 with fail
          go_region
          go_upto_region 12 with fail
          rw [← hwd.out]
          go_loopw [48] (fun s wz => ∃ j : Nat, j ≤ (pv tx).length ∧ s = .int .i64 j ∧ ∃ (l : Nat) (up low : Nat → Nat), LbI M nb bu bw cu cw Bd b1 b2 b3 c1 c2 (.slice aN nN cN) (.slice (some ⟨hb, ho, none⟩) nb cP) w wz (setN ls k l) up low ∧ Asc M fr ls up low (k + 1) ∧ (l = k ∨ ∃ v, EN nx arr v k ∧ Told M fr ls k v l) ∧ (∀ i v : Nat, i < j → arr[v]? = (pv tx)[i]? → i < (pv tx).length → ∃ m, Told M fr ls k v m ∧ l ≤ m)) (fun s _ => (pv tx).length - (intOf s).toNat)
          case atStart => exact ⟨0, Nat.zero_le _, rfl, k, up, low, hId0.out, hA.out, .inl rfl, fun i v hi => absurd hi (by omega)⟩
          case round =>
            clear hId0
            obtain ⟨j, hj, rfl, l, up, low, hI, hA, hl, hall⟩ := hrel
            by_cases hlt : j < (pv tx).length
            · have cj := PC2.out wr j hlt hI.bel
              obtain rfl := hpa.out (by omega)
              have hjg : (pv tx)[j]? = some (pv tx)[j] := List.getElem?_eq_getElem hlt
              obtain ⟨t, hxt, htn, htm⟩ := (hpm.out _).1 (List.getElem_mem hlt)
              rw [hxt] at cj hjg
              have j0 : (0 : Int) ≤ (j : Int) := by omega
              have j1 : (j : Int) < ((pv tx).length : Int) := by omega
              have hjm : (j : Int) ≤ 1048576 := by omega
              have b30 := (h3.out.keep' hI.bel)
              have C1 := CC.out wr (t : Int) b30
              obtain ⟨hn1, hn2, hn3⟩ := hnum.out t
              have xa := at_cells hI.ba (j := 0) rfl
              have xb := at_cells hI.ba (j := 1) rfl
              have xc := at_cells hI.ba (j := 2) rfl
              by_cases hta : (t : Int) ∈ arr
              · have hic : isC (numL arr) nb (t : Int) = true := by
                  unfold isC
                  have h0 := hn1.2 hta
                  simp; omega
                rw [hic] at C1
                obtain ⟨v, hv⟩ := List.getElem?_of_mem hta
                have hnv := hn2 v hv
                have hvM : v < M := by rw [hMa.out]; exact lt_of_get hv
                have hE : EN nx arr v k := ⟨t, tx, hv, hax, htm⟩
                replace C1 := Kp.mk C1
                replace hI := Kp.mk hI
                replace hA := Kp.mk hA
                replace hl := Kp.mk hl
                replace hall := Kp.mk hall
                replace hn1 := Kp.mk hn1
                replace hn2 := Kp.mk hn2
                replace hn3 := Kp.mk hn3
                replace hE := Kp.mk hE
                replace hv := Kp.mk hv
                replace hxt := Kp.mk hxt
                replace hjg := Kp.mk hjg
                replace b30 := Kp.mk b30
                go_wp2_with fail
                refine C1.out.mono ?_
                rintro e wz ⟨rfl, hBz⟩
                have hIz := hI.out.keep hBz
                have hw0 : Below w.heap.size w wz := hIz.bel
                have hIzd := hIz.keep (bel_drew wz)
                have b3z := b30.out.keep hBz
                have lowC := lowestI M fr ls up low k v bu bw cu cw wz.drew hIzd.U hIzd.V hne hA.out hfr.out hf0.out hMb hvM hn
                have CL := Kp.mk lowC
                have k15 : Kp (∀ W', Below wz.heap.size wz W' → (W'.cell? ⟨w.heap.size, 2, none⟩ = some (.slice (some ⟨b3, 0, none⟩) nb nb) ∧ W'.cell? ⟨b3, t, none⟩ = some (.int .i64 (v : Int))) ∧ W'.cell? ⟨Bd, 0, none⟩ = some (.slice (some ⟨bu, 0, none⟩) M cu) ∧ W'.cell? ⟨Bd, 1, none⟩ = some (.slice (some ⟨bw, 0, none⟩) M cw)) := ⟨fun W' h => by
                  have h1 := hIz.keep h
                  have h2 := (b3z.keep h).at htn
                  rw [hnv] at h2
                  exact ⟨⟨at_cells h1.ba (j := 2) rfl, h2⟩, at_cells h1.bd (j := 0) rfl, at_cells h1.bd (j := 1) rfl⟩⟩
                have hly := hIz.L.at hn
                rw [setN_same] at hly
                have hlyd : wz.drew.cell? ⟨w.heap.size + 2, k, none⟩ = some (.int .i64 (l : Int)) := hly
                have after : Kp (∀ (m : Nat) (up2 low2 : Nat → Nat) (w2 : World), RowI w2 bu M (fun i => (up2 i : Int)) → RowI w2 bw M (fun i => (low2 i : Int)) → Asc M fr ls up2 low2 (k + 1) → Told M fr ls k v m → Fr wz.drew w2 bu (some bw) →
                    ((w2.cell? ⟨w.heap.size, 2, none⟩ = some (.slice (some ⟨b3, 0, none⟩) nb nb) ∧ w2.cell? ⟨b3, t, none⟩ = some (.int .i64 (v : Int))) ∧ w2.cell? ⟨Bd, 0, none⟩ = some (.slice (some ⟨bu, 0, none⟩) M cu) ∧ w2.cell? ⟨Bd, 1, none⟩ = some (.slice (some ⟨bw, 0, none⟩) M cw)) ∧
                    w2.cell? ⟨w.heap.size + 2, k, none⟩ = some (.int .i64 (l : Int)) ∧ w2.frozen? ⟨w.heap.size + 2, k, none⟩ = false ∧
                    (((w2.setCell ⟨w.heap.size + 2, k, none⟩ (.int .i64 (min (l : Int) (m : Int)))).cell? ⟨w.heap.size, 2, none⟩ = some (.slice (some ⟨b3, 0, none⟩) nb nb) ∧ (w2.setCell ⟨w.heap.size + 2, k, none⟩ (.int .i64 (min (l : Int) (m : Int)))).cell? ⟨b3, t, none⟩ = some (.int .i64 (v : Int))) ∧ (w2.setCell ⟨w.heap.size + 2, k, none⟩ (.int .i64 (min (l : Int) (m : Int)))).cell? ⟨Bd, 0, none⟩ = some (.slice (some ⟨bu, 0, none⟩) M cu) ∧ (w2.setCell ⟨w.heap.size + 2, k, none⟩ (.int .i64 (min (l : Int) (m : Int)))).cell? ⟨Bd, 1, none⟩ = some (.slice (some ⟨bw, 0, none⟩) M cw)) ∧
                    LbI M nb bu bw cu cw Bd b1 b2 b3 c1 c2 (.slice aN nN cN) (.slice (some ⟨hb, ho, none⟩) nb cP) w (w2.setCell ⟨w.heap.size + 2, k, none⟩ (.int .i64 (min (l : Int) (m : Int)))) (setN ls k (min l m)) up2 low2 ∧ Asc M fr ls up2 low2 (k + 1) ∧ (min l m = k ∨ ∃ v, EN nx arr v k ∧ Told M fr ls k v (min l m)) ∧
                      ∀ i v : Nat, i < j + 1 → arr[v]? = (pv tx)[i]? → i < (pv tx).length → ∃ m', Told M fr ls k v m' ∧ min l m ≤ m') := ⟨fun m up2 low2 w2 hU2 hV2 hA2 hT2 hF2 => by
                  have hsz := hIzd.L.lt
                  have hBdz : Bd < wz.drew.heap.size := (Array.getElem?_eq_some_iff.1 hIzd.bd).1
                  have keep : ∀ q, q < wz.drew.heap.size → q ≠ bu → q ≠ bw → w2.heap[q]? = wz.drew.heap[q]? := fun q q1 q2 q3 => hF2.block q q1 q2 (fun e => q3 (Option.some.inj e))
                  have hL2 : RowI w2 (w.heap.size + 2) M (fun i => (setN ls k l i : Int)) := hIzd.L.same (keep _ hsz (by omega) (by omega))
                  have hbd2 := (keep Bd hBdz (by omega) (by omega)).trans hIzd.bd
                  have hba2 := (keep w.heap.size (by omega) (by omega) (by omega)).trans hIzd.ba
                  have hbg2 := (keep (w.heap.size + 1) (by omega) (by omega) (by omega)).trans hIzd.bg
                  have hb32 : RowI w2 b3 nb (numL arr) := (b3z.keep (bel_drew wz)).same (keep b3 (by omega) (by omega) (by omega))
                  have hn32 := hb32.at htn
                  rw [hnv] at hn32
                  have hl2 := hL2.at hn
                  rw [setN_same] at hl2
                  have e9 : ∀ q, q ≠ w.heap.size + 2 → (w2.setCell ⟨w.heap.size + 2, k, none⟩ (.int .i64 (min (l : Int) (m : Int)))).heap[q]? = w2.heap[q]? := fun q hq => heap_set _ _ _ _ _ hq
                  have hbel2 : Below w.heap.size w w2 := ⟨hF2.os.trans hIzd.bel.os, hF2.tape.trans hIzd.bel.tape, hF2.output.trans hIzd.bel.output, Nat.le_trans hIzd.bel.size hF2.size, fun q hq => (keep q (by omega) (by omega) (by omega)).trans (hIzd.bel.block q hq)⟩
                  refine ⟨⟨⟨at_cells hba2 (j := 2) rfl, hn32⟩, at_cells hbd2 (j := 0) rfl, at_cells hbd2 (j := 1) rfl⟩, hl2, hL2.rw k, ⟨⟨at_cells ((e9 _ (by omega)).trans hba2) (j := 2) rfl, at_same hn32 (e9 _ (by omega))⟩, at_cells ((e9 _ (by omega)).trans hbd2) (j := 0) rfl, at_cells ((e9 _ (by omega)).trans hbd2) (j := 1) rfl⟩,
                    ⟨?_, hU2.same (e9 _ (by omega)), hV2.same (e9 _ (by omega)), (e9 _ (by omega)).trans hbd2, (e9 _ (by omega)).trans hba2, (e9 _ (by omega)).trans hbg2, hbel2.setCell (by show w.heap.size ≤ w.heap.size + 2; omega) _⟩, hA2, ?_, fun i v' hi hv' hil => ?_⟩
                  · refine (hL2.set hn (min (l : Int) (m : Int))).congr (fun i hi => ?_)
                    by_cases e : i = k
                    · subst e
                      rw [setN_same, upd_same]
                      exact min_cast l m
                    · rw [setN_other _ _ e, upd_other _ _ _ _ e]
                      show _ = ((setN ls k l i : Nat) : Int)
                      rw [setN_other _ _ e]
                  · rcases Nat.le_total l m with q | q
                    · rw [Nat.min_eq_left q]; exact hl.out
                    · rw [Nat.min_eq_right q]; exact .inr ⟨v, hE.out, hT2⟩
                  · by_cases e : i = j
                    · subst e
                      rw [hjg.out] at hv'
                      have hvv : v' = v := get_inj_of hv' hv.out hnd
                      subst hvv
                      exact ⟨m, hT2, Nat.min_le_right _ _⟩
                    · obtain ⟨m', h1, h2⟩ := hall.out i v' (by omega) hv' hil
                      exact ⟨m', h1, Nat.le_trans (Nat.min_le_left _ _) h2⟩⟩
                have v0 : (0 : Int) ≤ (v : Int) := by omega
                have tt0 : (0 : Int) ≤ (t : Int) := by omega
                have tt1 : (t : Int) < (nb : Int) := by omega
                have ya := at_cells hIz.ba (j := 2) rfl
                have hwk : IntKind.i64.wrap ((k : Int) + 1) = (k : Int) + 1 := by rw [IntKind.wrap_i64]; omega
                replace hIz := Kp.mk hIz
                replace hIzd := Kp.mk hIzd
                replace b3z := Kp.mk b3z
                replace hnv := Kp.mk hnv
                clear lowC C1 xa xb xc cj
                go_upto_region 15 with fail
                refine wp_region_held_drew (S := fun W' => (W'.cell? ⟨w.heap.size, 2, none⟩ = some (.slice (some ⟨b3, 0, none⟩) nb nb) ∧ W'.cell? ⟨b3, t, none⟩ = some (.int .i64 (v : Int))) ∧ W'.cell? ⟨Bd, 0, none⟩ = some (.slice (some ⟨bu, 0, none⟩) M cu) ∧ W'.cell? ⟨Bd, 1, none⟩ = some (.slice (some ⟨bw, 0, none⟩) M cw)) (by kernel_rfl) (k15.out _ (bel_drew _)) (fun hHeld => ?_)
                refine wpAnyH_take (i := 0) (v := .slice (some ⟨w.heap.size + 2, 0, none⟩) M M) rfl (by kernel_rfl) (by kernel_rfl) (by kernel_rfl) (fun _ _ _ h => h) (Or.inl ⟨by rfl, fun wq hSw => by (try dsimp only at hSw); go_simp⟩) hHeld ?_
                try simp only [Act.put, List.getElem_toArray, List.getElem_cons_succ, List.getElem_cons_zero, List.setIfInBounds_toArray, List.set_cons_zero, List.set_cons_succ]
                refine wpAnyH_take (i := 1) (v := .int .i64 (k : Int)) rfl (by kernel_rfl) (by kernel_rfl) (by kernel_rfl) (fun _ _ _ h => h) (Or.inl ⟨by rfl, fun wq hSw => by (try dsimp only at hSw); go_simp⟩) hHeld ?_
                try simp only [Act.put, List.getElem_toArray, List.getElem_cons_succ, List.getElem_cons_zero, List.setIfInBounds_toArray, List.set_cons_zero, List.set_cons_succ]
                refine wpAnyH_take (i := 2) (v := .slice (some ⟨w.heap.size + 2, 0, none⟩) M M) rfl (by kernel_rfl) (by kernel_rfl) (by kernel_rfl) (fun _ _ _ h => h) (Or.inl ⟨by rfl, fun wq hSw => by (try dsimp only at hSw); go_simp⟩) hHeld ?_
                try simp only [Act.put, List.getElem_toArray, List.getElem_cons_succ, List.getElem_cons_zero, List.setIfInBounds_toArray, List.set_cons_zero, List.set_cons_succ]
                refine wpAnyH_take (i := 3) (v := .int .i64 (k : Int)) rfl (by kernel_rfl) (by kernel_rfl) (by kernel_rfl) (fun _ _ _ h => h) (Or.inl ⟨by rfl, fun wq hSw => by (try dsimp only at hSw); go_simp⟩) hHeld ?_
                try simp only [Act.put, List.getElem_toArray, List.getElem_cons_succ, List.getElem_cons_zero, List.setIfInBounds_toArray, List.set_cons_zero, List.set_cons_succ]
                refine wpAnyH_take (i := 4) (v := .pointer (some ⟨w.heap.size + 2, k, none⟩)) rfl (by kernel_rfl) (by kernel_rfl) (by kernel_rfl) (fun _ _ _ h => h) (Or.inl ⟨by rfl, fun wq hSw => by (try dsimp only at hSw); go_simp⟩) hHeld ?_
                try simp only [Act.put, List.getElem_toArray, List.getElem_cons_succ, List.getElem_cons_zero, List.setIfInBounds_toArray, List.set_cons_zero, List.set_cons_succ]
                refine wpAnyH_take (i := 6) (v := .agg #[.slice (some ⟨bu, 0, none⟩) M cu, .slice (some ⟨bw, 0, none⟩) M cw]) rfl (by kernel_rfl) (by kernel_rfl) (by kernel_rfl) (fun _ _ _ h => h) (Or.inl ⟨by rfl, fun wq hSw => by (try dsimp only at hSw); go_simp⟩) hHeld ?_
                try simp only [Act.put, List.getElem_toArray, List.getElem_cons_succ, List.getElem_cons_zero, List.setIfInBounds_toArray, List.set_cons_zero, List.set_cons_succ]
                refine wpAnyH_take (i := 7) (v := .pointer (some ⟨w.heap.size, 2, none⟩)) rfl (by kernel_rfl) (by kernel_rfl) (by kernel_rfl) (fun _ _ _ h => h) (Or.inl ⟨by rfl, fun wq hSw => by (try dsimp only at hSw); go_simp⟩) hHeld ?_
                try simp only [Act.put, List.getElem_toArray, List.getElem_cons_succ, List.getElem_cons_zero, List.setIfInBounds_toArray, List.set_cons_zero, List.set_cons_succ]
                refine wpAnyH_take (i := 8) (v := .slice (some ⟨b3, 0, none⟩) nb nb) rfl (by kernel_rfl) (by kernel_rfl) (by kernel_rfl) (fun _ _ _ h => h) (Or.inl ⟨by rfl, fun wq hSw => by (try dsimp only at hSw); go_simp⟩) hHeld ?_
                try simp only [Act.put, List.getElem_toArray, List.getElem_cons_succ, List.getElem_cons_zero, List.setIfInBounds_toArray, List.set_cons_zero, List.set_cons_succ]
                refine wpAnyH_take (i := 9) (v := .int .i64 (t : Int)) rfl (by kernel_rfl) (by kernel_rfl) (by kernel_rfl) (fun _ _ _ h => h) (Or.inl ⟨by rfl, fun wq hSw => by (try dsimp only at hSw); go_simp⟩) hHeld ?_
                try simp only [Act.put, List.getElem_toArray, List.getElem_cons_succ, List.getElem_cons_zero, List.setIfInBounds_toArray, List.set_cons_zero, List.set_cons_succ]
                refine wpAnyH_take (i := 10) (v := .pointer (some ⟨b3, t, none⟩)) rfl (by kernel_rfl) (by kernel_rfl) (by kernel_rfl) (fun _ _ _ h => h) (Or.inl ⟨by rfl, fun wq hSw => by (try dsimp only at hSw); go_simp⟩) hHeld ?_
                try simp only [Act.put, List.getElem_toArray, List.getElem_cons_succ, List.getElem_cons_zero, List.setIfInBounds_toArray, List.set_cons_zero, List.set_cons_succ]
                refine wpAnyH_take (i := 11) (v := .int .i64 (v : Int)) rfl (by kernel_rfl) (by kernel_rfl) (by kernel_rfl) (fun _ _ _ h => h) (Or.inl ⟨by rfl, fun wq hSw => by (try dsimp only at hSw); go_simp⟩) hHeld ?_
                try simp only [Act.put, List.getElem_toArray, List.getElem_cons_succ, List.getElem_cons_zero, List.setIfInBounds_toArray, List.set_cons_zero, List.set_cons_succ]
                refine wpAnyH_take (i := 12) (v := .int .i64 (k : Int)) rfl (by kernel_rfl) (by kernel_rfl) (by kernel_rfl) (fun _ _ _ h => h) (Or.inl ⟨by rfl, fun wq hSw => by (try dsimp only at hSw); go_simp⟩) hHeld ?_
                try simp only [Act.put, List.getElem_toArray, List.getElem_cons_succ, List.getElem_cons_zero, List.setIfInBounds_toArray, List.set_cons_zero, List.set_cons_succ]
                refine wpAnyH_take (i := 13) (v := .int .i64 ((k : Int) + 1)) rfl (by kernel_rfl) (by kernel_rfl) (by kernel_rfl) (fun _ _ _ h => h) (Or.inl ⟨by rfl, fun wq hSw => by (try dsimp only at hSw); go_simp⟩) hHeld ?_
                try simp only [Act.put, List.getElem_toArray, List.getElem_cons_succ, List.getElem_cons_zero, List.setIfInBounds_toArray, List.set_cons_zero, List.set_cons_succ]
                refine wpAnyH_ready (rs := [5, 14]) (by kernel_rfl) (by simp) ?_
                refine AllReadyH.cons rfl (fun K hK => ?_) (AllReadyH.cons rfl (fun K hK => ?_) AllReadyH.nil)
                · go_simp
                  refine hK.out _ _ (k15.out _ (bel_drew _)) (fun hHeld => ?_)
                  clear hK K
                  try simp only [Act.put, List.getElem_toArray, List.getElem_cons_succ, List.getElem_cons_zero, List.setIfInBounds_toArray, List.set_cons_zero, List.set_cons_succ]
                  refine wpAnyH_ready (rs := [14]) (by kernel_rfl) (by simp) ?_
                  refine AllReadyH.cons rfl (fun K hK => ?_) AllReadyH.nil
                  go_simp
                  refine CL.out.mono ?_
                  rintro e w2 ⟨m, up2, low2, rfl, hU2, hV2, hA2, hT2, hF2⟩
                  obtain ⟨s2, l2, hf2, hlast⟩ := after.out m up2 low2 w2 hU2 hV2 hA2 hT2 hF2
                  refine hK.out _ _ s2 (fun hHeld => ?_)
                  clear hK K
                  try simp only [Act.put, List.getElem_toArray, List.getElem_cons_succ, List.getElem_cons_zero, List.setIfInBounds_toArray, List.set_cons_zero, List.set_cons_succ]
                  refine wpAnyH_take (i := 15) (v := .int .i64 (min (l : Int) (m : Int))) rfl (by kernel_rfl) (by kernel_rfl) (by kernel_rfl) (fun _ _ _ h => h) (Or.inl ⟨by rfl, fun wq hSw => by (try dsimp only at hSw); go_simp⟩) hHeld ?_
                  try simp only [Act.put, List.getElem_toArray, List.getElem_cons_succ, List.getElem_cons_zero, List.setIfInBounds_toArray, List.set_cons_zero, List.set_cons_succ]
                  refine wpAnyH_take (i := 16) (v := .pointer (some ⟨w.heap.size + 2, k, none⟩)) rfl (by kernel_rfl) (by kernel_rfl) (by kernel_rfl) (fun _ _ _ h => h) (Or.inl ⟨by rfl, fun wq hSw => by (try dsimp only at hSw); go_simp⟩) hHeld ?_
                  try simp only [Act.put, List.getElem_toArray, List.getElem_cons_succ, List.getElem_cons_zero, List.setIfInBounds_toArray, List.set_cons_zero, List.set_cons_succ]
                  refine wpAnyH_ready (rs := [17]) (by kernel_rfl) (by simp) ?_
                  refine AllReadyH.cons rfl (fun K hK => ?_) AllReadyH.nil
                  go_simp
                  refine hK.out _ _ hlast.1 (fun hHeld => ?_)
                  clear hK K
                  try simp only [Act.put, List.getElem_toArray, List.getElem_cons_succ, List.getElem_cons_zero, List.setIfInBounds_toArray, List.set_cons_zero, List.set_cons_succ]
                  refine wpAnyH_done (by kernel_rfl) ?_ _
                  replace hlast := Kp.mk hlast.2
                  replace hU2 := Kp.mk hU2
                  replace hV2 := Kp.mk hV2
                  clear s2 l2 hf2 hHeld
                  go_wp2_with fail
                  obtain ⟨q1, q2, q3, q4⟩ := hlast.out
                  exact ⟨⟨j + 1, by omega, by go_num, min l m, up2, low2, q1, q2, q3, q4⟩, by simp [intOf]; omega⟩
                · go_simp
                  refine CL.out.mono ?_
                  rintro e w2 ⟨m, up2, low2, rfl, hU2, hV2, hA2, hT2, hF2⟩
                  obtain ⟨s2, l2, hf2, hlast⟩ := after.out m up2 low2 w2 hU2 hV2 hA2 hT2 hF2
                  refine hK.out _ _ s2 (fun hHeld => ?_)
                  clear hK K
                  try simp only [Act.put, List.getElem_toArray, List.getElem_cons_succ, List.getElem_cons_zero, List.setIfInBounds_toArray, List.set_cons_zero, List.set_cons_succ]
                  refine wpAnyH_ready (rs := [5]) (by kernel_rfl) (by simp) ?_
                  refine AllReadyH.cons rfl (fun K hK => ?_) AllReadyH.nil
                  go_simp
                  refine hK.out _ _ s2 (fun hHeld => ?_)
                  clear hK K
                  try simp only [Act.put, List.getElem_toArray, List.getElem_cons_succ, List.getElem_cons_zero, List.setIfInBounds_toArray, List.set_cons_zero, List.set_cons_succ]
                  refine wpAnyH_take (i := 15) (v := .int .i64 (min (l : Int) (m : Int))) rfl (by kernel_rfl) (by kernel_rfl) (by kernel_rfl) (fun _ _ _ h => h) (Or.inl ⟨by rfl, fun wq hSw => by (try dsimp only at hSw); go_simp⟩) hHeld ?_
                  try simp only [Act.put, List.getElem_toArray, List.getElem_cons_succ, List.getElem_cons_zero, List.setIfInBounds_toArray, List.set_cons_zero, List.set_cons_succ]
                  refine wpAnyH_take (i := 16) (v := .pointer (some ⟨w.heap.size + 2, k, none⟩)) rfl (by kernel_rfl) (by kernel_rfl) (by kernel_rfl) (fun _ _ _ h => h) (Or.inl ⟨by rfl, fun wq hSw => by (try dsimp only at hSw); go_simp⟩) hHeld ?_
                  try simp only [Act.put, List.getElem_toArray, List.getElem_cons_succ, List.getElem_cons_zero, List.setIfInBounds_toArray, List.set_cons_zero, List.set_cons_succ]
                  refine wpAnyH_ready (rs := [17]) (by kernel_rfl) (by simp) ?_
                  refine AllReadyH.cons rfl (fun K hK => ?_) AllReadyH.nil
                  go_simp
                  refine hK.out _ _ hlast.1 (fun hHeld => ?_)
                  clear hK K
                  try simp only [Act.put, List.getElem_toArray, List.getElem_cons_succ, List.getElem_cons_zero, List.setIfInBounds_toArray, List.set_cons_zero, List.set_cons_succ]
                  refine wpAnyH_done (by kernel_rfl) ?_ _
                  replace hlast := Kp.mk hlast.2
                  replace hU2 := Kp.mk hU2
                  replace hV2 := Kp.mk hV2
                  clear s2 l2 hf2 hHeld
                  go_wp2_with fail
                  obtain ⟨q1, q2, q3, q4⟩ := hlast.out
                  exact ⟨⟨j + 1, by omega, by go_num, min l m, up2, low2, q1, q2, q3, q4⟩, by simp [intOf]; omega⟩
              · have hic : isC (numL arr) nb (t : Int) = false := by
                  unfold isC
                  have h0 : ¬ 0 ≤ numL arr t := fun q => hta (hn1.1 q)
                  simp; omega
                rw [hic] at C1
                replace C1 := Kp.mk C1
                replace hI := Kp.mk hI
                replace hA := Kp.mk hA
                replace hl := Kp.mk hl
                replace hn1 := Kp.mk hn1
                replace hn2 := Kp.mk hn2
                replace hn3 := Kp.mk hn3
                replace hxt := Kp.mk hxt
                replace b30 := Kp.mk b30
                have hall2 : Kp (∀ i v : Nat, i < j + 1 → arr[v]? = (pv tx)[i]? → i < (pv tx).length → ∃ m, Told M fr ls k v m ∧ l ≤ m) := ⟨fun i v hi hv hil => by
                  by_cases e : i = j
                  · subst e
                    rw [hjg] at hv
                    exact absurd (List.mem_of_getElem? hv) hta
                  · exact hall i v (by omega) hv hil⟩
                replace hjg := Kp.mk hjg
                replace hall := Kp.mk hall
                go_wp2_with fail
                refine C1.out.mono ?_
                rintro e wz ⟨rfl, hBz⟩
                have hIz := hI.out.keep hBz
                replace hIz := Kp.mk hIz
                go_wp2_with fail
                exact ⟨⟨j + 1, by omega, by go_num, l, up, low, hIz.out, hA.out, hl.out, hall2.out⟩, by simp [intOf]; omega⟩
            · obtain rfl : j = (pv tx).length := by omega
              have hLk : Least (EN nx arr) l k := Least.of_told D.out hk0 hn hle.out hl (fun v hv => by
                obtain ⟨x, y, hvx, hky, hyx⟩ := hv
                rw [hax] at hky
                cases hky
                have hxb := hbd.out x (List.mem_of_getElem? hvx)
                obtain ⟨i, rfl⟩ : ∃ i : Nat, x = i := ⟨x.toNat, by omega⟩
                obtain ⟨q, hq⟩ := List.getElem?_of_mem ((hpm.out (i : Int)).2 ⟨i, rfl, by omega, hyx⟩)
                have hql := (List.getElem?_eq_some_iff.1 hq).1
                exact hall q v hql (by rw [hvx, hq]) hql)
              have hA1 : Asc M fr (setN ls k l) up low (k + 1) := hA.congr (fun u hu => setN_other _ _ (by omega))
              have hA2 := hA1.next hfr.out hk0 hn
              have hyl := hI.L.at hn
              rw [setN_same] at hyl
              have y1 := at_cells hI.bd (j := 1) rfl
              have yl : wr.cell? ⟨w.heap.size + 2, k, none⟩ = some (.int .i64 (l : Int)) := hyl
              have fw : wr.frozen? ⟨bw, k, none⟩ = false := hI.V.rw k
              have fwd : wr.drew.frozen? ⟨bw, k, none⟩ = false := hI.V.rw k
              have cwo := hI.V.at hn
              have hId := hI.keep (bel_drew wr)
              have e9 : ∀ q, q ≠ bw → (wr.drew.setCell ⟨bw, k, none⟩ (.int .i64 (l : Int))).heap[q]? = wr.drew.heap[q]? := fun q hq => heap_set _ _ _ _ _ hq
              have hnew : LbI M nb bu bw cu cw Bd b1 b2 b3 c1 c2 (.slice aN nN cN) (.slice (some ⟨hb, ho, none⟩) nb cP) w (wr.drew.setCell ⟨bw, k, none⟩ (.int .i64 (l : Int))) (setN ls k l) up (fun v => if v = k then (setN ls k l) k else low v) :=
                ⟨hId.L.same (e9 _ (by omega)), hId.U.same (e9 _ hne), (hId.V.set hn (l : Int)).congr (fun i hi => by
                  by_cases e : i = k
                  · subst e; rw [upd_same]; simp [setN_same]
                  · rw [upd_other _ _ _ _ e]; simp [e]), (e9 _ (by omega)).trans hId.bd, (e9 _ (by omega)).trans hId.ba, (e9 _ (by omega)).trans hId.bg, hId.bel.setCell (by show w.heap.size ≤ bw; omega) _⟩
              have hs17 : (wr.drew.setCell ⟨bw, k, none⟩ (.int .i64 (l : Int))).cell? ⟨Bd, 1, none⟩ = some (.slice (some ⟨bw, 0, none⟩) M cw) ∧ (wr.drew.setCell ⟨bw, k, none⟩ (.int .i64 (l : Int))).cell? ⟨w.heap.size + 2, k, none⟩ = some (.int .i64 (l : Int)) := ⟨at_cells hnew.bd (j := 1) rfl, by have := hnew.L.at hn; rwa [setN_same] at this⟩
              have hid2 : Kp (∀ u, u ≤ k - 1 → setN ls k l u = u) := ⟨fun u hu => by rw [setN_other _ _ (by omega)]; exact hid.out u (by omega)⟩
              have hle2 : Kp (∀ u, k - 1 < u → u < M → Least (EN nx arr) (setN ls k l u) u) := ⟨fun u h1 h2 => by
                by_cases e : u = k
                · subst e; rw [setN_same]; exact hLk
                · rw [setN_other _ _ e]; exact hle.out u (by omega) h2⟩
              replace hA2 := Kp.mk hA2
              replace hnew := Kp.mk hnew
              replace hI := Kp.mk hI
              replace hId := Kp.mk hId
              replace hA := Kp.mk hA
              replace hA1 := Kp.mk hA1
              replace hl := Kp.mk hl
              replace hall := Kp.mk hall
              replace hLk := Kp.mk hLk
              clear e9
              go_upto_region 17 with fail
              refine wp_region_held_drew (S := fun W' => W'.cell? ⟨Bd, 1, none⟩ = some (.slice (some ⟨bw, 0, none⟩) M cw) ∧ W'.cell? ⟨w.heap.size + 2, k, none⟩ = some (.int .i64 (l : Int))) (by kernel_rfl) ⟨y1, yl⟩ (fun hHeld => ?_)
              refine wpAnyH_take (i := 0) (v := .pointer (some ⟨Bd, 1, none⟩)) rfl (by kernel_rfl) (by kernel_rfl) (by kernel_rfl) (fun _ _ _ h => h) (Or.inl ⟨by rfl, fun wq hSw => by (try dsimp only at hSw); go_simp⟩) hHeld ?_
              try simp only [Act.put, List.getElem_toArray, List.getElem_cons_succ, List.getElem_cons_zero, List.setIfInBounds_toArray, List.set_cons_zero, List.set_cons_succ]
              refine wpAnyH_take (i := 1) (v := .slice (some ⟨bw, 0, none⟩) M cw) rfl (by kernel_rfl) (by kernel_rfl) (by kernel_rfl) (fun _ _ _ h => h) (Or.inl ⟨by rfl, fun wq hSw => by (try dsimp only at hSw); go_simp⟩) hHeld ?_
              try simp only [Act.put, List.getElem_toArray, List.getElem_cons_succ, List.getElem_cons_zero, List.setIfInBounds_toArray, List.set_cons_zero, List.set_cons_succ]
              refine wpAnyH_take (i := 2) (v := .int .i64 (k : Int)) rfl (by kernel_rfl) (by kernel_rfl) (by kernel_rfl) (fun _ _ _ h => h) (Or.inl ⟨by rfl, fun wq hSw => by (try dsimp only at hSw); go_simp⟩) hHeld ?_
              try simp only [Act.put, List.getElem_toArray, List.getElem_cons_succ, List.getElem_cons_zero, List.setIfInBounds_toArray, List.set_cons_zero, List.set_cons_succ]
              refine wpAnyH_take (i := 3) (v := .slice (some ⟨w.heap.size + 2, 0, none⟩) M M) rfl (by kernel_rfl) (by kernel_rfl) (by kernel_rfl) (fun _ _ _ h => h) (Or.inl ⟨by rfl, fun wq hSw => by (try dsimp only at hSw); go_simp⟩) hHeld ?_
              try simp only [Act.put, List.getElem_toArray, List.getElem_cons_succ, List.getElem_cons_zero, List.setIfInBounds_toArray, List.set_cons_zero, List.set_cons_succ]
              refine wpAnyH_take (i := 4) (v := .int .i64 (k : Int)) rfl (by kernel_rfl) (by kernel_rfl) (by kernel_rfl) (fun _ _ _ h => h) (Or.inl ⟨by rfl, fun wq hSw => by (try dsimp only at hSw); go_simp⟩) hHeld ?_
              try simp only [Act.put, List.getElem_toArray, List.getElem_cons_succ, List.getElem_cons_zero, List.setIfInBounds_toArray, List.set_cons_zero, List.set_cons_succ]
              refine wpAnyH_take (i := 5) (v := .pointer (some ⟨w.heap.size + 2, k, none⟩)) rfl (by kernel_rfl) (by kernel_rfl) (by kernel_rfl) (fun _ _ _ h => h) (Or.inl ⟨by rfl, fun wq hSw => by (try dsimp only at hSw); go_simp⟩) hHeld ?_
              try simp only [Act.put, List.getElem_toArray, List.getElem_cons_succ, List.getElem_cons_zero, List.setIfInBounds_toArray, List.set_cons_zero, List.set_cons_succ]
              refine wpAnyH_take (i := 6) (v := .int .i64 (l : Int)) rfl (by kernel_rfl) (by kernel_rfl) (by kernel_rfl) (fun _ _ _ h => h) (Or.inl ⟨by rfl, fun wq hSw => by (try dsimp only at hSw); go_simp⟩) hHeld ?_
              try simp only [Act.put, List.getElem_toArray, List.getElem_cons_succ, List.getElem_cons_zero, List.setIfInBounds_toArray, List.set_cons_zero, List.set_cons_succ]
              refine wpAnyH_take (i := 7) (v := .pointer (some ⟨bw, k, none⟩)) rfl (by kernel_rfl) (by kernel_rfl) (by kernel_rfl) (fun _ _ _ h => h) (Or.inl ⟨by rfl, fun wq hSw => by (try dsimp only at hSw); go_simp⟩) hHeld ?_
              try simp only [Act.put, List.getElem_toArray, List.getElem_cons_succ, List.getElem_cons_zero, List.setIfInBounds_toArray, List.set_cons_zero, List.set_cons_succ]
              refine wpAnyH_ready (rs := [8]) (by kernel_rfl) (by simp) ?_
              refine AllReadyH.cons rfl (fun K hK => ?_) AllReadyH.nil
              go_simp
              refine hK.out _ _ hs17 (fun hHeld => ?_)
              clear hK K
              try simp only [Act.put, List.getElem_toArray, List.getElem_cons_succ, List.getElem_cons_zero, List.setIfInBounds_toArray, List.set_cons_zero, List.set_cons_succ]
              refine wpAnyH_done (by kernel_rfl) ?_ _
              replace hs17 := Kp.mk hs17
              clear hHeld
              go_wp2_with fail
              exact ⟨⟨k - 1, by omega, by rw [show ((k - 1 : Nat) : Int) = (k : Int) - 1 by omega], setN ls k l, up, _, hnew.out, by rw [show k - 1 + 1 = k by omega]; exact hA2.out, hid2.out, hle2.out⟩, by simp [intOf]; omega⟩
end Go.Proofs.Ytbfpfjkjeekbdaa
