/- Values that are live: rounds over the blocks until nothing turns, the mathematics. -/
import Derived.Test.YtbfpfjkjeekbdaaLi9
import Derived.Test.YtbfpfjkjeekbdaaTk
namespace Go.Proofs.Ytbfpfjkjeekbdaa
set_option linter.unusedVariables false
theorem tfB_mono {bls : List (List InD)} {res : Nat → Nat → Int} {L M : Nat → Nat → Bool} {b u : Nat} (h : tfB bls res L b u = true) (hLM : ∀ t, t < bls.length → L t u = true → M t u = true) : tfB bls res M b u = true := by
  rw [tfB_iff] at h ⊢
  exact h.mono hLM
theorem tfB_congr {bls : List (List InD)} {res : Nat → Nat → Int} {L M : Nat → Nat → Bool} {b u : Nat} (h : ∀ t, t < bls.length → L t u = M t u) : tfB bls res L b u = tfB bls res M b u := by
  rw [Bool.eq_iff_iff]
  exact ⟨fun q => tfB_mono q (fun t ht e => by rw [← h t ht]; exact e), fun q => tfB_mono q (fun t ht e => by rw [h t ht]; exact e)⟩
/-- What holds of the table. -/
structure LvI (bls : List (List InD)) (res : Nat → Nat → Int) (L : Nat → Nat → Bool) : Prop where
  low : ∀ b, b < bls.length → ∀ u, L b u = true → Live bls res u b
  post : ∀ b, b < bls.length → ∀ u, L b u = true → tfB bls res L b u = true
/-- A row put in the table. -/
def putR (L : Nat → Nat → Bool) (b : Nat) (r : Nat → Bool) : Nat → Nat → Bool := fun c => if c = b then r else L c
theorem putR_same (L : Nat → Nat → Bool) (b : Nat) (r : Nat → Bool) : putR L b r b = r := if_pos rfl
theorem putR_other (L : Nat → Nat → Bool) {b c : Nat} (r : Nat → Bool) (h : c ≠ b) : putR L b r c = L c := if_neg h
theorem LvI.le {bls : List (List InD)} {res : Nat → Nat → Int} {L : Nat → Nat → Bool} (h : LvI bls res L) {b : Nat} (hb : b < bls.length) : ∀ t, t < bls.length → ∀ u, L t u = true → putR L b (tfB bls res L b) t u = true := fun t ht u hu => by
  by_cases e : t = b
  · subst e
    rw [putR_same]
    exact h.post t ht u hu
  · rw [putR_other _ _ e]
    exact hu
theorem LvI.put {bls : List (List InD)} {res : Nat → Nat → Int} {L : Nat → Nat → Bool} (h : LvI bls res L) {b : Nat} (hb : b < bls.length) : LvI bls res (putR L b (tfB bls res L b)) := by
  constructor
  · intro t ht u hu
    by_cases e : t = b
    · subst e
      rw [putR_same, tfB_iff] at hu
      exact hu.live ht (fun s hs q => h.low s hs u q)
    · rw [putR_other _ _ e] at hu
      exact h.low t ht u hu
  · intro t ht u hu
    by_cases e : t = b
    · subst e
      rw [putR_same] at hu
      exact tfB_mono hu (fun s hs q => h.le ht s hs u q)
    · rw [putR_other _ _ e] at hu
      exact tfB_mono (h.post t ht u hu) (fun s hs q => h.le hb s hs u q)
theorem LvI.start (bls : List (List InD)) (res : Nat → Nat → Int) : LvI bls res (fun _ _ => false) := ⟨fun b hb u h => (by cases h), fun b hb u h => (by cases h)⟩
theorem LvI.fin {bls : List (List InD)} {res : Nat → Nat → Int} {L : Nat → Nat → Bool} (h : LvI bls res L) {u : Nat} (hf : ∀ b, b < bls.length → tfB bls res L b u = L b u) {b : Nat} (hb : b < bls.length) : L b u = true ↔ Live bls res u b :=
  ⟨h.low b hb u, fun q => Tf.least (L := fun t v => L t v = true) (fun c hc q => by rw [← hf c hc]; exact tfB_iff.2 q) q⟩
/-- How much of a table is on. -/
def cL (L : Nat → Nat → Bool) (n : Nat) : Nat → Nat
  | 0 => 0
  | m + 1 => cL L n m + ((List.range n).filter (L m)).length
theorem cL_le (L : Nat → Nat → Bool) (n : Nat) : ∀ m, cL L n m ≤ m * n
  | 0 => Nat.zero_le _
  | m + 1 => by
    have h1 := cL_le L n m
    have h2 := List.length_filter_le (L m) (List.range n)
    rw [List.length_range] at h2
    rw [cL, Nat.succ_mul]
    omega
theorem flt_le {p q : Nat → Bool} (n : Nat) (h : ∀ u, u < n → p u = true → q u = true) : ((List.range n).filter p).length ≤ ((List.range n).filter q).length := by
  have e : (List.range n).filter p = (List.range n).filter (fun u => decide (u < n) && p u) := List.filter_congr fun u hu => by simp [List.mem_range.1 hu]
  have e2 : (List.range n).filter q = (List.range n).filter (fun u => decide (u < n) && q u) := List.filter_congr fun u hu => by simp [List.mem_range.1 hu]
  rw [e, e2]
  exact filter_len_le (fun u hu => by simp only [Bool.and_eq_true, decide_eq_true_eq] at *; exact ⟨hu.1, h u hu.1 hu.2⟩) _
theorem flt_lt {p q : Nat → Bool} (n : Nat) (h : ∀ u, u < n → p u = true → q u = true) {y : Nat} (hy : y < n) (h1 : p y = false) (h2 : q y = true) : ((List.range n).filter p).length < ((List.range n).filter q).length := by
  have e : (List.range n).filter p = (List.range n).filter (fun u => decide (u < n) && p u) := List.filter_congr fun u hu => by simp [List.mem_range.1 hu]
  have e2 : (List.range n).filter q = (List.range n).filter (fun u => decide (u < n) && q u) := List.filter_congr fun u hu => by simp [List.mem_range.1 hu]
  rw [e, e2]
  exact filter_len_lt (y := y) (fun u hu => by simp only [Bool.and_eq_true, decide_eq_true_eq] at *; exact ⟨hu.1, h u hu.1 hu.2⟩) (by simp [h1]) (by simp [h2, hy]) _ (List.mem_range.2 hy)
theorem cL_mono {L M : Nat → Nat → Bool} (n : Nat) : ∀ m, (∀ b, b < m → ∀ u, u < n → L b u = true → M b u = true) → cL L n m ≤ cL M n m
  | 0, _ => Nat.le_refl _
  | m + 1, h => by
    have h1 := cL_mono n m (fun b hb => h b (by omega))
    have h2 := flt_le n (h m (by omega))
    rw [cL, cL]
    omega
theorem cL_lt {L M : Nat → Nat → Bool} (n : Nat) {c y : Nat} (hy : y < n) (h1 : L c y = false) (h2 : M c y = true) : ∀ m, c < m → (∀ b, b < m → ∀ u, u < n → L b u = true → M b u = true) → cL L n m < cL M n m
  | 0, hc, _ => by omega
  | m + 1, hc, h => by
    rw [cL, cL]
    by_cases e : c = m
    · subst e
      have := cL_mono n c (fun b hb => h b (by omega))
      have := flt_lt n (h c (by omega)) hy h1 h2
      omega
    · have := cL_lt n hy h1 h2 m (by omega) (fun b hb => h b (by omega))
      have := flt_le n (h m (by omega))
      omega
/-- What holds in the midst of a round, m blocks of which are done. -/
structure PsI (bls : List (List InD)) (res : Nat → Nat → Int) (cnt : Nat) (L0 : Nat → Nat → Bool) (m : Nat) (ag : Bool) (L : Nat → Nat → Bool) : Prop where
  lv : LvI bls res L
  same : ag = false → (∀ b, b < bls.length → ∀ u, u < cnt → L b u = L0 b u) ∧ ∀ b, b < bls.length → bls.length - m ≤ b → ∀ u, u < cnt → tfB bls res L0 b u = L0 b u
  more : ag = true → cL L0 cnt bls.length < cL L cnt bls.length
  le : cL L0 cnt bls.length ≤ cL L cnt bls.length
/-- A row turns. -/
def dfB (p q : Nat → Bool) (j : Nat) : Bool := (List.range j).any fun u => p u != q u
theorem dfB_succ (p q : Nat → Bool) (j : Nat) : dfB p q (j + 1) = (dfB p q j || (p j != q j)) := by unfold dfB; rw [List.range_succ, List.any_append]; simp
theorem PsI.start {bls : List (List InD)} {res : Nat → Nat → Int} {cnt : Nat} {L0 : Nat → Nat → Bool} (h : LvI bls res L0) : PsI bls res cnt L0 0 false L0 :=
  ⟨h, fun _ => ⟨fun b hb u hu => rfl, fun b hb hm => (by omega)⟩, fun h => (by cases h), Nat.le_refl _⟩
theorem PsI.step {bls : List (List InD)} {res : Nat → Nat → Int} {cnt : Nat} {L0 L : Nat → Nat → Bool} {m b : Nat} {ag : Bool} (h : PsI bls res cnt L0 m ag L) (hm : m < bls.length) (hb : b = bls.length - 1 - m) :
    PsI bls res cnt L0 (m + 1) (ag || dfB (tfB bls res L b) (L b) cnt) (putR L b (tfB bls res L b)) := by
  have hbl : b < bls.length := by omega
  have hle : ∀ c, c < bls.length → ∀ u, u < cnt → L c u = true → putR L b (tfB bls res L b) c u = true := fun c hc u _ hu => h.lv.le hbl c hc u hu
  have hcm := cL_mono cnt bls.length hle
  refine ⟨h.lv.put hbl, fun hag => ?_, fun hag => ?_, Nat.le_trans h.le hcm⟩
  · rw [Bool.or_eq_false_iff] at hag
    obtain ⟨h1, h2⟩ := h.same hag.1
    have hd : ∀ u, u < cnt → tfB bls res L b u = L b u := fun u hu => by
      have := List.any_eq_false.1 hag.2 u (List.mem_range.2 hu)
      simpa using this
    refine ⟨fun c hc u hu => ?_, fun c hc hmc u hu => ?_⟩
    · by_cases e : c = b
      · subst e
        rw [putR_same, hd u hu]
        exact h1 c hc u hu
      · rw [putR_other _ _ e]
        exact h1 c hc u hu
    · by_cases e : c = b
      · subst e
        rw [← h1 c hc u hu, ← hd u hu]
        exact tfB_congr (fun t ht => (h1 t ht u hu).symm)
      · exact h2 c hc (by omega) u hu
  · rw [Bool.or_eq_true] at hag
    rcases hag with hag | hag
    · exact Nat.lt_of_lt_of_le (h.more hag) hcm
    · obtain ⟨u, hu, hne⟩ := List.any_eq_true.1 hag
      have hu := List.mem_range.1 hu
      have hf : L b u = false := by
        cases q : L b u with
        | false => rfl
        | true =>
          have := h.lv.post b hbl u q
          rw [this, q] at hne
          cases hne
      have ht : tfB bls res L b u = true := by
        rw [hf] at hne
        cases q : tfB bls res L b u with
        | true => rfl
        | false => rw [q] at hne; cases hne
      exact Nat.lt_of_le_of_lt h.le (cL_lt cnt hu hf (by rw [putR_same]; exact ht) bls.length hbl hle)
/-- What is left to be done. -/
def lvM (cnt n : Nat) (ag : Bool) (L : Nat → Nat → Bool) : Nat := if ag = true then 1 + (n * cnt - cL L cnt n) else 0
theorem PsI.measure {bls : List (List InD)} {res : Nat → Nat → Int} {cnt : Nat} {L0 L : Nat → Nat → Bool} {ag : Bool} (h : PsI bls res cnt L0 bls.length ag L) : lvM cnt bls.length ag L < lvM cnt bls.length true L0 := by
  have h1 := cL_le L cnt bls.length
  have h2 := cL_le L0 cnt bls.length
  unfold lvM
  rw [if_pos rfl]
  split
  · rename_i q
    have := h.more q
    omega
  · omega
theorem PsI.fix {bls : List (List InD)} {res : Nat → Nat → Int} {cnt : Nat} {L0 L : Nat → Nat → Bool} (h : PsI bls res cnt L0 bls.length false L) : ∀ b, b < bls.length → ∀ u, u < cnt → tfB bls res L b u = L b u := fun b hb u hu => by
  obtain ⟨h1, h2⟩ := h.same rfl
  rw [h1 b hb u hu, ← h2 b hb (by omega) u hu]
  exact tfB_congr (fun t ht => h1 t ht u hu)
end Go.Proofs.Ytbfpfjkjeekbdaa
namespace Go.Proofs.Ytbfpfjkjeekbdaa
open Go.ChangeShapes Go.WideShapes Go.ChangeAt Go.RowKit
set_option linter.unusedVariables false
set_option linter.unusedSimpArgs false
theorem wpList_append_run3 {P : Program} (w : World) {ops : Array Oper} {rest : List Oper} {op : Oper} {ac : Act} {Q : Exit → Act → World → Prop} (hgd : op.guard = none) (s x : Operand) (t : TypeId)
    (ho : op.op = .call { callee := .builtin .append, args := #[s, x], argTypes := #[t, t] }) {v u v' : Value} {w' : World} (hs : ac.eval s = v) (hx : ac.eval x = u)
    (hr : (Builtin.append_ #[t, t] op.type #[v, u]).run P w = .ok v' w') (h : wpList P ops Q rest (ac.put op.dst v') w') : wpList P ops Q (op :: rest) ac w := by
  refine wpList_plain hgd fun K hK => ?_
  unfold Oper.wp execOp
  simp only [ho, resolve, invoke, builtin, Sem.run_bind, Sem.run_pure, Result.andThen_ok, List.map_toArray, List.map_cons, List.map_nil, hs, hx, hr]
  exact hK _ _ h
/-- A table of rows of Booleans, each in a block of its own, to be written. -/
structure TbW (w : World) (hb nb cnt : Nat) (rs : Nat → Nat) (L : Nat → Nat → Bool) : Prop where
  ex : ∃ cur : Array Value, w.heap[hb]? = some (Go.Obj.cells cur 73 (0, 0)) ∧ ∀ i, i < nb → cur[i]? = some (.slice (some ⟨rs i, 0, none⟩) cnt cnt)
  rows : ∀ i, i < nb → BRow w (rs i) cnt (L i)
section
variable {w w' : World} {hb nb cnt : Nat} {rs : Nat → Nat} {L : Nat → Nat → Bool}
theorem TbW.at (h : TbW w hb nb cnt rs L) {i : Nat} (hi : i < nb) : At w hb i (.slice (some ⟨rs i, 0, none⟩) cnt cnt) := by
  obtain ⟨cur, h1, h2⟩ := h.ex
  exact at_cells h1 (h2 i hi)
theorem TbW.rw (h : TbW w hb nb cnt rs L) (i : Nat) : w.frozen? ⟨hb, i, none⟩ = false := by
  obtain ⟨cur, h1, h2⟩ := h.ex
  exact rw_cells h1 i
theorem TbW.lt (h : TbW w hb nb cnt rs L) : hb < w.heap.size := by
  obtain ⟨cur, h1, h2⟩ := h.ex
  exact (Array.getElem?_eq_some_iff.1 h1).1
theorem TbW.keep (h : TbW w hb nb cnt rs L) (hB : Below w.heap.size w w') : TbW w' hb nb cnt rs L := by
  obtain ⟨cur, h1, h2⟩ := h.ex
  exact ⟨⟨cur, keep_cells h1 hB, h2⟩, fun i hi => (h.rows i hi).keep hB⟩
theorem TbW.tab (h : TbW w hb nb cnt rs L) (c : Nat) : Tab w (.slice (some ⟨hb, 0, none⟩) nb c) nb cnt L :=
  ⟨⟨_, _, rfl, fun i hi => ⟨hb, rs i, cnt, rfl, h.at hi, fun j hj => (h.rows i hi).at hj⟩⟩⟩
theorem TbW.set (h : TbW w hb nb cnt rs L) {b rb : Nat} {r : Nat → Bool} (hr : BRow w rb cnt r) (hbn : b < nb) : TbW (w.setCell ⟨hb, b, none⟩ (.slice (some ⟨rb, 0, none⟩) cnt cnt)) hb nb cnt (upd rs b rb) (putR L b r) := by
  obtain ⟨cur, h1, h2⟩ := h.ex
  have hne : ∀ {q : Nat} {f : Nat → Bool}, BRow w q cnt f → q ≠ hb := fun {q f} hq e => by
    obtain ⟨c, g1, -⟩ := hq.ex
    rw [e, h1] at g1
    cases g1
  have keepRow : ∀ {q : Nat} {f : Nat → Bool}, BRow w q cnt f → BRow (w.setCell ⟨hb, b, none⟩ (.slice (some ⟨rb, 0, none⟩) cnt cnt)) q cnt f := fun {q f} hq => by
    have := hne hq
    obtain ⟨c, g1, g2⟩ := hq.ex
    exact ⟨c, (heap_set _ _ _ _ _ this).trans g1, g2⟩
  refine ⟨⟨_, set_cells h1 b _, fun i hi => ?_⟩, fun i hi => ?_⟩
  · have hc := (Array.getElem?_eq_some_iff.1 (h2 b hbn)).1
    by_cases e : i = b
    · subst e
      rw [upd_same]
      simp [hc]
    · rw [upd_other _ _ _ _ e]
      simp only [Array.getElem?_setIfInBounds]
      rw [if_neg (Ne.symm e)]
      exact h2 i hi
  · by_cases e : i = b
    · subst e
      rw [upd_same, putR_same]
      exact keepRow hr
    · rw [upd_other _ _ _ _ e, putR_other _ _ e]
      exact keepRow (h.rows i hi)
end
theorem tbw_of {w : World} {base n cnt : Nat} {v : Value} {rs : Nat → Nat} {L : Nat → Nat → Bool} (h : w.ownsRow base 73 1 v n (rowsV rs cnt n)) (hn : 0 < n) (hr : ∀ i, i < n → BRow w (rs i) cnt (L i)) : ∃ hb c, v = .slice (some ⟨hb, 0, none⟩) n c ∧ base ≤ hb ∧ TbW w hb n cnt rs L := by
  obtain ⟨-, ⟨rfl, q⟩ | ⟨bN, cN, cur, rfl, h1, h2, h3, h4, h5, h6⟩⟩ := h
  · omega
  · refine ⟨bN, cN, rfl, h1, ⟨cur, h2, fun i hi => ?_⟩, hr⟩
    have hy : (rowsV rs cnt n)[i]? = some (Value.slice (some ⟨rs i, 0, none⟩) cnt cnt) := by simp [rowsV, hi]
    rw [← h6, List.getElem?_take, if_pos (by omega)] at hy
    simpa using hy
set_option maxRecDepth 100000 in
set_option maxHeartbeats 16000000 in
theorem lvTabS (d : FnD) (vp vb vN vP : Value) (lo l2 : Nat) (w : World) (h : FnAt lo w d vp vb) (hn : fnN d ≤ 1048576) (hN : Rws l2 w vN d.blocks.length (fun i => nextL d.blocks i)) (hP : ∃ a n c, vP = .slice a n c) (hpos : 0 < d.blocks.length) (hcn : cntV d ≤ 1048576) :
    Calls Try.prog 42 #[fnV d vp vb, .agg #[vN, vP]] w fun e w' => ∃ hb c rs L, e = .returned (.slice (some ⟨hb, 0, none⟩) d.blocks.length c) ∧ TbW w' hb d.blocks.length (cntV d) rs L ∧ (∀ b, b < d.blocks.length → ∀ u, u < cntV d → (L b u = true ↔ Live d.blocks (resN d) u b)) ∧ Below w.heap.size w w' := by
  have CV : Kp (∀ W, Below w.heap.size w W → Calls Try.prog 60 #[fnV d vp vb] W fun e w' => ∃ a c, e = .returned (.slice a (cntV d) c) ∧ Below W.heap.size W w') := ⟨fun W hW => (valTyS d vp vb W (h.keep hW) hn).mono (fun e w' ⟨v, he, ho, hb⟩ => by
    obtain ⟨a, c, rfl⟩ := ho.shape
    exact ⟨a, c, he, hb⟩)⟩
  have CB : Kp (∀ W vT b L, Below w.heap.size w W → b < d.blocks.length → Tab W vT d.blocks.length (cntV d) L → Calls Try.prog 61 #[fnV d vp vb, .agg #[vN, vP], vT, .int .i64 (b : Nat), .int .i64 (cntV d)] W _) := ⟨fun W vT b L hW hb hT => liveBlkS d vp vb vN vP vT b lo l2 L W (h.keep hW) hn (hN.keep hW) hP hT hb hcn⟩
  generalize cntV d = cnt at *
  generalize resN d = res at *
  unfold fnN at hn
  obtain ⟨name, link, params, rs0, blocks⟩ := d
  obtain ⟨-, hp, hbl⟩ := h
  dsimp only [fnV] at *
  have nn := blsN_nn blocks
  have n2 : (blocks.length : Int) ≤ 1048576 := by omega
  obtain ⟨a1, k1, rfl⟩ := hp.shape
  obtain ⟨a2, k2, rfl⟩ := hbl.shape
  obtain ⟨_, _, ⟨⟨aN, cN, rfl, -, -⟩, -⟩, -, -⟩ := hN.ex
  obtain ⟨aP, nP, cP, rfl⟩ := hP
  clear hN hp hbl
  obtain ⟨O, hmk, hSO⟩ := mkSeen cnt hcn
  have hBR : Kp (∀ W : World, BRow (W.alloc O) W.heap.size cnt (fun _ => false)) := ⟨fun W => by
    obtain ⟨cur, h1, h2⟩ := (hSO W).ex
    exact ⟨cur, h1, fun i hi => by rw [h2 i hi]; simp⟩⟩
  obtain ⟨i0, hi0, hz0, hz1, hz2⟩ := info_parts infoB
  clear hSO
  obtain ⟨W0, hW0⟩ : ∃ W0, Kp (W0 = (w.alloc (Go.Obj.cells #[.string name, .int .i64 link, .slice a1 params.length k1, .int .i64 rs0, .slice a2 blocks.length k2] 30)).alloc (Go.Obj.cells #[.slice aN blocks.length cN, .slice aP nP cP] 45)) := ⟨_, ⟨rfl⟩⟩
  have hB0 : Below w.heap.size w W0 := by rw [hW0.out]; exact bel_trans (bel_alloc _ _) (bel_alloc _ _)
  have hf0 : W0.heap[w.heap.size]? = some (Go.Obj.cells #[.string name, .int .i64 link, .slice a1 params.length k1, .int .i64 rs0, .slice a2 blocks.length k2] 30 (0, 0)) := by rw [hW0.out]; exact keep_cells (new_cells w _) (bel_alloc _ _)
  have hg0 : W0.heap[w.heap.size + 1]? = some (Go.Obj.cells #[.slice aN blocks.length cN, .slice aP nP cP] 45 (0, 0)) := by
    have := new_cells (w.alloc (Go.Obj.cells #[.string name, .int .i64 link, .slice a1 params.length k1, .int .i64 rs0, .slice a2 blocks.length k2] 30)) (Go.Obj.cells #[.slice aN blocks.length cN, .slice aP nP cP] 45)
    rw [World.size_alloc] at this
    rw [hW0.out]; exact this
  have SF : Kp (∀ W', Below W0.heap.size W0 W' → W'.cell? ⟨w.heap.size, 0, none⟩ = some (.string name) ∧ W'.cell? ⟨w.heap.size, 1, none⟩ = some (.int .i64 link) ∧ W'.cell? ⟨w.heap.size, 2, none⟩ = some (.slice a1 params.length k1) ∧ W'.cell? ⟨w.heap.size, 3, none⟩ = some (.int .i64 rs0) ∧ W'.cell? ⟨w.heap.size, 4, none⟩ = some (.slice a2 blocks.length k2) ∧ W'.cell? ⟨w.heap.size + 1, 0, none⟩ = some (.slice aN blocks.length cN) ∧ W'.cell? ⟨w.heap.size + 1, 1, none⟩ = some (.slice aP nP cP)) :=
    ⟨fun W' hW => by
      have h1 := keep_cells hf0 hW
      have h2 := keep_cells hg0 hW
      exact ⟨at_cells h1 rfl, at_cells h1 rfl, at_cells h1 rfl, at_cells h1 rfl, at_cells h1 rfl, at_cells h2 rfl, at_cells h2 rfl⟩⟩
  have C1 := Kp.mk (CV.out W0 hB0)
  obtain ⟨f0, f1, f2, f3, f4, -, -⟩ := SF.out W0 (Below.refl _ _)
  clear hf0 hg0
  go_enter Try.func42, Try.ntmps42
  go_upto_region 1 with fail
  rw [← hW0.out]
  go_wp2_with fail
  refine C1.out.mono ?_
  rintro e W1 ⟨ya, yc, rfl, hB1⟩
  clear f0 f1 f2 f3 f4 C1
  have hB01 := bel_trans hB0 hB1
  obtain ⟨f0, f1, f2, f3, f4, -, -⟩ := SF.out W1 hB1
  go_wp2_with fail
  go_loopg [6, 7] blocks.length (fun k vo s wr => ∃ (b : Nat) (rs : Nat → Nat), b ≤ blocks.length ∧ s = .int .i64 b ∧ wr.ownsRow W1.heap.size 73 1 vo b (rowsV rs cnt b) ∧ (∀ i, i < b → BRow wr (rs i) cnt (fun _ => false)) ∧ Below W1.heap.size W1 wr ∧ k = blocks.length - b)
  case atStart => exact ⟨0, fun _ => 0, Nat.zero_le _, rfl, ⟨rfl, .inr ⟨W1.heap.size, 0, #[], rfl, Nat.le_refl _, new_cells W1 _, Nat.le_refl _, by decide, rfl, rfl⟩⟩, fun i hi => absurd hi (by omega), bel_alloc _ _, rfl⟩
  case round =>
    clear f0 f1 f2 f3 f4
    obtain ⟨b, rs, hb, rfl, hown, hrows, hBl, rfl⟩ := hrel
    have b0 : (0 : Int) ≤ (b : Int) := by omega
    obtain ⟨f0, f1, f2, f3, f4, -, -⟩ := SF.out wr (bel_trans hB1 hBl)
    by_cases hlt : b < blocks.length
    · have b1 : (b : Int) < (blocks.length : Int) := by omega
      obtain ⟨a8, c8, rfl⟩ : ∃ a c, _ = Value.slice a b c := row_shape hown
      have hO := bel_alloc wr O
      have hOb := bel_alloc (wr.alloc O) (Go.Obj.cells #[.slice (some ⟨wr.heap.size, 0, none⟩) cnt cnt] 73)
      have hownA : (wr.alloc O).ownsRow W1.heap.size 73 1 (.slice a8 b c8) b (rowsV rs cnt b) := hown.alloc O
      have hownB := hownA.alloc (Go.Obj.cells #[.slice (some ⟨wr.heap.size, 0, none⟩) cnt cnt] 73)
      have hzB : ((wr.alloc O).alloc (Go.Obj.cells #[.slice (some ⟨wr.heap.size, 0, none⟩) cnt cnt] 73)).heap.size = wr.heap.size + 2 := by simp
      have hnew := new_cells (wr.alloc O) (Go.Obj.cells #[.slice (some ⟨wr.heap.size, 0, none⟩) cnt cnt] 73)
      rw [World.size_alloc] at hnew
      obtain ⟨g, cap, w6, hrun, hown6, hgrow, hat, hlt6⟩ := run_append_lies (P := Try.prog) ((wr.alloc O).alloc (Go.Obj.cells #[.slice (some ⟨wr.heap.size, 0, none⟩) cnt cnt] 73)) 48 48 W1.heap.size 73 i0 (.slice none 0 0) 1 24 Try.underlying48 hi0 hz0 hz1 hz2 rfl (by decide) (.slice a8 b c8) b (rowsV rs cnt b) hownB ⟨wr.heap.size + 1, 0, none⟩ 1 1 [.slice (some ⟨wr.heap.size, 0, none⟩) cnt cnt] rfl (World.news_of_block (cs := #[.slice (some ⟨wr.heap.size, 0, none⟩) cnt cnt]) (t := 73) (fr := (0, 0)) hnew) (by simp [Value.oneCell']) (by omega) (by unfold maxLen; omega) (by omega) (by have := hBl.size; simp; omega) (wr.heap.size + 2) hzB
      have hrows6 : ∀ i, i < b + 1 → BRow w6 (upd rs b wr.heap.size i) cnt (fun _ => false) := fun i hi => by
        by_cases e : i = b
        · subst e
          rw [upd_same]
          have q := (hBR.out wr).keep hOb
          exact q.kept hgrow (q.ne hownB (by decide))
        · rw [upd_other _ _ _ _ e]
          have q := (hrows i (by omega)).keep (bel_trans hO hOb)
          exact q.kept hgrow (q.ne hownB (by decide))
      have hB6 : Below W1.heap.size W1 w6 := (bel_trans hBl (bel_trans hO hOb)).grown hgrow (by have := hBl.size; simp; omega) (fun k hk => (hown.lt k hk).1)
      have hown7 : w6.ownsRow W1.heap.size 73 1 (.slice (some ⟨g, 0, none⟩) (b + 1) cap) (b + 1) (rowsV (upd rs b wr.heap.size) cnt (b + 1)) := by rw [rowsV_snoc]; exact hown6
      have hmk1 := hmk wr
      replace hrun := Kp.mk hrun
      replace hown7 := Kp.mk hown7
      replace hrows6 := Kp.mk hrows6
      clear hown hownA hownB hown6 hgrow hat hzB hnew hrows hO hOb
      go_wp2_with (at_builtin; refine wpList_append_run3 _ rfl (.tmp 23) (.tmp 26) 48 rfl rfl rfl hrun.out ?_)
      go_roundg (blocks.length - (b + 1))
      case measure => omega
      case rel => exact ⟨b + 1, _, by omega, by go_num, hown7.out, hrows6.out, hB6, rfl⟩
    · obtain rfl : b = blocks.length := by omega
      have hlt2 : ¬ ((blocks.length : Int) < (blocks.length : Int)) := by omega
      obtain ⟨hd, hc, rfl, hbase, hT⟩ := tbw_of hown hpos hrows
      have hLv := LvI.start blocks res
      clear hown hrows
      go_wp2_with fail
      go_loopg [8] (lvM cnt blocks.length true (fun _ _ => false)) (fun k s wz => ∃ (ag : Bool) (rs : Nat → Nat) (L : Nat → Nat → Bool), s = .bool ag ∧ TbW wz hd blocks.length cnt rs L ∧ Kp (LvI blocks res L) ∧ Kp (ag = false → ∀ b, b < blocks.length → ∀ u, u < cnt → tfB blocks res L b u = L b u) ∧ Below W1.heap.size W1 wz ∧ k = lvM cnt blocks.length ag L)
      case atStart => exact ⟨true, rs, _, rfl, hT, ⟨hLv⟩, ⟨fun h => by cases h⟩, hBl, rfl⟩
      case round =>
        clear hT hBl hLv f0 f1 f2 f3 f4
        obtain ⟨ag, rs, L0, rfl, hT, hLv, hfx, hBl, rfl⟩ := hrel
        cases ag with
        | false =>
          have hfin : Kp (∀ b, b < blocks.length → ∀ u, u < cnt → (L0 b u = true ↔ Live blocks res u b)) := ⟨fun b hb u hu => hLv.out.fin (fun c hc => hfx.out rfl c hc u hu) hb⟩
          replace hT := Kp.mk hT
          clear hfx hLv
          go_wp2_with fail
          go_ret
          exact ⟨hd, hc, rs, L0, rfl, hT.out, hfin.out, bel_trans hB01 hBl⟩
        | true =>
          clear hfx
          have hPs := Kp.mk (PsI.start (cnt := cnt) hLv.out)
          obtain ⟨f0, f1, f2, f3, f4, -, -⟩ := SF.out wr (bel_trans hB1 hBl)
          go_wp2_with fail
          go_loopg [8, 9] blocks.length (fun k s8 s9 wz => ∃ (m : Nat) (ag : Bool) (rs : Nat → Nat) (L : Nat → Nat → Bool), m ≤ blocks.length ∧ s8 = .bool ag ∧ s9 = .int .i64 ((blocks.length : Int) - 1 - m) ∧ TbW wz hd blocks.length cnt rs L ∧ Kp (PsI blocks res cnt L0 m ag L) ∧ Below W1.heap.size W1 wz ∧ k = blocks.length - m)
          case atStart => exact ⟨0, false, rs, L0, Nat.zero_le _, rfl, by simp, hT, hPs, hBl, rfl⟩
          case round =>
            clear hT hBl hPs f0 f1 f2 f3 f4
            obtain ⟨m, ag, rs, L, hm, rfl, rfl, hT, hPs, hBl, rfl⟩ := hrel
            by_cases hmn : m < blocks.length
            · obtain ⟨b, hbe⟩ : ∃ b : Nat, (blocks.length : Int) - 1 - m = b := ⟨blocks.length - 1 - m, by omega⟩
              rw [hbe]
              have hbn : b < blocks.length := by omega
              have b0 : (0 : Int) ≤ (b : Int) := by omega
              have b1 : (b : Int) < (blocks.length : Int) := by omega
              have hbm : Kp ((b : Int) - 1 = (blocks.length : Int) - 1 - ((m + 1 : Nat) : Int)) := ⟨by omega⟩
              have hstep := Kp.mk (hPs.out.step hmn (show b = blocks.length - 1 - m by omega))
              replace hbe := Kp.mk hbe
              obtain ⟨f0, f1, f2, f3, f4, f5, f6⟩ := SF.out wr (bel_trans hB1 hBl)
              have C2 := Kp.mk (CB.out wr _ b L (bel_trans hB01 hBl) hbn (hT.tab hc))
              clear hPs
              go_wp2_with fail
              refine C2.out.mono ?_
              rintro e w2 ⟨rfl, hR2, hb2⟩
              have hT2 := hT.keep hb2
              have hBl2 := bel_trans hBl hb2
              obtain ⟨rb, hrb⟩ : ∃ rb, Kp (wr.heap.size + 2 = rb) := ⟨_, ⟨rfl⟩⟩
              rw [hrb.out] at hR2 ⊢
              clear f0 f1 f2 f3 f4 f5 f6 C2 hT hBl hb2
              generalize tfB blocks res L b = F at *
              go_wp2_with fail
              go_loopg [8, 11] cnt (fun k s8 s11 wq => ∃ j : Nat, j ≤ cnt ∧ s8 = .bool (ag || dfB F (L b) j) ∧ s11 = .int .i64 j ∧ Below w2.heap.size w2 wq ∧ k = cnt - j)
              case atStart => exact ⟨0, Nat.zero_le _, by simp [dfB], rfl, Below.refl _ _, rfl⟩
              case round =>
                obtain ⟨j, hj, rfl, rfl, hBq, rfl⟩ := hrel
                have j0 : (0 : Int) ≤ (j : Int) := by omega
                by_cases hjn : j < cnt
                · have j1 : (j : Int) < (cnt : Int) := by omega
                  have hTq := hT2.keep hBq
                  have d1 := (hR2.keep hBq).at hjn
                  have d2 := hTq.at hbn
                  have d3 := (hTq.rows b hbn).at hjn
                  have hds := Kp.mk (dfB_succ F (L b) j)
                  generalize F j = x at *
                  generalize L b j = y at *
                  generalize dfB F (L b) j = z at *
                  replace hTq := Kp.mk hTq
                  cases x with
                  | false =>
                    cases y with
                    | false =>
                      have hz' : Kp ((ag || z) = (ag || dfB F (L b) (j + 1))) := ⟨by rw [hds.out]; simp⟩
                      go_wp2_with fail
                      go_region
                      go_wp2_with fail
                      go_roundg (cnt - (j + 1))
                      case measure => omega
                      case rel => exact ⟨j + 1, by omega, by rw [← hz'.out], by go_num, bel_trans hBq (bel_drew _), rfl⟩
                    | true =>
                      have hz' : Kp (true = (ag || dfB F (L b) (j + 1))) := ⟨by rw [hds.out]; simp⟩
                      go_wp2_with fail
                      go_region
                      go_wp2_with fail
                      go_roundg (cnt - (j + 1))
                      case measure => omega
                      case rel => exact ⟨j + 1, by omega, by rw [← hz'.out], by go_num, bel_trans hBq (bel_drew _), rfl⟩
                  | true =>
                    cases y with
                    | false =>
                      have hz' : Kp (true = (ag || dfB F (L b) (j + 1))) := ⟨by rw [hds.out]; simp⟩
                      go_wp2_with fail
                      go_region
                      go_wp2_with fail
                      go_roundg (cnt - (j + 1))
                      case measure => omega
                      case rel => exact ⟨j + 1, by omega, by rw [← hz'.out], by go_num, bel_trans hBq (bel_drew _), rfl⟩
                    | true =>
                      have hz' : Kp ((ag || z) = (ag || dfB F (L b) (j + 1))) := ⟨by rw [hds.out]; simp⟩
                      go_wp2_with fail
                      go_region
                      go_wp2_with fail
                      go_roundg (cnt - (j + 1))
                      case measure => omega
                      case rel => exact ⟨j + 1, by omega, by rw [← hz'.out], by go_num, bel_trans hBq (bel_drew _), rfl⟩
                · obtain rfl : j = cnt := by omega
                  have hTq := hT2.keep hBq
                  have hcq := hTq.at hbn
                  have hrwq := hTq.rw b
                  have hset := Kp.mk (hTq.set (hR2.keep hBq) hbn)
                  have hBs : Below W1.heap.size W1 (wr.setCell ⟨hd, b, none⟩ (.slice (some ⟨rb, 0, none⟩) j j)) := (bel_trans hBl2 hBq).setCell hbase _
                  have j1 : ¬ (j : Int) < (j : Int) := by omega
                  replace hTq := Kp.mk hTq
                  go_wp2_with fail
                  go_roundg (blocks.length - (m + 1))
                  case measure => omega
                  case rel => exact ⟨m + 1, _, _, _, by omega, rfl, by rw [← hbm.out], hset.out, hstep, hBs, rfl⟩
            · obtain hme : m = blocks.length := by omega
              subst hme
              have hneg : ¬ ((blocks.length : Int) - 1 - (blocks.length : Nat) ≥ 0) := by omega
              have hms := Kp.mk hPs.out.measure
              have hfx : Kp (ag = false → ∀ b, b < blocks.length → ∀ u, u < cnt → tfB blocks res L b u = L b u) := ⟨fun e => by
                have := hPs.out
                rw [e] at this
                exact this.fix⟩
              have hlv := Kp.mk hPs.out.lv
              clear hPs
              go_wp2_with fail
              go_roundg (lvM cnt blocks.length ag L)
              case measure => exact hms.out
              case rel => exact ⟨ag, rs, L, rfl, hT, hlv, hfx, hBl, rfl⟩
end Go.Proofs.Ytbfpfjkjeekbdaa
namespace Go.Proofs.Ytbfpfjkjeekbdaa
open Go.ChangeShapes Go.WideShapes Go.ChangeAt Go.RowKit
set_option linter.unusedVariables false
set_option linter.unusedSimpArgs false
def lvU (f : Nat → Bool) (n : Nat) : List Int := ((List.range n).filter f).map (fun i : Nat => (i : Int))
theorem lvU_yes {f : Nat → Bool} {n : Nat} (h : f n = true) : lvU f (n + 1) = lvU f n ++ [(n : Int)] := by simp [lvU, List.range_succ, List.filter_append, List.filter_cons, h]
theorem lvU_no {f : Nat → Bool} {n : Nat} (h : f n = false) : lvU f (n + 1) = lvU f n := by simp [lvU, List.range_succ, List.filter_append, List.filter_cons, h]
theorem lvU_len (f : Nat → Bool) (n : Nat) : (lvU f n).length ≤ n := by
  have := List.length_filter_le f (List.range n)
  simp [lvU] at *
  exact this
theorem lvU_livL {d : FnD} {t : Nat} (ht : t < d.blocks.length) {f : Nat → Bool} (h : ∀ u, u < cntV d → (f u = true ↔ Live d.blocks (resN d) u t)) : lvU f (cntV d) = livL d t := by
  unfold livL lvU
  rw [if_pos ⟨by omega, by omega⟩, Int.toNat_natCast]
  congr 1
  refine List.filter_congr fun u hu => ?_
  rw [Bool.eq_iff_iff, h u (List.mem_range.1 hu), liB_iff]
theorem cntV_le {d : FnD} (hn : fnN d ≤ 1048576) : cntV d ≤ 1048576 := by
  have h1 := blPl_len 0 d.blocks
  have h2 := tysOf_len (blPl 0 d.blocks)
  unfold cntV
  rw [List.length_append]
  unfold fnN at hn
  omega
theorem livL_len (d : FnD) (t : Int) : (livL d t).length ≤ cntV d := by
  unfold livL
  split
  · rw [List.length_map]
    have := List.length_filter_le (liB d t.toNat) (List.range (cntV d))
    rwa [List.length_range] at this
  · exact Nat.zero_le _
set_option maxRecDepth 100000 in
set_option maxHeartbeats 8000000 in
theorem liveS (d : FnD) (vp vb : Value) (t : Int) (w : World) {lo : Nat} (h : FnAt lo w d vp vb) (hn : fnN d ≤ 1048576) :
    Calls Try.prog 20 #[fnV d vp vb, .int .i64 t] w fun e w' => ∃ v : Value, e = .returned v ∧ OwnI w' w.heap.size v (livL d t) ∧ Below w.heap.size w w' := by
  have CG : Kp (∀ W, Below w.heap.size w W → Calls Try.prog 24 #[fnV d vp vb] W _) := ⟨fun W hW => graphS d vp vb W (h.keep hW) hn⟩
  have hcn := cntV_le hn
  have CL : Kp (∀ W vN vP l2, Below w.heap.size w W → Rws l2 W vN d.blocks.length (fun i => nextL d.blocks i) → (∃ a n c, vP = .slice a n c) → 0 < d.blocks.length → Calls Try.prog 42 #[fnV d vp vb, .agg #[vN, vP]] W _) := ⟨fun W vN vP l2 hW hN hP hpos => lvTabS d vp vb vN vP lo l2 W (h.keep hW) hn hN hP hpos hcn⟩
  have hlv := Kp.mk (@lvU_livL d)
  have hnil : Kp (¬ (0 ≤ t ∧ t < d.blocks.length) → livL d t = []) := ⟨fun q => if_neg q⟩
  generalize hcnt : cntV d = cnt at *
  replace hcnt := Kp.mk hcnt
  obtain ⟨LL, hLL⟩ : ∃ LL, Kp (livL d t = LL) := ⟨_, ⟨rfl⟩⟩
  rw [hLL.out]
  unfold fnN at hn
  obtain ⟨name, link, params, rs0, blocks⟩ := d
  obtain ⟨-, hp, hbl⟩ := h
  dsimp only [fnV] at *
  have nn := blsN_nn blocks
  have n2 : (blocks.length : Int) ≤ 1048576 := by omega
  obtain ⟨a1, k1, rfl⟩ := hp.shape
  obtain ⟨a2, k2, rfl⟩ := hbl.shape
  clear hp hbl
  obtain ⟨i0, hi0, hz0, hz1, hz2⟩ := info_parts info64
  obtain ⟨W0, hW0⟩ : ∃ W0, Kp (W0 = (w.alloc (Go.Obj.cells #[.string name, .int .i64 link, .slice a1 params.length k1, .int .i64 rs0, .slice a2 blocks.length k2] 30)).alloc (Go.Obj.cells #[] 2)) := ⟨_, ⟨rfl⟩⟩
  have hB0 : Below w.heap.size w W0 := by rw [hW0.out]; exact bel_trans (bel_alloc _ _) (bel_alloc _ _)
  have hf0 : W0.heap[w.heap.size]? = some (Go.Obj.cells #[.string name, .int .i64 link, .slice a1 params.length k1, .int .i64 rs0, .slice a2 blocks.length k2] 30 (0, 0)) := by rw [hW0.out]; exact keep_cells (new_cells w _) (bel_alloc _ _)
  have hg0 : W0.heap[w.heap.size + 1]? = some (Go.Obj.cells #[] 2 (0, 0)) := by
    have := new_cells (w.alloc (Go.Obj.cells #[.string name, .int .i64 link, .slice a1 params.length k1, .int .i64 rs0, .slice a2 blocks.length k2] 30)) (Go.Obj.cells #[] 2)
    rw [World.size_alloc] at this
    rw [hW0.out]; exact this
  have hown0 : OwnI W0 w.heap.size (.slice (some ⟨w.heap.size + 1, 0, none⟩) 0 0) [] := ⟨⟨rfl, .inr ⟨w.heap.size + 1, 0, #[], rfl, by omega, hg0, Nat.le_refl _, by decide, rfl, rfl⟩⟩⟩
  have SF : Kp (∀ W', Below W0.heap.size W0 W' → W'.cell? ⟨w.heap.size, 0, none⟩ = some (.string name) ∧ W'.cell? ⟨w.heap.size, 1, none⟩ = some (.int .i64 link) ∧ W'.cell? ⟨w.heap.size, 2, none⟩ = some (.slice a1 params.length k1) ∧ W'.cell? ⟨w.heap.size, 3, none⟩ = some (.int .i64 rs0) ∧ W'.cell? ⟨w.heap.size, 4, none⟩ = some (.slice a2 blocks.length k2)) :=
    ⟨fun W' hW => by
      have h1 := keep_cells hf0 hW
      exact ⟨at_cells h1 rfl, at_cells h1 rfl, at_cells h1 rfl, at_cells h1 rfl, at_cells h1 rfl⟩⟩
  obtain ⟨f0, f1, f2, f3, f4⟩ := SF.out W0 (Below.refl _ _)
  clear hf0
  replace hg0 := Kp.mk hg0
  by_cases h0 : 0 ≤ t
  · by_cases h1 : t < blocks.length
    · obtain ⟨r, rfl⟩ : ∃ r : Nat, t = r := ⟨t.toNat, by omega⟩
      have hr : r < blocks.length := by omega
      have hneg : ¬ ((r : Int) < 0) := by omega
      have hge : ¬ ((r : Int) ≥ (blocks.length : Int)) := by omega
      have hge2 : decide ((r : Int) ≥ (blocks.length : Int)) = false := decide_eq_false hge
      clear hnil
      replace hown0 := Kp.mk hown0
      go_enter Try.func20, Try.ntmps20
      go_upto_region 2 with fail
      rw [← hW0.out]
      go_upto_region 4 with fail
      have hsx := bel_drew W0
      refine wp_region_held_drew (S := fun W' => W'.cell? ⟨w.heap.size, 0, none⟩ = some (.string name) ∧ W'.cell? ⟨w.heap.size, 1, none⟩ = some (.int .i64 link) ∧ W'.cell? ⟨w.heap.size, 2, none⟩ = some (.slice a1 params.length k1) ∧ W'.cell? ⟨w.heap.size, 3, none⟩ = some (.int .i64 rs0) ∧ W'.cell? ⟨w.heap.size, 4, none⟩ = some (.slice a2 blocks.length k2)) (by kernel_rfl) ⟨f0, f1, f2, f3, f4⟩ (fun hHeld => ?_)
      clear f0 f1 f2 f3 f4
      refine tks 3 [0, 1, 4] hHeld ?_
      try simp only [tkP]
      refine rdy 2 fun K hK => ?_
      go_simp
      refine (CG.out _ (bel_trans hB0 hsx)).mono ?_
      rintro e W1 ⟨vN, vP, rfl, hN, hP, hb1⟩
      have hB1 := bel_trans hsx hb1
      obtain ⟨_, _, ⟨⟨aN, cN, rfl, -, -⟩, -⟩, -, -⟩ := hN.ex
      obtain ⟨_, _, ⟨⟨aP, cP, rfl, -, -⟩, -⟩, -, -⟩ := hP.ex
      have C2 := Kp.mk (CL.out W1 _ (.slice aP blocks.length cP) _ (bel_trans hB0 hB1) hN ⟨_, _, _, rfl⟩ (by omega))
      clear hN hP hb1
      refine hK.out _ _ (SF.out _ hB1) (fun hHeld => ?_)
      clear hK K
      try simp only [tkP]
      refine rdy 3 fun K hK => ?_
      go_simp
      refine C2.out.mono ?_
      rintro e W2 ⟨hd, hc, rs, L, rfl, hT, hL, hb2⟩
      have hB2 := bel_trans hB1 hb2
      have hcr := hT.at hr
      have hRr := hT.rows r hr
      have hlu : Kp (lvU (L r) cnt = LL) := ⟨by
        have := hlv.out (t := r) (f := L r) hr (fun u hu => hL r hr u (by have := hcnt.out; omega))

        rw [hLL.out] at this
        exact this⟩
      clear hT hL hb2 C2
      refine hK.out _ _ (SF.out _ hB2) (fun hHeld => ?_)
      clear hK K
      try simp only [tkP]
      refine tks 1 [5] hHeld ?_
      try simp only [tkP]
      refine rdy 6 fun K hK => ?_
      go_simp
      refine hK.out _ _ (SF.out _ hB2) (fun hHeld => ?_)
      clear hK K
      try simp only [tkP]
      refine tks 1 [7] hHeld ?_
      try simp only [tkP]
      refine wpAnyH_done (by kernel_rfl) ?_ _
      have hO2 := hown0.out.keep hB2
      clear hHeld hcr
      generalize L r = f at *
      generalize rs r = rr at *
      go_wp2_with fail
      go_loopw [5, 7] (fun v5 s wr => ∃ j : Nat, j ≤ cnt ∧ s = .int .i64 j ∧ OwnI wr w.heap.size v5 (lvU f j) ∧ BRow wr rr cnt f ∧ Below w.heap.size w wr) (fun _ s _ => cnt - (intOf s).toNat)
      case atStart => exact ⟨0, Nat.zero_le _, rfl, hO2, hRr, bel_trans hB0 hB2⟩
      case round =>
        clear hO2 hRr
        obtain ⟨j, hj, rfl, hO, hRl, hBw⟩ := hrel
        have j0 : (0 : Int) ≤ (j : Int) := by omega
        by_cases hjn : j < cnt
        · have j1 : (j : Int) < (cnt : Int) := by omega
          have d1 := hRl.at hjn
          have hlen := lvU_len f j
          obtain ⟨va, vc, rfl⟩ := hO.shape
          cases hf : f j with
          | false =>
            rw [hf] at d1
            have hO3 : OwnI wr w.heap.size (.slice va (lvU f j).length vc) (lvU f (j + 1)) := by rw [lvU_no hf]; exact hO
            clear hO
            replace hO3 := Kp.mk hO3
            replace hf := Kp.mk hf
            replace hRl := Kp.mk hRl
            go_wp2_with fail
            exact ⟨⟨j + 1, by omega, by go_num, hO3.out, hRl.out, hBw⟩, by simp [intOf]; omega⟩
          | true =>
            rw [hf] at d1
            have hal := bel_alloc wr (Go.Obj.cells #[.int .i64 j] 2)
            obtain ⟨g, cap, w6, hrun, hown6, hgrow, hat, hlt6⟩ := run_append_lies (P := Try.prog) (wr.alloc (Go.Obj.cells #[.int .i64 j] 2)) 22 22 w.heap.size 2 i0 _ 1 8 Try.underlying22 hi0 hz0 hz1 hz2 rfl (by omega) _ _ _ (hO.r.alloc _) ⟨wr.heap.size, 0, none⟩ 1 1 [.int .i64 j] rfl (World.news_of_block (cs := #[.int .i64 j]) (t := 2) (fr := (0, 0)) (new_cells _ _)) (by simp [Value.oneCell']) (by omega) (by unfold maxLen; omega) (by omega) (by have := hBw.size; simp; omega) (wr.heap.size + 1) (by simp)
            have hO6 : OwnI w6 w.heap.size (.slice (some ⟨g, 0, none⟩) ((lvU f j).length + 1) cap) (lvU f (j + 1)) := ⟨by
              rw [lvU_yes hf, List.length_append, List.length_singleton, List.map_append]
              exact hown6⟩
            have hR6 := (hRl.keep hal).kept hgrow ((hRl.keep hal).ne (hO.r.alloc (Go.Obj.cells #[.int .i64 j] 2)) (by decide))
            have hB6 : Below w.heap.size w w6 := (bel_trans hBw hal).grown hgrow (bel_trans hBw hal).size (fun k hk => (hO.r.lt k hk).1)
            replace hR6 := Kp.mk hR6
            replace hrun := Kp.mk hrun
            replace hO6 := Kp.mk hO6
            replace hf := Kp.mk hf
            clear hRl hown6 hgrow hat hO hal
            go_wp2_with (at_builtin; refine wpList_append_run3 _ rfl (.tmp 36) (.tmp 38) 22 rfl rfl rfl hrun.out ?_)
            exact ⟨⟨j + 1, by omega, by go_num, hO6.out, hR6.out, hB6⟩, by simp [intOf]; omega⟩
        · obtain hje : j = cnt := by omega
          rw [hje, hlu.out] at hO
          replace hje := Kp.mk hje
          have j1 : ¬ (j : Int) < (cnt : Int) := by have := hje.out; omega
          obtain ⟨va, vc, rfl⟩ := hO.shape
          go_wp2_with fail
          go_ret
          exact ⟨_, rfl, hO, hBw⟩
    · have hge : (t : Int) ≥ (blocks.length : Int) := by omega
      have hge2 : decide (t ≥ (blocks.length : Int)) = true := decide_eq_true hge
      have hneg : ¬ (t < 0) := by omega
      have hnl : Kp (LL = []) := ⟨by rw [← hLL.out]; exact hnil.out (fun q => h1 q.2)⟩
      clear hnil
      replace hown0 := Kp.mk hown0
      go_enter Try.func20, Try.ntmps20
      go_upto_region 2 with fail
      rw [← hW0.out]
      go_wp2_with fail
      go_ret
      exact ⟨_, rfl, by rw [hnl.out]; exact hown0.out, hB0⟩
  · have hneg : t < 0 := by omega
    have hneg2 : decide (t < 0) = true := decide_eq_true hneg
    have hnl : Kp (LL = []) := ⟨by rw [← hLL.out]; exact hnil.out (fun q => h0 q.1)⟩
    clear hnil
    replace hown0 := Kp.mk hown0
    go_enter Try.func20, Try.ntmps20
    go_upto_region 2 with fail
    rw [← hW0.out]
    go_wp2_with fail
    go_ret
    exact ⟨_, rfl, by rw [hnl.out]; exact hown0.out, hB0⟩
end Go.Proofs.Ytbfpfjkjeekbdaa
