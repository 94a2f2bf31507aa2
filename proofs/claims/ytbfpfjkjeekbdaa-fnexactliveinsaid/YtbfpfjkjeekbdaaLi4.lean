/- slices.Repeat of one place. -/
import Derived.Test.YtbfpfjkjeekbdaaRn1
import Derived.Test.YtbfpfjkjeekbdaaIt2f
import Derived.Test.YtbfpfjkjeekbdaaIt1
import Derived.Test.YtbfpfjkjeekbdaaVt1
import Derived.Test.YtbfpfjkjeekbdaaWk1
import Derived.Shelf.Abstract
import Derived.TacticsInMore
import Derived.OwnWalkIn
import Derived.LoopIn
import Derived.RegionIn
import Derived.RangeFuncBox
namespace Go.Proofs.Ytbfpfjkjeekbdaa
open Go.ChangeShapes Go.WideShapes Go.ChangeAt Go.RowKit
set_option linter.unusedVariables false
set_option linter.unusedSimpArgs false
theorem infoPz : (Try.prog.info? 82).map (fun i => (i.zero, i.size, i.bytes)) = some (some (.agg #[.int .i64 0, .int .i64 0]), 2, 16) := by kernel_rfl
/-- The cells of places. -/
def plZ (ps : List (Int × Int)) : List Value := ps.flatMap fun x => [.int .i64 x.1, .int .i64 x.2]
theorem plZ_app (a b : List (Int × Int)) : plZ (a ++ b) = plZ a ++ plZ b := by simp [plZ]
theorem plZ_len (a : List (Int × Int)) : (plZ a).length = a.length * 2 := by
  induction a with
  | nil => rfl
  | cons x r ih => unfold plZ at *; rw [List.flatMap_cons, List.length_append, ih]; simp; omega
theorem plZ_at (a : List (Int × Int)) (i : Nat) (h : i < a.length) : (plZ a)[i * 2]? = some (.int .i64 a[i].1) ∧ (plZ a)[i * 2 + 1]? = some (.int .i64 a[i].2) := by
  induction a generalizing i with
  | nil => simp at h
  | cons x r ih =>
    cases i with
    | zero => exact ⟨rfl, rfl⟩
    | succ i =>
      have := ih i (by simpa using h)
      rw [show (i + 1) * 2 = i * 2 + 1 + 1 by omega]
      exact this
theorem plZ_rep (n : Nat) (x : Int) : plZ (List.replicate n (x, x)) = List.replicate (n * 2) (.int .i64 x) := by
  induction n with
  | zero => rfl
  | succ n ih => rw [List.replicate_succ, show (n + 1) * 2 = n * 2 + 1 + 1 by omega, List.replicate_succ, List.replicate_succ, ← ih]; rfl
/-- The builtin copy, of elements of two cells. -/
theorem run_copy_two {P : Program} (w : World) (dT sT ty elem : TypeId) (g o dLen dCap : Nat) (a : Addr) (sLen sCap n : Nat) (cur : Array Value) (t : TypeId) (cs : List Value)
    (hu : P.underlying dT = some (.slice elem)) (hs : (P.info? elem).map (·.size) = some 2) (hg : w.heap[g]? = some (.cells cur t (0, 0))) (hn : n = Nat.min sLen dLen) (hc : cs.length = n * 2)
    (hsrc : ∀ j v, cs[j]? = some v → w.cell? (a.add j) = some v) (hfit : o + cs.length ≤ cur.size) (h1 : ∀ v ∈ cs, v.oneCell' = true) :
    (Builtin.copy_ #[dT, sT] ty #[.slice (some ⟨g, o, none⟩) dLen dCap, .slice (some a) sLen sCap]).run P w =
      .ok (goInt n) (w.setRow g (cur.toList.take o ++ cs ++ cur.toList.drop (o + cs.length)).toArray) := by
  have hl := run_loadCells_list (P := P) w a cs hsrc
  have hst := run_storeCells_at P g o t cs 0 cur w hg (by simpa using hfit) h1
  cases hq : P.info? elem with
  | none => simp [hq] at hs
  | some i =>
    have hi : i.size = 2 := by simpa [hq] using hs
    rw [hc] at hl hst
    simp [Builtin.copy_, run_underlying hu, Builtin.lenOf, Builtin.firstCells, sizeOf, typeInfo, hq, hi, ← hn, hl, hst, hc]
theorem mkPz (n : Nat) (hn : n ≤ 1048576) : ∃ O : Obj, (∀ W : World, (Instr.makeSlice 76 (.int .i64 (n : Int)) (.int .i64 (n : Int))).run Try.prog W = .ok (.slice (some ⟨W.heap.size, 0, none⟩) n n) (W.alloc O)) ∧ ∃ L : List Value, L.length = n * 2 ∧ O = Go.Obj.cells L.toArray 82 := by
  obtain ⟨i, hi, hzz⟩ := Option.map_eq_some_iff.1 infoPz
  simp only [Prod.mk.injEq] at hzz
  obtain ⟨hz, hs, hbb⟩ := hzz
  have e := size_madeCells (Value.agg #[.int .i64 0, .int .i64 0]).cells (n * 2)
  refine ⟨.cells (madeCells (Value.agg #[.int .i64 0, .int .i64 0]).cells (n * 2)) 82, fun W => ?_, (madeCells (Value.agg #[.int .i64 0, .int .i64 0]).cells (n * 2)).toList, by rw [Array.length_toList, e], by simp⟩
  have hb' : (i.bytes : Int) * (n : Int) ≤ 281474976710656 := by rw [hbb]; omega
  have hr := run_make (P := Try.prog) W 76 82 i _ Try.underlying76 hi hz .i64 .i64 n n (by omega) (Int.le_refl _) hb' (by omega)
  simp only [Int.toNat_natCast, hs] at hr
  exact hr
set_option maxRecDepth 100000 in
set_option maxHeartbeats 4000000 in
theorem repP (ty : Int) (bx n : Nat) (w : World) (hx : At w bx 0 (.int .i64 ty)) (hx' : At w bx 1 (.int .i64 ty)) (h2 : n ≤ 1048576) :
    Calls Try.prog 62 #[.slice (some ⟨bx, 0, none⟩) 1 1, .int .i64 n] w fun e w' => e = .returned (.slice (some ⟨w.heap.size, 0, none⟩) n n) ∧ Kp (w'.heap[w.heap.size]? = some (Go.Obj.cells (Array.replicate (n * 2) (.int .i64 ty)) 82 (0, 0))) ∧ Below w.heap.size w w' := by
  have g1 : (n : Int) ≤ 1048576 := by omega
  have g0 : ¬ (n : Int) < 0 := by omega
  have hw : IntKind.u64.wrap (n : Int) = n := by rw [IntKind.wrap_u64]; omega
  have hw2 : IntKind.i64.wrap (n : Int) = n := by rw [IntKind.wrap_i64]; omega
  have MU : Kp (∀ w, Calls Try.prog 72 #[.int .u64 1, .int .u64 n] w fun e w' => e = .returned (.tuple #[.int .u64 0, .int .u64 n]) ∧ w' = w) := ⟨fun w => by
    have q := mul_any 1 n w (by decide) (by omega) (by decide) (by omega)
    rwa [show (1 : Int) * (n : Int) / 18446744073709551616 = 0 by omega, show mLo (1 * (n : Int)) = n by unfold mLo; omega] at q⟩
  obtain ⟨O, hmk, L, hl, hO⟩ := mkPz n h2
  have hx1 := at_keep hx (bel_alloc w O)
  have hx2 := at_keep hx' (bel_alloc w O)
  have hB0 := bel_alloc w O
  have hg' : (w.alloc O).heap[w.heap.size]? = some (Go.Obj.cells L.toArray 82 (0, 0)) := by rw [hO]; exact new_cells w _
  obtain ⟨W0, hW0⟩ : ∃ W0, W0 = w.alloc O := ⟨_, rfl⟩
  rw [← hW0] at hx1 hx2 hB0 hg'
  clear hO hx hx'
  replace hW0 := Kp.mk hW0
  obtain ⟨m0, hm0⟩ : ∃ m0, m0 = Nat.min 1 n := ⟨_, rfl⟩
  have hm1 : m0 ≤ 1 ∧ m0 ≤ n ∧ (0 < n → 0 < m0) := by
    rw [hm0]
    have a := Nat.min_le_left 1 n
    have b := Nat.min_le_right 1 n
    refine ⟨a, b, fun h => Nat.le_min.2 ⟨Nat.le_refl _, h⟩⟩
  go_enter Try.func62, Try.ntmps62
  go_wp2_with fail
  refine (MU.out _).mono ?_
  rintro e w1 ⟨rfl, rfl⟩
  go_upto_region 7 with fail
  rw [← hW0.out]
  clear hW0
  obtain ⟨W4, hcp, hg4, hb4⟩ : ∃ W4 : World, (Builtin.copy_ #[76, 76] 3 #[.slice (some ⟨w1.heap.size, 0, none⟩) n n, .slice (some ⟨bx, 0, none⟩) 1 1]).run Try.prog W0 = .ok (goInt m0) W4 ∧ W4.heap[w1.heap.size]? = some (Go.Obj.cells (splice L 0 (List.replicate (m0 * 2) (.int .i64 ty))).toArray 82 (0, 0)) ∧ Below w1.heap.size w1 W4 := by
    have q := run_copy_two (P := Try.prog) W0 76 76 3 82 w1.heap.size 0 n n ⟨bx, 0, none⟩ 1 1 m0 L.toArray 82 (List.replicate (m0 * 2) (.int .i64 ty)) Try.underlying76 (by kernel_rfl) hg' hm0 (by simp) (fun j v hj => by
      have hjm : j < m0 * 2 := by
        have := (List.getElem?_eq_some_iff.1 hj).1
        simpa using this
      rw [List.getElem?_replicate, if_pos hjm] at hj
      cases hj
      have : j = 0 ∨ j = 1 := by omega
      rcases this with rfl | rfl
      · rw [Go.WideShapes.add_plain]; exact hx1
      · rw [Go.WideShapes.add_plain]; exact hx2) (by simp; omega) (fun u hu => by rw [(List.mem_replicate.1 hu).2]; rfl)
    refine ⟨_, q, ?_, below_setRow hB0 (Nat.le_refl _) _⟩
    rw [setRow_heap W0 w1.heap.size _ _ 82 _ hg']
    simp [splice]
  have hd : ∀ j, j < m0 * 2 → (splice L 0 (List.replicate (m0 * 2) (Value.int .i64 ty)))[j]? = some (.int .i64 ty) := by
    have := splice_rep (cur := L) (V := .int .i64 ty) (k := 0) (m := m0 * 2) (by omega) (fun j hj => absurd hj (by omega))
    simpa using this
  have hl4 : (splice L 0 (List.replicate (m0 * 2) (Value.int .i64 ty))).length = n * 2 := by rw [length_splice _ _ _ (by simp; omega)]; exact hl
  replace hg4 := Kp.mk hg4
  replace hd := Kp.mk hd
  generalize splice L 0 (List.replicate (m0 * 2) (Value.int .i64 ty)) = L4 at *
  clear hg' hx1 hx2 hl hmk hB0 hm0
  go_wp2_with fail
  go_loopw [8] (fun s wr => ∃ k : Nat, (0 < n → 1 ≤ k) ∧ k ≤ n ∧ s = .int .i64 k ∧ Below w1.heap.size w1 wr ∧ ∃ M : List Value, M.length = n * 2 ∧ Kp (wr.heap[w1.heap.size]? = some (Go.Obj.cells M.toArray 82 (0, 0))) ∧ Kp (∀ j, j < k * 2 → M[j]? = some (.int .i64 ty))) (fun s _ => n - (intOf s).toNat)
  case atStart => exact ⟨m0, hm1.2.2, hm1.2.1, rfl, hb4, L4, hl4, hg4, hd⟩
  case round =>
    clear hl4 hg4 hd hb4 hm1
    obtain ⟨k, hk1, hk2, rfl, hB, M, hM, hg, hd⟩ := hrel
    by_cases hlt : k < n
    · replace hk1 : 1 ≤ k := hk1 (by omega)
      have hlt' : (k : Int) < (n : Int) := by omega
      have hk3 : (k : Int) ≤ n := by omega
      have hk0 : (0 : Int) ≤ k := by omega
      obtain ⟨m, hm⟩ : ∃ m, m = Nat.min k (n - k) := ⟨_, rfl⟩
      have hm1 : 1 ≤ m := by rw [hm]; exact Nat.le_min.2 ⟨hk1, by omega⟩
      have hm2 : m ≤ k ∧ m ≤ n - k := ⟨by rw [hm]; exact Nat.min_le_left _ _, by rw [hm]; exact Nat.min_le_right _ _⟩
      obtain ⟨W5, hcp, hg5, hb5⟩ : ∃ W5 : World, (Builtin.copy_ #[76, 76] 3 #[.slice (some ⟨w1.heap.size, k * 2, none⟩) (n - k) (n - k), .slice (some ⟨w1.heap.size, 0, none⟩) k n]).run Try.prog wr.drew = .ok (goInt m) W5 ∧ W5.heap[w1.heap.size]? = some (Go.Obj.cells (splice M (k * 2) (List.replicate (m * 2) (.int .i64 ty))).toArray 82 (0, 0)) ∧ Below w1.heap.size w1 W5 := by
        have hgd : wr.drew.heap[w1.heap.size]? = some (Go.Obj.cells M.toArray 82 (0, 0)) := hg.out
        have q := run_copy_two (P := Try.prog) wr.drew 76 76 3 82 w1.heap.size (k * 2) (n - k) (n - k) ⟨w1.heap.size, 0, none⟩ k n m M.toArray 82 (List.replicate (m * 2) (.int .i64 ty)) Try.underlying76 (by kernel_rfl) hgd hm (by simp) (fun j v hj => by
          have hjm : j < m * 2 := by
            have := (List.getElem?_eq_some_iff.1 hj).1
            simpa using this
          rw [List.getElem?_replicate, if_pos hjm] at hj
          cases hj
          have := hd.out j (by omega)
          have hc : At wr.drew w1.heap.size j (.int .i64 ty) := at_cells hgd (by simpa using this)
          unfold Addr.add
          split
          · rename_i q0; rw [q0] at hc; exact hc
          · rw [Nat.zero_add]; exact hc) (by simp; omega) (fun u hu => by rw [(List.mem_replicate.1 hu).2]; rfl)
        refine ⟨_, q, ?_, below_setRow hB.drew (Nat.le_refl _) _⟩
        rw [setRow_heap wr.drew w1.heap.size _ _ 82 _ hgd]
        simp [splice]
      have hd5 : ∀ j, j < (k + m) * 2 → (splice M (k * 2) (List.replicate (m * 2) (Value.int .i64 ty)))[j]? = some (.int .i64 ty) := by
        have := splice_rep (cur := M) (V := Value.int .i64 ty) (k := k * 2) (m := m * 2) (by omega) hd.out
        rwa [← Nat.add_mul] at this
      have hl5 : (splice M (k * 2) (List.replicate (m * 2) (Value.int .i64 ty))).length = n * 2 := by rw [length_splice _ _ _ (by simp; omega)]; exact hM
      replace hg5 := Kp.mk hg5
      replace hd5 := Kp.mk hd5
      generalize splice M (k * 2) (List.replicate (m * 2) (Value.int .i64 ty)) = M5 at *
      have hm3 : (k : Int) + (m : Int) ≤ n := by omega
      clear hg hd hM hB hm
      go_wp2_with fail
      go_region
      go_wp2_with fail
      exact ⟨⟨k + m, by omega, by omega, by go_num, hb5, M5, hl5, hg5, hd5⟩, by simp [intOf]; omega⟩
    · have hlt' : ¬ (k : Int) < (n : Int) := by omega
      obtain rfl : k = n := by omega
      have hfin : M = List.replicate (k * 2) (.int .i64 ty) := List.ext_getElem? fun j => by
        by_cases hj : j < k * 2
        · rw [hd.out j hj]; simp [hj]
        · rw [List.getElem?_eq_none (by omega), List.getElem?_eq_none (by simp; omega)]
      replace hfin := Kp.mk hfin
      go_wp2_with fail
      go_ret
      refine ⟨rfl, ?_⟩
      exact ⟨⟨by rw [hg.out, hfin.out]; simp⟩, hB⟩
end Go.Proofs.Ytbfpfjkjeekbdaa
namespace Go.Proofs.Ytbfpfjkjeekbdaa
open Go.ChangeShapes Go.WideShapes Go.ChangeAt Go.RowKit
attribute [local go_sem] Oper.semAt_some
set_option linter.unusedVariables false
set_option linter.unusedSimpArgs false
theorem wpListIn_append_run2 {F : Fence} {n : Nat} {P : Program} (w : World) {ops : Array Oper} {rest : List Oper} {o : Oper} {a : Act} {Q : Exit → Act → World → Prop} (hg : o.guard = none) (s x : Operand) (t : TypeId)
    (hop : o.op = Op.call { callee := Callee.builtin Builtin.append, args := #[s, x], argTypes := #[t, t] }) {v : Value} {w' : World} (hr : (Builtin.append_ #[t, t] o.type #[a.eval s, a.eval x]).run P w = .ok v w')
    (h : wpListIn F n P ops Q rest (a.put o.dst v) w') : wpListIn F n P ops Q (o :: rest) a w := by
  refine wpListIn_plain hg fun K hK => ?_
  unfold Oper.wpIn
  refine ⟨?_, ?_⟩
  · simp [Oper.about, hop, resolve, Target.leads, Sem.run_pure]
  · rw [Oper.semAt_plain F _ _ (by rw [hop]; intro c hc; cases hc)]
    simp [execOp, hop, resolve, invoke, builtin, hr, Result.andThen]
    exact hK _ _ h
/-- A row of places that a call owns. -/
structure OwnZ (w : World) (base : Nat) (v : Value) (ps : List (Int × Int)) : Prop where
  r : w.ownsRow base 82 2 v ps.length (plZ ps)
/-- What the loop over the definitions has so far. -/
structure HoI (w W3 : World) (B : Nat) (M : List (Int × Int)) (T : Nat → Prop) (W : World) (v : Value) : Prop where
  box : Boxed W B 76 v
  row : OwnZ W w.heap.size v M
  ne : v.ownBlock ≠ some B
  ne2 : v.ownBlock ≠ some (B + 1)
  t : ∀ b, T b ↔ (b = B ∨ v.ownBlock = some b)
  bel : Below w.heap.size w W
theorem hoi_ab (w W3 : World) (B : Nat) (M : Nat → List (Int × Int)) (hw : w.heap.size ≤ W3.heap.size) : AbF W3.heap.size (fun k T W => ∃ v, HoI w W3 B (M k) T W v) := by
  constructor
  · rintro k T A C ⟨v, h⟩ hA hK
    exact ⟨v, (hK.mine B ((h.t B).2 (.inl rfl))).trans h.box, ⟨row_kept' h.row.r (fun g hg => hK.mine g ((h.t g).2 (.inr hg)))⟩, h.ne, h.ne2, h.t, ⟨hK.os.trans h.bel.os, hK.tape.trans h.bel.tape, hK.output.trans h.bel.output, Nat.le_trans h.bel.size hK.size, fun k hk => (hK.low k (by omega)).trans (h.bel.block k hk)⟩⟩
  · rintro k T A ⟨v, h⟩ b hb
    rcases (h.t b).1 hb with rfl | hb
    · exact h.box.lt
    · exact (h.row.r.lt b hb).2
/-- One place more, put behind. -/
theorem HoI.put {w W3 X w2 : World} {B : Nat} {M : List (Int × Int)} {T : Nat → Prop} {v : Value} (h : HoI w W3 B M T X v) (hX : W3.heap.size ≤ X.heap.size) (hB : B + 1 < W3.heap.size) (hBw : w.heap.size ≤ B) {o : Obj} {g cap : Nat} {y : Int × Int} (hg : (X.alloc o).grownBy w2 v.ownBlock)
    (hown : w2.ownsRow w.heap.size 82 2 (.slice (some ⟨g, 0, none⟩) (M.length + 1) cap) (M.length + 1) (plZ M ++ [.int .i64 y.1, .int .i64 y.2])) (hat : v.ownBlock = some g ∨ g = X.heap.size + 1) (S : Nat → Prop) (hS : ∀ k, S k → k < W3.heap.size ∧ k ≠ B) (hSr : ∀ k, S k → some k ≠ v.ownBlock) :
    Boxed w2 B 76 v ∧ ∃ T', Grew T T' X ∧ KdT S T W3.heap.size X (w2.setCell ⟨B, 0, none⟩ (.slice (some ⟨g, 0, none⟩) (M.length + 1) cap)) ∧ HoI w W3 B (M ++ [y]) T' (w2.setCell ⟨B, 0, none⟩ (.slice (some ⟨g, 0, none⟩) (M.length + 1) cap)) (.slice (some ⟨g, 0, none⟩) (M.length + 1) cap) := by
  have hrow : ∀ k, v.ownBlock = some k → w.heap.size ≤ k := fun k hk => (h.row.r.lt k hk).1
  have hlow : ∀ k, k < X.heap.size → some k ≠ v.ownBlock → w2.heap[k]? = X.heap[k]? := fun k hk hne => (hg.block k (by simp; omega) hne).trans ((MapKept.heap_alloc _ _).2 k (by omega))
  have hBb : B < X.heap.size := h.box.lt
  have hbx : Boxed w2 B 76 v := (hlow B hBb (fun e => h.ne e.symm)).trans h.box
  have hs2 : X.heap.size ≤ w2.heap.size := by have := hg.size; simp at this; omega
  have hgW : w.heap.size ≤ g := (hown.lt g rfl).1
  have hgB : g ≠ B := fun e => by
    rcases hat with q | q
    · exact h.ne (by rw [q, e])
    · omega
  have hgB2 : g ≠ B + 1 := fun e => by
    rcases hat with q | q
    · exact h.ne2 (by rw [q, e])
    · omega
  refine ⟨hbx, fun b => b = B ∨ g = b, fun b hb => ?_, ?_, ?_⟩
  · rcases hb with rfl | rfl
    · exact .inl ((h.t _).2 (.inl rfl))
    · rcases hat with q | q
      · exact .inl ((h.t _).2 (.inr q))
      · exact .inr (by omega)
  · have hT : ∀ k, ¬ T k → k ≠ B ∧ some k ≠ v.ownBlock := fun k hk => ⟨fun e => hk ((h.t k).2 (.inl e)), fun e => hk ((h.t k).2 (.inr e.symm))⟩
    refine ⟨hg.os, hg.tape, hg.output, by simp [World.setCell]; omega, fun k hk => ?_, fun k hk hk2 hk3 => ?_⟩
    · obtain ⟨q1, q2⟩ := hS k hk
      exact (heap_set _ _ _ _ _ q2).trans (hlow k (by omega) (hSr k hk))
    · obtain ⟨q1, q2⟩ := hT k hk3
      exact (heap_set _ _ _ _ _ q1).trans (hlow k hk2 q2)
  · refine ⟨Boxed.set _ hbx, ⟨?_⟩, by simp [Value.ownBlock]; exact hgB, by simp [Value.ownBlock]; exact hgB2, fun b => by simp [Value.ownBlock], ?_⟩
    · have e : (M ++ [y]).length = M.length + 1 := by simp
      rw [e, plZ_app]
      exact row_kept' hown (fun k hk => by
        simp only [Value.ownBlock, Option.some.injEq] at hk
        exact heap_set _ _ _ _ _ (by omega))
    · exact (((h.bel.alloc h.bel.size o).grown hg (by have := h.bel.size; simp; omega) (fun k hk => by have := hrow k hk; omega))).setCell (by show w.heap.size ≤ B; omega) _
/-- The places of the values. -/
def hmL (np : Nat) (L : List ItD) : List (Int × Int) := List.replicate np (-1, -1) ++ (defL np L).map fun x => ((x.2.1 : Int), (x.2.2 : Int))
set_option maxRecDepth 100000 in
set_option maxHeartbeats 8000000 in
theorem homesI (name : ByteArray) (link res : Int) (vp vb : Value) (np : Nat) (hp : ∃ a c, vp = .slice a np c) (hb : ∃ a n c, vb = .slice a n c) (Y : List (List ItD)) (w : World) (hY : ItBls w.heap.size w vb Y) (hnp : np ≤ 1048576) (hbd : np + Y.flatten.length ≤ 2097152) :
    Calls Try.prog 44 #[.agg #[.string name, .int .i64 link, vp, .int .i64 res, vb]] w fun e w' => ∃ v, e = .returned v ∧ OwnZ w' w.heap.size v (hmL np Y.flatten) ∧ Below w.heap.size w w' := by
  obtain ⟨a1, c1, rfl⟩ := hp
  obtain ⟨a2, n2, c2, rfl⟩ := hb
  have CD : Kp (∀ w, CallsIn Fence.wide 11 Try.prog _ _ w _) := ⟨fun w => callsIn_wide.2 (definitionsOf_c name link res (.slice a1 np c1) (.slice a2 n2 c2) ⟨_, _, _, rfl⟩ ⟨_, _, _, rfl⟩ w)⟩
  have CR : Kp (∀ bx W, At W bx 0 (.int .i64 (-1)) → At W bx 1 (.int .i64 (-1)) → CallsIn Fence.wide 11 Try.prog 62 #[.slice (some ⟨bx, 0, none⟩) 1 1, .int .i64 np] W _) := ⟨fun bx W h1 h2 => callsIn_wide.2 (repP (-1) bx np W h1 h2 hnp)⟩
  refine (callsIn_wide (n := 12)).1 ?_
  refine callsIn_of_wp_marks Try.func44 rfl trivial ?_ rfl
  simp only [Try.ntmps44, List.size_toArray, List.length_cons, List.length_nil, Nat.reduceAdd, Nat.reduceSub, Array.replicate_succ, Array.replicate_zero, List.push_toArray, List.append_toArray, List.nil_append, List.cons_append]
  obtain ⟨i0, hi0, hz0, hz1, hz2⟩ := info_parts infoPz
  obtain ⟨W1, hW1⟩ : ∃ W1, Kp (W1 = (w.alloc (Go.Obj.cells #[.string name, .int .i64 link, .slice a1 np c1, .int .i64 res, .slice a2 n2 c2] 30)).alloc (Go.Obj.cells #[.int .i64 (-1), .int .i64 (-1)] 82)) := ⟨_, ⟨rfl⟩⟩
  have hB1 : Below w.heap.size w W1 := by rw [hW1.out]; exact bel_trans (bel_alloc _ _) (bel_alloc _ _)
  have hx1 : W1.heap[w.heap.size]? = some (Go.Obj.cells #[.string name, .int .i64 link, .slice a1 np c1, .int .i64 res, .slice a2 n2 c2] 30 (0, 0)) := by rw [hW1.out]; exact keep_cells (new_cells w _) (bel_alloc _ _)
  have hy1 : W1.heap[w.heap.size + 1]? = some (Go.Obj.cells #[.int .i64 (-1), .int .i64 (-1)] 82 (0, 0)) := by
    have := new_cells (w.alloc (Go.Obj.cells #[.string name, .int .i64 link, .slice a1 np c1, .int .i64 res, .slice a2 n2 c2] 30)) (Go.Obj.cells #[.int .i64 (-1), .int .i64 (-1)] 82)
    rw [World.size_alloc] at this
    rw [hW1.out]; exact this
  have hs1 : W1.heap.size = w.heap.size + 2 := by rw [hW1.out]; simp
  have CR1 := Kp.mk (CR.out _ W1 (at_cells hy1 rfl) (at_cells hy1 rfl))
  gi_wp2
  rw [← hW1.out]
  refine ⟨trivial, ?_⟩
  refine CR1.out.mono ?_
  rintro e W2 ⟨rfl, hg2, hB2⟩
  obtain ⟨hcell, hce⟩ : ∃ o, o = Go.Obj.cells #[.slice (some ⟨w.heap.size + 2, 0, none⟩) np np] 76 := ⟨_, rfl⟩
  have hx2 := keep_cells (keep_cells hx1 hB2) (bel_alloc W2 hcell)
  have x0 : (W2.alloc hcell).cell? ⟨w.heap.size, 0, none⟩ = _ := at_cells hx2 rfl
  have x1 : (W2.alloc hcell).cell? ⟨w.heap.size, 1, none⟩ = _ := at_cells hx2 rfl
  have x2 : (W2.alloc hcell).cell? ⟨w.heap.size, 2, none⟩ = _ := at_cells hx2 rfl
  have x3 : (W2.alloc hcell).cell? ⟨w.heap.size, 3, none⟩ = _ := at_cells hx2 rfl
  have x4 : (W2.alloc hcell).cell? ⟨w.heap.size, 4, none⟩ = _ := at_cells hx2 rfl
  rw [hce] at x0 x1 x2 x3 x4
  replace hce := Kp.mk hce
  have hzC : w.heap.size + 2 < W2.heap.size := by have := (Array.getElem?_eq_some_iff.1 hg2.out).1; omega
  replace hx2 := Kp.mk hx2
  replace hx1 := Kp.mk hx1
  replace hy1 := Kp.mk hy1
  clear CR CR1
  gi_wp2
  refine ⟨trivial, ?_⟩
  refine (CD.out _).mono ?_
  rintro e W3' ⟨rfl, rfl⟩
  obtain ⟨W3, hW3⟩ : ∃ W3, Kp (W3 = (W2.alloc hcell).alloc (Go.Obj.cells #[.string name, .int .i64 link, .slice a1 np c1, .int .i64 res, .slice a2 n2 c2] 30)) := ⟨_, ⟨rfl⟩⟩
  have hB23 : Below W2.heap.size W2 W3 := by rw [hW3.out]; exact bel_trans (bel_alloc _ _) (bel_alloc _ _)
  have hz3 : W3.heap.size = W2.heap.size + 2 := by rw [hW3.out]; simp
  have hB3 : Below w.heap.size w W3 := bel_trans (bel_trans hB1 hB2) hB23
  have hf3 : W3.heap[W2.heap.size + 1]? = some (Go.Obj.cells #[.string name, .int .i64 link, .slice a1 np c1, .int .i64 res, .slice a2 n2 c2] 30 (0, 0)) := by
    have := new_cells (W2.alloc hcell) (Go.Obj.cells #[.string name, .int .i64 link, .slice a1 np c1, .int .i64 res, .slice a2 n2 c2] 30)
    rw [World.size_alloc] at this
    rw [hW3.out]; exact this
  have hbx3 : Boxed W3 W2.heap.size 76 (.slice (some ⟨w.heap.size + 2, 0, none⟩) np np) := by
    have := keep_cells (new_cells W2 hcell) (bel_alloc (W2.alloc hcell) (Go.Obj.cells #[.string name, .int .i64 link, .slice a1 np c1, .int .i64 res, .slice a2 n2 c2] 30))
    rw [← hW3.out, hce.out] at this
    exact this
  have hg3 := keep_cells hg2.out hB23
  have hrow3 : OwnZ W3 w.heap.size (.slice (some ⟨w.heap.size + 2, 0, none⟩) np np) (List.replicate np (-1, -1)) := by
    refine ⟨?_⟩
    rw [List.length_replicate, plZ_rep]
    refine ⟨by simp, .inr ⟨w.heap.size + 2, np, _, rfl, by omega, by rw [← hs1]; exact hg3, Nat.le_refl _, by unfold maxLen; omega, by simp, ?_⟩⟩
    rw [List.take_of_length_le (by simp)]
    simp
  obtain ⟨S, hSd⟩ : ∃ S : Nat → Prop, S = fun k => k < w.heap.size ∨ k = W2.heap.size + 1 := ⟨_, rfl⟩
  have hSi : ∀ k, S k ↔ k < w.heap.size ∨ k = W2.heap.size + 1 := fun k => by rw [hSd]
  clear hSd
  have hSw : ∀ k, S k → k < W3.heap.size := fun k hk => by rcases (hSi k).1 hk with q | q <;> omega
  have hseq := Kp.mk (defs_seqF (12 - 1) S w.heap.size (W2.heap.size + 1) W3 name link res (.slice a1 np c1) (.slice a2 n2 c2) np ⟨_, _, rfl⟩ ⟨_, _, _, rfl⟩ Y (hY.kq (Kq.below (S := fun k => k < w.heap.size) hB3 (fun _ h => h)) (fun _ h => h)) (Below.refl _ _) (at_cells hf3 rfl) (at_cells hf3 rfl) (at_cells hf3 rfl) (at_cells hf3 rfl) (at_cells hf3 rfl) (fun k hk => (hSi k).2 (.inl hk)) ((hSi _).2 (.inr rfl)) hSw (by omega))
  have hDL := defL_bd np Y.flatten
  have hfin : Kp (hmL np Y.flatten = List.replicate np (-1, -1) ++ (defL np Y.flatten).map fun x => ((x.2.1 : Int), (x.2.2 : Int))) := ⟨rfl⟩
  generalize defL np Y.flatten = L at *
  have hI0 : HoI w W3 W2.heap.size (List.replicate np (-1, -1) ++ (L.take 0).map fun x => ((x.2.1 : Int), (x.2.2 : Int))) (fun b => b = W2.heap.size ∨ b = w.heap.size + 2) W3 (.slice (some ⟨w.heap.size + 2, 0, none⟩) np np) := by
    rw [List.take_zero, List.map_nil, List.append_nil]
    exact ⟨hbx3, hrow3, by simp [Value.ownBlock]; omega, by simp [Value.ownBlock]; omega, fun b => by simp [Value.ownBlock]; omega, hB3⟩
  replace hI0 := Kp.mk hI0
  replace hbx3 := Kp.mk hbx3
  replace hf3 := Kp.mk hf3
  replace hg3 := Kp.mk hg3
  replace hY := Kp.mk hY
  gi_wp2
  rw [← hce.out, ← hW3.out]
  clear x0 x1 x2 x3 x4 hx2 hrow3
  refine wpIn_rangeF rfl (by decide) (gf := 81) (lb := #[.pointer (some ⟨W2.heap.size + 1, 0, none⟩)]) rfl trivial (enters_of Try.func81 (by kernel_rfl) rfl)
    hseq.out (Below.refl _ _) hSw (fun _ => rfl)
    (fun k T X => ∃ v, HoI w W3 W2.heap.size (List.replicate np (-1, -1) ++ (L.take k).map fun x => ((x.2.1 : Int), (x.2.2 : Int))) T X v) (fun _ _ _ _ => False) (hoi_ab w W3 W2.heap.size (fun k => List.replicate np (-1, -1) ++ (L.take k).map fun x => ((x.2.1 : Int), (x.2.2 : Int))) (by omega)) (fun c => ⟨fun _ _ _ _ h _ _ => h.elim, fun _ _ _ h => h.elim⟩) (fun b => b = W2.heap.size ∨ b = w.heap.size + 2) ⟨_, hI0.out⟩
    (fun x a' X => ∃ B1, X.heap[B1]? = some (Go.Obj.cells #[.int .i64 x.2.1, .int .i64 x.2.2] 82 (0, 0)) ∧ ∃ u14 u15,
      a' = { tmps := #[.agg #[.string name, .int .i64 link, .slice a1 np c1, .int .i64 res, .slice a2 n2 c2], .pointer (some ⟨w.heap.size, 0, none⟩), .slice none 0 0, .pointer (some ⟨W2.heap.size, 0, none⟩), undef, .pointer (some ⟨B1, 0, none⟩), .agg #[.int .i64 (-1), .int .i64 (-1)], .slice (some ⟨w.heap.size + 1, 0, none⟩) 1 1,
        .pointer (some ⟨w.heap.size, 2, none⟩), .slice a1 np c1, .int .i64 np, .slice (some ⟨w.heap.size + 2, 0, none⟩) np np, .agg #[.string name, .int .i64 link, .slice a1 np c1, .int .i64 res, .slice a2 n2 c2], .func (.func 81) #[] #[.pointer (some ⟨W2.heap.size + 1, 0, none⟩)], u14, u15, undef, undef, undef, undef, undef], defers := [] }) ?hAx ?assign ?body ?done ?stop
  case hAx =>
    rintro x a' u A E row ⟨B1, p1, p3⟩ hg hr
    refine ⟨B1, (hg.block B1 (Array.getElem?_eq_some_iff.1 p1).1 (fun e => ?_)).trans p1, p3⟩
    obtain ⟨-, o, ho, hc⟩ := hr B1 e.symm
    rw [p1] at ho
    cases ho
    cases hc
  case assign =>
    intro lr k hk X K hX hK
    generalize L[k] = y at *
    obtain ⟨yn, yb, yi⟩ := y
    simp only [dfE, List.zip_toArray, List.zip_cons_cons, List.zip_nil_right, List.foldl_toArray', List.foldl_cons, List.foldl_nil, List.setIfInBounds_toArray, List.set_cons_succ, List.set_cons_zero, Array.zip, List.toList_toArray]
    gi_wp2
    exact hK _ _ (bel_alloc _ _) ⟨X.heap.size, new_cells _ _, _, _, rfl⟩
  case body =>
    rintro lr k hk a' T X hX ⟨v, hv⟩ ⟨B1, p1, u14, u15, rfl⟩
    have hml : (List.replicate np ((-1 : Int), (-1 : Int)) ++ (L.take k).map fun x => ((x.2.1 : Int), (x.2.2 : Int))).length ≤ 2097152 := by
      rw [List.length_append, List.length_replicate, List.length_map, List.length_take]
      omega
    have hstep : Kp ((List.replicate np ((-1 : Int), (-1 : Int)) ++ (L.take (k + 1)).map fun x => ((x.2.1 : Int), (x.2.2 : Int))) = (List.replicate np ((-1 : Int), (-1 : Int)) ++ (L.take k).map fun x => ((x.2.1 : Int), (x.2.2 : Int))) ++ [((L[k].2.1 : Int), (L[k].2.2 : Int))]) := ⟨by
      rw [List.take_succ_eq_append_getElem hk, List.map_append, ← List.append_assoc]; rfl⟩
    generalize L[k] = y at *
    obtain ⟨yn, yb, yi⟩ := y
    dsimp only at p1 hstep
    have c0 := at_cells p1 (j := 0) rfl
    have c1 := at_cells p1 (j := 1) rfl
    generalize (List.replicate np ((-1 : Int), (-1 : Int)) ++ (L.take k).map fun x => ((x.2.1 : Int), (x.2.2 : Int))) = M at *
    replace p1 := Kp.mk p1
    obtain ⟨hrl, hrr⟩ := hv.row.r
    have hshape : ∃ av cv, v = .slice av M.length cv := by
      rcases hrr with ⟨rfl, h0⟩ | ⟨g, cap, cur, rfl, -⟩
      · exact ⟨none, 0, by rw [h0]⟩
      · exact ⟨_, _, rfl⟩
    obtain ⟨av, cv, rfl⟩ := hshape
    have hc := hv.box.cell
    have hf := hv.box.frozen
    obtain ⟨gg, cap, w2, hrun, hown, hgrow, hat, hlt⟩ := run_append_lies (P := Try.prog) (X.alloc (Go.Obj.cells #[.int .i64 yb, .int .i64 yi] 82)) 76 76 w.heap.size 82 i0 _ 2 16 Try.underlying76 hi0 hz0 hz1 hz2 rfl (by omega) _ _ _ (hv.row.r.alloc _) ⟨X.heap.size, 0, none⟩ 1 1 [.int .i64 yb, .int .i64 yi] rfl (World.news_of_block (cs := #[.int .i64 yb, .int .i64 yi]) (t := 82) (fr := (0, 0)) (new_cells _ _)) (by simp [Value.oneCell']) (by omega) (by unfold maxLen; omega) (by omega) (by simp; omega) (X.heap.size + 1) (by simp)
    obtain ⟨hb2, T', hg', hk', hor⟩ := hv.put hX (by omega) (by omega) (y := ((yb : Int), (yi : Int))) hgrow hown hat S (fun k hk => ⟨hSw k hk, by rcases (hSi k).1 hk with q | q <;> omega⟩) (fun k hk e => by
      rcases (hSi k).1 hk with q | q
      · have := (hv.row.r.lt k e.symm).1; omega
      · exact hv.ne2 (by rw [← e, q]))
    have hc2 := hb2.cell
    have hf2 := hb2.frozen
    rw [← hstep.out] at hor
    replace hor := Kp.mk hor
    replace hv := Kp.mk hv
    replace hb2 := Kp.mk hb2
    replace hrun := Kp.mk hrun
    replace hseq := Kp.mk hseq
    clear hown hgrow hat hrl hrr hstep
    gi_wp2_with (gi_at_builtin; refine wpListIn_append_run2 _ rfl (.tmp 16) (.tmp 18) 76 rfl hrun.out ?_)
    exact ⟨T', hg', hk', _, hor.out⟩
  case done =>
    rintro D T X hD ⟨v, hv⟩ hK hT
    rw [List.take_length, ← hfin.out] at hv
    have hc := hv.box.cell
    have hDz := (Array.getElem?_eq_some_iff.1 hK).1
    replace hv := Kp.mk hv
    have hshape : ∃ av nv cv, v = .slice av nv cv := by
      rcases hv.out.row.r.2 with ⟨rfl, h0⟩ | ⟨g, cap, cur, rfl, -⟩
      · exact ⟨none, 0, 0, rfl⟩
      · exact ⟨_, _, _, rfl⟩
    obtain ⟨av, nv, cv, rfl⟩ := hshape
    gi_wp2
    refine ⟨by simp, .inl ⟨_, _, rfl, run_takeDeferred hK, ?_⟩⟩
    refine ⟨_, results_tmp rfl _ _ _, _, rfl, ⟨row_kept' hv.out.row.r (fun g hg => World.putObj_heap_other (fun e => ?_))⟩, hv.out.bel.grown (grownBy_putObj' X D _) hv.out.bel.size (fun k hk => by cases hk; omega)⟩
    exact hT ((hv.out.t D).2 (.inr (Eq.trans hg (by rw [e]))))
  case stop =>
    rintro D c k T X _ _ h _ _
    exact h.elim
end Go.Proofs.Ytbfpfjkjeekbdaa
