/- Loops: what a loop's blocks are, and how a search backwards finds them. -/
import Derived.Test.YtbfpfjkjeekbdaaDe0
import Derived.Test.YtbfpfjkjeekbdaaNb3
import Derived.Test.YtbfpfjkjeekbdaaNb4
import Derived.Test.YtbfpfjkjeekbdaaGi1
import Derived.Deep.DeepFit
import Derived.Maps.AppendAt
namespace Go.Proofs.Ytbfpfjkjeekbdaa
set_option linter.unusedVariables false
set_option linter.unusedSimpArgs false
/-- The blocks that go to h and that h dominates. -/
noncomputable def tlL (bls : List (List InD)) (h : Nat) : List Int := (prevs bls bls.length h).filter (fun p => dmB bls h p)
/-- From which such a block can be come to without going through h. -/
inductive Bk (bls : List (List InD)) (h : Nat) : Int → Prop
  | tail {b : Int} : b ∈ tlL bls h → dmB bls 0 b = true → b ≠ h → Bk bls h b
  | back {c b : Int} : Bk bls h c → b ∈ prevs bls bls.length c.toNat → dmB bls 0 b = true → b ≠ h → Bk bls h b
def InL (bls : List (List InD)) (h : Nat) (b : Int) : Prop := b = h ∨ Bk bls h b
noncomputable def inB (bls : List (List InD)) (h : Nat) (b : Int) : Bool := @decide (InL bls h b) (Classical.propDecidable _)
theorem inB_true {bls : List (List InD)} {h : Nat} {b : Int} : inB bls h b = true ↔ InL bls h b := by
  unfold inB
  exact @decide_eq_true_iff _ (Classical.propDecidable _)
/-- The loop's blocks, rising. -/
noncomputable def lpL (bls : List (List InD)) (h : Nat) : List Int := ((List.range bls.length).filter (fun i : Nat => inB bls h (i : Int))).map (fun i : Nat => (i : Int))
theorem Bk.ne {bls : List (List InD)} {h : Nat} {b : Int} (k : Bk bls h b) : b ≠ h := by
  cases k <;> assumption
theorem Bk.reach {bls : List (List InD)} {h : Nat} {b : Int} (k : Bk bls h b) : dmB bls 0 b = true := by
  cases k <;> assumption
theorem dm_bd {bls : List (List InD)} {a b : Int} (h : dmB bls a b = true) : 0 ≤ b ∧ b < bls.length := by
  by_cases q : 0 ≤ b ∧ b < bls.length
  · exact q
  · rw [dmB_out (.inr q)] at h; cases h
theorem lpL_mem {bls : List (List InD)} {h : Nat} (hh : h < bls.length) {x : Int} : x ∈ lpL bls h ↔ InL bls h x := by
  unfold lpL
  rw [List.mem_map]
  constructor
  · rintro ⟨i, hi, rfl⟩
    rw [List.mem_filter] at hi
    exact inB_true.1 hi.2
  · intro k
    have hb : 0 ≤ x ∧ x < bls.length := by
      rcases k with rfl | k
      · omega
      · exact dm_bd k.reach
    refine ⟨x.toNat, ?_, by omega⟩
    rw [List.mem_filter, List.mem_range]
    have e : ((x.toNat : Nat) : Int) = x := by omega
    exact ⟨by omega, by rw [e]; exact inB_true.2 k⟩
theorem lpL_rise (bls : List (List InD)) (h : Nat) : (lpL bls h).Pairwise (· < ·) := by
  unfold lpL
  rw [List.pairwise_map]
  refine List.Pairwise.filter _ ?_
  exact List.Pairwise.imp (fun h => by omega) (List.pairwise_lt_range (n := bls.length))
/-- The search: what it has found, what it has still to look at. -/
structure Wk (bls : List (List InD)) (h : Nat) (inn : Int → Bool) (mem : Int → Prop) : Prop where
  head : inn h = true
  sound : ∀ x, inn x = true → InL bls h x
  src : ∀ x, mem x → x ∈ tlL bls h ∨ ∃ c, Bk bls h c ∧ x ∈ prevs bls bls.length c.toNat
  all : ∀ x, (x ∈ tlL bls h ∨ ∃ c, inn c = true ∧ c ≠ h ∧ x ∈ prevs bls bls.length c.toNat) → inn x = true ∨ dmB bls 0 x = false ∨ mem x
section
variable {bls : List (List InD)} {h : Nat} {inn : Int → Bool} {mem mem' : Int → Prop}
theorem Wk.start : Wk bls h (fun x => x == (h : Int)) (fun x => x ∈ tlL bls h) :=
  ⟨by simp, fun x hx => .inl (by simpa using hx), fun x hx => .inl hx, fun x hx => by
    rcases hx with hx | ⟨c, h1, h2, -⟩
    · exact .inr (.inr hx)
    · exact absurd (by simpa using h1) h2⟩
theorem Wk.skip (k : Wk bls h inn mem) {b : Int} (hb : inn b = true ∨ dmB bls 0 b = false) (h1 : ∀ x, mem x → x = b ∨ mem' x) (h2 : ∀ x, mem' x → mem x) : Wk bls h inn mem' :=
  ⟨k.head, k.sound, fun x hx => k.src x (h2 x hx), fun x hx => by
    rcases k.all x hx with q | q | q
    · exact .inl q
    · exact .inr (.inl q)
    · rcases h1 x q with rfl | q
      · rcases hb with hb | hb
        · exact .inl hb
        · exact .inr (.inl hb)
      · exact .inr (.inr q)⟩
theorem Wk.take (k : Wk bls h inn mem) {b : Int} (hm : mem b) (hb : inn b = false) (hd : dmB bls 0 b = true) (h1 : ∀ x, mem x → x = b ∨ mem' x) (h2 : ∀ x ∈ prevs bls bls.length b.toNat, mem' x) (h3 : ∀ x, mem' x → mem x ∨ x ∈ prevs bls bls.length b.toNat) :
    Wk bls h (fun x => inn x || x == b) mem' := by
  have hne : b ≠ h := fun e => by rw [e, k.head] at hb; cases hb
  have hB : Bk bls h b := by
    rcases k.src b hm with q | ⟨c, q1, q2⟩
    · exact .tail q hd hne
    · exact .back q1 q2 hd hne
  refine ⟨by simp [k.head], fun x hx => ?_, fun x hx => ?_, fun x hx => ?_⟩
  · simp only [Bool.or_eq_true, beq_iff_eq] at hx
    rcases hx with hx | rfl
    · exact k.sound x hx
    · exact .inr hB
  · rcases h3 x hx with q | q
    · exact k.src x q
    · exact .inr ⟨b, hB, q⟩
  · have hold : (x ∈ tlL bls h ∨ ∃ c, inn c = true ∧ c ≠ h ∧ x ∈ prevs bls bls.length c.toNat) ∨ x ∈ prevs bls bls.length b.toNat := by
      rcases hx with q | ⟨c, q1, q2, q3⟩
      · exact .inl (.inl q)
      · simp only [Bool.or_eq_true, beq_iff_eq] at q1
        rcases q1 with q1 | rfl
        · exact .inl (.inr ⟨c, q1, q2, q3⟩)
        · exact .inr q3
    rcases hold with q | q
    · rcases k.all x q with q | q | q
      · exact .inl (by simp [q])
      · exact .inr (.inl q)
      · rcases h1 x q with rfl | q
        · exact .inl (by simp)
        · exact .inr (.inr q)
    · exact .inr (.inr (h2 x q))
theorem Wk.done (k : Wk bls h inn mem) (h0 : ∀ x, ¬ mem x) (x : Int) : inn x = true ↔ InL bls h x := by
  refine ⟨k.sound x, fun q => ?_⟩
  rcases q with rfl | q
  · exact k.head
  · induction q with
    | tail h1 h2 h3 =>
      rcases k.all _ (.inl h1) with q | q | q
      · exact q
      · rw [h2] at q; cases q
      · exact absurd q (h0 _)
    | back h1 h2 h3 h4 ih =>
      rcases k.all _ (.inr ⟨_, ih, h1.ne, h2⟩) with q | q | q
      · exact q
      · rw [h3] at q; cases q
      · exact absurd q (h0 _)
/-- What is left to be found, with all that goes there. -/
def pot (bls : List (List InD)) (inn : Int → Bool) : Nat → Nat
  | 0 => 0
  | n + 1 => pot bls inn n + if inn n then 0 else (prevs bls bls.length n).length + 1
theorem pot_same {bls : List (List InD)} {inn : Int → Bool} {b : Int} : ∀ n : Nat, (n : Int) ≤ b → pot bls (fun x => inn x || x == b) n = pot bls inn n
  | 0, _ => rfl
  | n + 1, h => by
    have e : ((n : Int) == b) = false := beq_false_of_ne (by omega)
    simp only [pot, e, Bool.or_false]
    rw [pot_same n (by omega)]
theorem pot_take {bls : List (List InD)} {inn : Int → Bool} {b : Int} (hb : inn b = false) (h0 : 0 ≤ b) : ∀ n : Nat, b < n → pot bls (fun x => inn x || x == b) n + ((prevs bls bls.length b.toNat).length + 1) = pot bls inn n
  | 0, h => by omega
  | n + 1, h => by
    by_cases e : (n : Int) = b
    · subst e
      have q := pot_same (bls := bls) (inn := inn) (b := (n : Int)) n (Int.le_refl _)
      simp only [pot, beq_self_eq_true, Bool.or_true, if_true, hb, Int.toNat_natCast]
      rw [q]
      simp
    · have e' : ((n : Int) == b) = false := beq_false_of_ne e
      have q := pot_take (bls := bls) hb h0 n (by omega)
      simp only [pot, e', Bool.or_false]
      omega
end
end Go.Proofs.Ytbfpfjkjeekbdaa
namespace Go.Proofs.Ytbfpfjkjeekbdaa
open Go.ChangeShapes Go.WideShapes Go.ChangeAt Go.RowKit
set_option linter.unusedVariables false
set_option linter.unusedSimpArgs false
/-- One number fewer. -/
theorem own_cut {w : World} {base : Nat} {a : Option Addr} {c : Nat} {ys : List Int} {x : Int} (h : w.ownsRow base 2 1 (.slice a (ys.length + 1) c) (ys.length + 1) ((ys ++ [x]).map (Value.int .i64))) :
    w.ownsRow base 2 1 (.slice a ys.length c) ys.length (ys.map (Value.int .i64)) := by
  refine ⟨by simp, ?_⟩
  rcases h.2 with ⟨-, e⟩ | ⟨g, cap, cur, hv, hb, hg, h1, h2, h3, h4⟩
  · omega
  · cases hv
    refine .inr ⟨g, c, cur, rfl, hb, hg, by omega, h2, h3, ?_⟩
    have e : cur.toList.take (ys.length * 1) = (cur.toList.take ((ys.length + 1) * 1)).take ys.length := by rw [List.take_take]; congr 1; omega
    rw [e, h4]
    simp
theorem own_map0 {w : World} {base n B m : Nat} {v : Value} {xs : List Value} {acc : List Int} (h : w.ownsRow base 2 1 v n xs) (hs : SetI w B m acc) : some B ≠ v.ownBlock := by
  obtain ⟨D, ⟨es, clock, h3, -⟩, -⟩ := hs.ex
  rcases h.2 with h0 | ⟨g, cap, cur, rfl, hb, hg, -⟩
  · rw [h0.1]; simp [Value.ownBlock]
  · intro q
    simp only [Value.ownBlock] at q
    cases q
    rw [hg] at h3
    cases h3
theorem grown_trans {a b c : World} {row row2 : Option Nat} (h : a.grownBy b row) (k : b.grownBy c row2) (hr : row2 = row ∨ ∀ g, row2 = some g → a.heap.size ≤ g) : a.grownBy c row :=
  ⟨k.os.trans h.os, k.tape.trans h.tape, k.output.trans h.output, Nat.le_trans h.size k.size, fun i hi hn => (k.block i (Nat.lt_of_lt_of_le hi h.size) (by
    rcases hr with rfl | hr
    · exact hn
    · intro e
      have := hr i e.symm
      omega)).trans (h.block i hi hn)⟩
theorem grown_bel {a b : World} (h : Below a.heap.size a b) (row : Option Nat) : a.grownBy b row := ⟨h.os, h.tape, h.output, h.size, fun i hi _ => h.block i hi⟩
theorem run_append_ints {lo : Nat} {P : Program} (w : World) (base : Nat) (t ty e : TypeId) (i : TypeInfo) (z : Value) (ht : P.underlying t = some (.slice e)) (hi : P.info? e = some i) (hz : i.zero = some z)
    (hsize : i.size = 1) (hby : i.bytes = 8) (hzs : z.cells.size = 1)
    (v : Value) (n : Nat) (xs : List Value) (hown : w.ownsRow base e 1 v n xs) (u : Value) (zs : List Int) (hu : Ints lo .i64 w u zs) (h63 : n + zs.length ≤ 16777216) (hbase : base ≤ w.heap.size) :
    ∃ v' w', (Builtin.append_ #[t, t] ty #[v, u]).run P w = .ok v' w' ∧ w'.ownsRow base e 1 v' (n + zs.length) (xs ++ zs.map (Value.int .i64)) ∧ w.grownBy w' v.ownBlock ∧ (v'.ownBlock = v.ownBlock ∨ v'.ownBlock = some w.heap.size) := by
  obtain ⟨b, o, ⟨⟨a, cap, rfl, h1, h2⟩, h3⟩, -, hc⟩ := hu.ex
  cases a with
  | none =>
    have h0 : zs.length = 0 := by
      rcases Nat.eq_zero_or_pos zs.length with q | q
      · exact q
      · cases h2 q
    obtain rfl : zs = [] := List.eq_nil_of_length_eq_zero h0
    exact ⟨v, w, run_append_none w base t ty e i 1 ht hi hsize v n xs hown cap, by simpa using hown, ⟨rfl, rfl, rfl, Nat.le_refl _, fun _ _ _ => rfl⟩, .inl rfl⟩
  | some ad =>
    obtain ⟨v', w', q1, q2, q3, -, q5⟩ := run_append_own_at w base t ty e i z 1 8 ht hi hz hsize hby hzs (by decide) v n xs hown ad zs.length cap (zs.map (Value.int .i64)) (by simp) (fun j u hj => by
      obtain ⟨hlt, rfl⟩ := List.getElem?_eq_some_iff.1 hj
      have hj' : j < zs.length := by simpa using hlt
      cases h2 (by omega)
      rw [Go.WideShapes.add_plain, List.getElem_map]
      exact hc j hj') (fun u hu => by obtain ⟨x, _, rfl⟩ := List.mem_map.1 hu; rfl) (by unfold maxLen; omega) (by omega) hbase
    exact ⟨v', w', q1, q2, q3, q5⟩
end Go.Proofs.Ytbfpfjkjeekbdaa
