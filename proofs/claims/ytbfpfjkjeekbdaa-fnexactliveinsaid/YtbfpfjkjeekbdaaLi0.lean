/- Values that are live where a block begins: the mathematics alone. -/
import Derived.Test.YtbfpfjkjeekbdaaDe0
import Derived.Test.YtbfpfjkjeekbdaaNb3
import Derived.BigRegion
import Derived.Deep.DeepFit
namespace Go.Proofs.Ytbfpfjkjeekbdaa
set_option linter.unusedVariables false
/-- Where an argument counts as used: block -1 if nowhere. -/
def useAt (bls : List (List InD)) (b i : Nat) (d : InD) (n : Nat) : Int × Int :=
  if d.op = 20 then
    match d.bl[n]? with
    | some t => if (b : Int) ∈ nextL bls t then (t, ((bls.getD t.toNat []).length : Int)) else (-1, -1)
    | none => (-1, -1)
  else (b, i)
/-- An operand is a value. -/
def opU (o : OpD) (v : Nat) : Bool := (o.k == 4) && (o.i == (v : Int))
/-- An argument of a phi that belongs to a block is a value. -/
def phU (b : Nat) (d : InD) (j v : Nat) : Bool := (d.op == 20) && ((d.bl[j]? == some (b : Int)) && (match d.args[j]? with | some o => opU o v | none => false))
/-- Where the values are defined: by value, and by place. -/
structure Hms (bls : List (List InD)) (cnt : Nat) (hm : Nat → Int × Int) (res : Nat → Nat → Int) : Prop where
  def_ : ∀ v, v < cnt → ∀ b k, b < bls.length → k < (bls.getD b []).length → (res b k = (v : Int) ↔ hm v = ((b : Int), (k : Int)))
  at_ : ∀ v, v < cnt → (hm v).1 = -1 ∨ ∃ b k : Nat, b < bls.length ∧ k < (bls.getD b []).length ∧ hm v = ((b : Int), (k : Int))
inductive Live (bls : List (List InD)) (res : Nat → Nat → Int) (v : Nat) : Nat → Prop
  | use (b k : Nat) (hb : b < bls.length) (d : InD) (hk : (bls.getD b [])[k]? = some d) (hop : d.op ≠ 20) (hu : ∃ o, o ∈ d.args ∧ opU o v = true) (hd : ∀ j, j < k → res b j ≠ (v : Int)) : Live bls res v b
  | edge (b t : Nat) (hb : b < bls.length) (ht : (t : Int) ∈ nextL bls b) (hd : ∀ j, j < (bls.getD b []).length → res b j ≠ (v : Int)) (d : InD) (hm : d ∈ bls.getD t []) (j : Nat) (hp : phU b d j v = true) : Live bls res v b
  | step (b t : Nat) (hb : b < bls.length) (ht : (t : Int) ∈ nextL bls b) (hd : ∀ j, j < (bls.getD b []).length → res b j ≠ (v : Int)) (h : Live bls res v t) : Live bls res v b
/-- A use that is come to from a block, with no definition ahead. -/
structure Seen (bls : List (List InD)) (hm : Int × Int) (root : Nat) (u : Int × Int) : Prop where
  way : Way (EB (nextL bls)) (fun _ => True) (root : Int) u.1
  same : hm.1 = u.1 → ¬ hm.2 < u.2
  past : hm.1 ≠ u.1 → Way (EB (nextL bls)) (fun z => z ≠ hm.1) (root : Int) u.1
/-- A value is an argument somewhere. -/
structure Used (bls : List (List InD)) (v : Nat) (u : Int × Int) : Prop where
  ex : ∃ (b i : Nat) (d : InD) (n : Nat) (o : OpD), b < bls.length ∧ (bls.getD b [])[i]? = some d ∧ d.args[n]? = some o ∧ opU o v = true ∧ u = useAt bls b i d n ∧ 0 ≤ u.1
theorem phU_iff {b : Nat} {d : InD} {j v : Nat} : phU b d j v = true ↔ d.op = 20 ∧ d.bl[j]? = some (b : Int) ∧ ∃ o, d.args[j]? = some o ∧ opU o v = true := by
  unfold phU
  simp only [Bool.and_eq_true, beq_iff_eq]
  refine and_congr_right fun _ => and_congr_right fun _ => ?_
  cases d.args[j]? <;> simp
theorem mem_at {bls : List (List InD)} {t : Nat} {d : InD} (h : d ∈ bls.getD t []) : t < bls.length ∧ ∃ i : Nat, (bls.getD t [])[i]? = some d := by
  obtain ⟨i, hi⟩ := List.mem_iff_getElem?.1 h
  refine ⟨?_, i, hi⟩
  by_cases q : t < bls.length
  · exact q
  · rw [List.getD_eq_getElem?_getD, List.getElem?_eq_none (by omega)] at h
    simp at h
theorem nextL_nat {bls : List (List InD)} {b : Int} {t : Int} (h : t ∈ nextL bls b) : ∃ k : Nat, t = k ∧ k < bls.length := by
  have := nextL_bd h
  exact ⟨t.toNat, by omega, by omega⟩
theorem nextL_from {bls : List (List InD)} {b t : Int} (h : t ∈ nextL bls b) : ∃ k : Nat, b = k ∧ k < bls.length := by
  by_cases q : 0 ≤ b ∧ b < bls.length
  · exact ⟨b.toNat, by omega, by omega⟩
  · unfold nextL at h
    rw [lastBl_out q, nxF_mem] at h
    simp at h
section
variable {bls : List (List InD)} {cnt : Nat} {hm : Nat → Int × Int} {res : Nat → Nat → Int} {v : Nat}
theorem Live.seen (H : Hms bls cnt hm res) (hv : v < cnt) {root : Nat} (h : Live bls res v root) : ∃ u, Used bls v u ∧ Seen bls (hm v) root u := by
  have nodef : ∀ b : Nat, b < bls.length → (∀ j, j < (bls.getD b []).length → res b j ≠ (v : Int)) → (b : Int) ≠ (hm v).1 := fun b hb hd e => by
    rcases H.at_ v hv with q | ⟨b', k, h1, h2, h3⟩
    · omega
    · rw [h3] at e
      obtain rfl : b = b' := by simp at e; omega
      exact hd k h2 ((H.def_ v hv b k h1 h2).2 h3)
  induction h with
  | use b k hb d hk hop hu hd =>
    obtain ⟨o, ho, hov⟩ := hu
    obtain ⟨n, hn⟩ := List.mem_iff_getElem?.1 ho
    refine ⟨((b : Int), (k : Int)), ⟨b, k, d, n, o, hb, hk, hn, hov, by simp [useAt, hop], by simp⟩, .nil _ trivial, fun e hlt => ?_, fun e => .nil _ (Ne.symm e)⟩
    dsimp only at e hlt
    rcases H.at_ v hv with q | ⟨b', k', h1, h2, h3⟩
    · omega
    · rw [h3] at e hlt
      obtain rfl : b' = b := by simp at e; omega
      exact hd k' (by simp at hlt; omega) ((H.def_ v hv b' k' h1 h2).2 h3)
  | edge b t hb ht hd d hmem j hp =>
    obtain ⟨p1, p2, o, p3, p4⟩ := phU_iff.1 hp
    obtain ⟨t1, i, hi⟩ := mem_at hmem
    refine ⟨((b : Int), ((bls.getD b []).length : Int)), ⟨t, i, d, j, o, t1, hi, p3, p4, by simp [useAt, p1, p2, ht], by simp⟩, .nil _ trivial, fun e => ?_, fun e => .nil _ (Ne.symm e)⟩
    exact absurd e.symm (nodef b hb hd)
  | step b t hb ht hd _ ih =>
    obtain ⟨u, h1, h2, h3, h4⟩ := ih
    exact ⟨u, h1, .cons _ _ _ trivial ht h2, h3, fun e => .cons _ _ _ (nodef b hb hd) ht (h4 e)⟩
theorem Live.back (H : Hms bls cnt hm res) (hv : v < cnt) {S : Int → Prop} {x y : Int} (hw : Way (EB (nextL bls)) S x y) (hS : ∀ z, S z → z = y ∨ z ≠ (hm v).1) : ∀ a b : Nat, x = a → y = b → Live bls res v b → Live bls res v a := by
  have nodef : ∀ b : Nat, b < bls.length → (b : Int) ≠ (hm v).1 → ∀ j, j < (bls.getD b []).length → res b j ≠ (v : Int) := fun b hb hd j hj e => by
    have := (H.def_ v hv b j hb hj).1 e
    rw [this] at hd
    exact hd rfl
  induction hw with
  | nil x _ => intro a b ha hb h; obtain rfl : a = b := by omega
               exact h
  | cons x z y hs he _ ih =>
    intro a b ha hb h
    by_cases q : x = y
    · obtain rfl : a = b := by omega
      exact h
    · obtain ⟨c, rfl, hc⟩ := nextL_nat he
      obtain ⟨a', e, ha'⟩ := nextL_from he
      have hL := ih hS c b rfl hb h
      subst ha
      obtain rfl : a = a' := by omega
      exact .step a c ha' he (nodef a ha' ((hS _ hs).resolve_left q)) hL
theorem Live.of_seen (H : Hms bls cnt hm res) (hv : v < cnt) {root : Nat} {u : Int × Int} (h1 : Used bls v u) (h2 : Seen bls (hm v) root u) : Live bls res v root := by
  obtain ⟨b, i, d, n, o, hb, hi, hn, ho, rfl, h0⟩ := h1.ex
  obtain ⟨w1, w2, w3⟩ := h2
  by_cases hop : d.op = 20
  · have e : useAt bls b i d n = (match d.bl[n]? with | some t => if (b : Int) ∈ nextL bls t then (t, ((bls.getD t.toNat []).length : Int)) else (-1, -1) | none => (-1, -1)) := if_pos hop
    rw [e] at w1 w2 w3 h0
    cases hbl : d.bl[n]? with
    | none => simp [hbl] at h0
    | some t =>
      simp only [hbl] at w1 w2 w3 h0
      by_cases hnx : (b : Int) ∈ nextL bls t
      · simp only [hnx, if_true] at w1 w2 w3 h0
        obtain ⟨t', rfl, ht⟩ := nextL_from hnx
        rw [Int.toNat_natCast] at w2
        have hne : (hm v).1 ≠ (t' : Int) := fun e => by
          refine w2 e ?_
          rcases H.at_ v hv with q | ⟨b', k, h1, h2, h3⟩
          · omega
          · rw [h3] at e ⊢
            obtain rfl : b' = t' := by simp at e; omega
            exact Int.ofNat_lt.2 h2
        refine Live.back H hv (w3 hne) (fun z hz => .inr hz) root t' rfl rfl (.edge t' b ht hnx (fun j hj e => ?_) d (List.mem_iff_getElem?.2 ⟨i, hi⟩) n (phU_iff.2 ⟨hop, hbl, o, hn, ho⟩))
        have := (H.def_ v hv t' j ht hj).1 e
        rw [this] at hne
        exact hne rfl
      · simp [hnx] at h0
  · have e : useAt bls b i d n = ((b : Int), (i : Int)) := if_neg hop
    rw [e] at w1 w2 w3 h0
    have hlen := (List.getElem?_eq_some_iff.1 hi).1
    have hL : Live bls res v b := .use b i hb d hi hop ⟨o, List.mem_iff_getElem?.2 ⟨n, hn⟩, ho⟩ (fun j hj e => by
      have := (H.def_ v hv b j hb (by omega)).1 e
      rw [this] at w2
      exact w2 rfl (by simp; omega))
    by_cases q : (hm v).1 = (b : Int)
    · exact Live.back H hv w1 (fun z _ => by rw [q]; exact Classical.em _) root b rfl rfl hL
    · exact Live.back H hv (w3 q) (fun z hz => .inr hz) root b rfl rfl hL
theorem live_iff (H : Hms bls cnt hm res) (hv : v < cnt) {root : Nat} : Live bls res v root ↔ ∃ u, Used bls v u ∧ Seen bls (hm v) root u :=
  ⟨fun h => h.seen H hv, fun ⟨_, h1, h2⟩ => .of_seen H hv h1 h2⟩
end
/-- What is live where a block begins, out of a table for those behind it. -/
def Tf (bls : List (List InD)) (res : Nat → Nat → Int) (L : Nat → Nat → Prop) (b v : Nat) : Prop :=
  (∃ k d, (bls.getD b [])[k]? = some d ∧ d.op ≠ 20 ∧ (∃ o, o ∈ d.args ∧ opU o v = true) ∧ ∀ j, j < k → res b j ≠ (v : Int)) ∨
    ((∀ j, j < (bls.getD b []).length → res b j ≠ (v : Int)) ∧ ∃ t : Nat, (t : Int) ∈ nextL bls b ∧ (L t v ∨ ∃ d, d ∈ bls.getD t [] ∧ ∃ j, phU b d j v = true))
theorem Tf.live {bls : List (List InD)} {res : Nat → Nat → Int} {L : Nat → Nat → Prop} {b v : Nat} (hb : b < bls.length) (h : Tf bls res L b v) (hL : ∀ t, t < bls.length → L t v → Live bls res v t) : Live bls res v b := by
  rcases h with ⟨k, d, h1, h2, h3, h4⟩ | ⟨h1, t, h2, h3 | ⟨d, h4, j, h5⟩⟩
  · exact .use b k hb d h1 h2 h3 h4
  · refine .step b t hb h2 h1 (hL t ?_ h3)
    obtain ⟨t', e, ht⟩ := nextL_nat h2
    omega
  · exact .edge b t hb h2 h1 d h4 j h5
theorem Tf.least {bls : List (List InD)} {res : Nat → Nat → Int} {L : Nat → Nat → Prop} {v : Nat} (hfix : ∀ b, b < bls.length → Tf bls res L b v → L b v) {b : Nat} (h : Live bls res v b) : L b v := by
  induction h with
  | use b k hb d hk hop hu hd => exact hfix b hb (.inl ⟨k, d, hk, hop, hu, hd⟩)
  | edge b t hb ht hd d hm j hp => exact hfix b hb (.inr ⟨hd, t, ht, .inr ⟨d, hm, j, hp⟩⟩)
  | step b t hb ht hd _ ih => exact hfix b hb (.inr ⟨hd, t, ht, .inl ih⟩)
theorem Tf.mono {bls : List (List InD)} {res : Nat → Nat → Int} {L M : Nat → Nat → Prop} {b v : Nat} (h : Tf bls res L b v) (hLM : ∀ t, t < bls.length → L t v → M t v) : Tf bls res M b v := by
  rcases h with h | ⟨h1, t, h2, h3 | h3⟩
  · exact .inl h
  · obtain ⟨t', e, ht⟩ := nextL_nat h2
    exact .inr ⟨h1, t, h2, .inl (hLM t (by omega) h3)⟩
  · exact .inr ⟨h1, t, h2, .inr h3⟩
end Go.Proofs.Ytbfpfjkjeekbdaa
namespace Go.Proofs.Ytbfpfjkjeekbdaa
open Go.ChangeShapes Go.WideShapes Go.ChangeAt Go.RowKit
set_option linter.unusedVariables false
set_option linter.unusedSimpArgs false
theorem nanS (x : Int) (w : World) : Calls Try.prog 103 #[.int .i64 x] w fun e w' => e = .returned (.bool false) ∧ w' = w := by
  go_enter Try.func103, Try.ntmps103
  go_wp2_with fail
  go_ret
  simp
theorem nanC (x : Int) (w : World) : Calls Try.prog 114 #[.int .i64 x] w fun e w' => e = .returned (.bool false) ∧ w' = w := by
  go_enter Try.func114, Try.ntmps114
  go_wp2_with fail
  go_ret
  simp
theorem lessC (x y : Int) (w : World) : Calls Try.prog 96 #[.int .i64 x, .int .i64 y] w fun e w' => e = .returned (.bool (decide (x < y))) ∧ w' = w := by
  have C := Kp.mk (nanC x w)
  go_enter Try.func96, Try.ntmps96
  go_wp2_with fail
  refine C.out.mono ?_
  rintro e w2 ⟨rfl, rfl⟩
  go_wp2_with fail
  go_ret
  simp
set_option maxRecDepth 100000 in
set_option maxHeartbeats 4000000 in
theorem binS (vs : Value) (xs : List Int) (t : Int) (w : World) {lo : Nat} (h : Ints lo .i64 w vs xs) (hn : xs.length ≤ 1048576) (hs : xs.Pairwise (· < ·)) :
    Calls Try.prog 83 #[vs, .int .i64 t] w fun e w' => ∃ i : Int, e = .returned (.tuple #[.int .i64 i, .bool (decide (t ∈ xs))]) ∧ w' = w := by
  obtain ⟨b, o, ⟨⟨a, cap, rfl, h1, h2⟩, h3⟩, -, hc⟩ := h.ex
  replace h2 := Kp.mk h2
  replace hc := Kp.mk hc
  have CL := Kp.mk (fun x => lessC x t w)
  have CN := Kp.mk (fun x => nanS x w)
  have hlt : Kp (∀ i j (hi : i < xs.length) (hj : j < xs.length), i < j → xs[i] < xs[j]) := ⟨fun i j hi hj hij => List.pairwise_iff_getElem.1 hs i j hi hj hij⟩
  have hend : Kp (∀ k, k ≤ xs.length → (∀ i (hi : i < xs.length), i < k → xs[i] < t) → (∀ i (hi : i < xs.length), k ≤ i → t ≤ xs[i]) → (t ∈ xs ↔ ∃ hk : k < xs.length, xs[k] = t)) := ⟨fun k hk h1 h2 => by
    constructor
    · intro hm
      obtain ⟨i, hi, e⟩ := List.mem_iff_getElem.1 hm
      have a1 : ¬ i < k := fun q => by have := h1 i hi q; omega
      by_cases q : i = k
      · subst q; exact ⟨hi, e⟩
      · have := hlt.out k i (by omega) hi (by omega)
        have := h2 k (by omega) (Nat.le_refl _)
        omega
    · rintro ⟨hk, e⟩
      exact List.mem_iff_getElem.2 ⟨k, hk, e⟩⟩
  obtain ⟨R, hR⟩ : ∃ R, Kp (decide (t ∈ xs) = R) := ⟨_, ⟨rfl⟩⟩
  rw [hR.out]
  clear h hs
  go_enter Try.func83, Try.ntmps83
  go_wp2_with fail
  go_loopw [7, 8] (fun s u wr => ∃ i j : Nat, i ≤ j ∧ j ≤ xs.length ∧ s = .int .i64 i ∧ u = .int .i64 j ∧ Kp (∀ q (hq : q < xs.length), q < i → xs[q] < t) ∧ Kp (∀ q (hq : q < xs.length), j ≤ q → t ≤ xs[q]) ∧ wr = w) (fun s u _ => (intOf u).toNat - (intOf s).toNat)
  case atStart => exact ⟨0, xs.length, Nat.zero_le _, Nat.le_refl _, rfl, rfl, ⟨fun q hq h => by omega⟩, ⟨fun q hq h => by omega⟩, rfl⟩
  case round =>
    obtain ⟨i, j, hij, hjn, rfl, rfl, hA, hB, rfl⟩ := hrel
    by_cases hlt2 : i < j
    · obtain ⟨m, hm⟩ : ∃ m : Nat, Kp (((i : Int) + j) / 2 = (m : Int)) := ⟨(i + j) / 2, ⟨by omega⟩⟩
      have hm1 : i ≤ m := by have := hm.out; omega
      have hm2 : m < j := by have := hm.out; omega
      obtain rfl := h2.out (by omega)
      have c0 := hc.out m (by omega)
      have C := Kp.mk (CL.out (xs[m]'(by omega)))
      go_upto_region 5 with fail
      rw [hm.out]
      by_cases hx : xs[m]'(by omega) < t
      · rw [decide_eq_true hx] at C
        have hA2 : Kp (∀ q (hq : q < xs.length), q < m + 1 → xs[q] < t) := ⟨fun q hq h => by
          by_cases e : q = m
          · subst e; exact hx
          · have := hlt.out q m hq (by omega) (by omega); omega⟩
        clear hx hm
        generalize xs[m]'(by omega) = x at *
        go_wp2_with fail
        refine C.out.mono ?_
        rintro e w2 ⟨rfl, rfl⟩
        clear C c0
        go_wp2_with fail
        exact ⟨⟨m + 1, j, by omega, hjn, by go_num, rfl, hA2, hB, trivial⟩, by simp [intOf]; omega⟩
      · rw [decide_eq_false hx] at C
        have hB2 : Kp (∀ q (hq : q < xs.length), m ≤ q → t ≤ xs[q]) := ⟨fun q hq h => by
          by_cases e : q = m
          · subst e; omega
          · have := hlt.out m q (by omega) hq (by omega); omega⟩
        clear hx hm
        generalize xs[m]'(by omega) = x at *
        go_wp2_with fail
        refine C.out.mono ?_
        rintro e w2 ⟨rfl, rfl⟩
        clear C c0
        go_wp2_with fail
        exact ⟨⟨i, m, hm1, by omega, rfl, rfl, hA, hB2, trivial⟩, by simp [intOf]; omega⟩
    · obtain rfl : i = j := by omega
      have he := Kp.mk (hend.out i hjn hA.out hB.out)
      clear hend hA hB
      by_cases hi : i < xs.length
      · obtain rfl := h2.out (by omega)
        have c0 := hc.out i hi
        by_cases hx : xs[i] = t
        · have hd : Kp (R = true) := Kp.mk <| hR.out.symm.trans <| decide_eq_true (he.out.2 ⟨hi, hx⟩)
          have hq : (xs[i] == t) = true := by simp [hx]
          clear he hx
          generalize xs[i] = x at *
          go_wp2_with fail
          go_ret2
          obtain rfl := hd.out
          first | exact ⟨_, rfl⟩ | exact ⟨⟨_, rfl⟩, rfl⟩ | exact ⟨_, rfl, rfl⟩
        · have hd : Kp (R = false) := Kp.mk <| hR.out.symm.trans <| decide_eq_false (fun q => by obtain ⟨_, e⟩ := he.out.1 q; exact hx e)
          have hq : (xs[i] == t) = false := by simp [hx]
          have C := Kp.mk (CN.out xs[i])
          clear he hx
          generalize xs[i] = x at *
          go_wp2_with fail
          refine C.out.mono ?_
          rintro e w2 ⟨rfl, rfl⟩
          clear C c0
          go_wp2_with fail
          go_ret2
          obtain rfl := hd.out
          first | exact ⟨_, rfl⟩ | exact ⟨⟨_, rfl⟩, rfl⟩ | exact ⟨_, rfl, rfl⟩
      · have hd : Kp (R = false) := Kp.mk <| hR.out.symm.trans <| decide_eq_false (fun q => by obtain ⟨h, e⟩ := he.out.1 q; exact hi h)
        clear he
        go_wp2_with fail
        go_ret2
        obtain rfl := hd.out
        first | exact ⟨_, rfl⟩ | exact ⟨⟨_, rfl⟩, rfl⟩ | exact ⟨_, rfl, rfl⟩
theorem nxF_nodup (n : Nat) (acc l : List Int) (h : acc.Nodup) : (nxF n acc l).Nodup := by
  induction l generalizing acc with
  | nil => exact h
  | cons x r ih =>
    unfold nxF
    split
    · rename_i q
      simp only [Bool.and_eq_true, Bool.not_eq_true', decide_eq_true_eq] at q
      refine ih _ (List.nodup_append.2 ⟨h, by simp, fun a ha b hb e => ?_⟩)
      simp at hb
      subst hb
      subst e
      have := q.2
      simp [ha] at this
    · exact ih _ h
theorem pushL_once (k : Int) (i : Nat) : ∀ (ts : List Int) (P : Nat → List Int), ts.Nodup → (∀ t ∈ ts, 0 ≤ t) → pushL k P ts i = P i ∨ pushL k P ts i = P i ++ [k]
  | [], P, _, _ => .inl rfl
  | t :: r, P, hd, h => by
    have ht := h t (by simp)
    obtain ⟨h1, h2⟩ := List.nodup_cons.1 hd
    show pushL k (pushT k P t) r i = _ ∨ pushL k (pushT k P t) r i = _
    by_cases e : i = t.toNat
    · have hni : (i : Int) ∉ r := by rw [e]; rwa [show ((t.toNat : Nat) : Int) = t by omega]
      have : pushL k (pushT k P t) r i = pushT k P t i := pushL_out k i r _ (fun q hq => h q (by simp [hq])) hni
      rw [this]
      unfold pushT
      rw [e, upd_same]
      exact .inr rfl
    · have := pushL_once k i r (pushT k P t) h2 (fun q hq => h q (by simp [hq]))
      unfold pushT at this ⊢
      rwa [upd_other _ _ _ _ e] at this
where
  pushL_out (k : Int) (i : Nat) : ∀ (ts : List Int) (P : Nat → List Int), (∀ t ∈ ts, 0 ≤ t) → (i : Int) ∉ ts → pushL k P ts i = P i
    | [], P, _, _ => rfl
    | t :: r, P, h, hi => by
      have ht := h t (by simp)
      show pushL k (pushT k P t) r i = _
      rw [pushL_out k i r _ (fun q hq => h q (by simp [hq])) (fun q => hi (by simp [q]))]
      unfold pushT
      rw [upd_other _ _ _ _ (fun e => hi (by rw [e]; simp; left; omega))]
theorem prevs_rise (bls : List (List InD)) (i : Nat) : ∀ b : Nat, (prevs bls b i).Pairwise (· < ·)
  | 0 => List.Pairwise.nil
  | b + 1 => by
    show (pushL b (prevs bls b) (nextL bls b) i).Pairwise _
    rcases pushL_once b i (nextL bls b) (prevs bls b) (nxF_nodup _ _ _ List.nodup_nil) (fun t ht => (nextL_bd ht).1) with q | q
    · rw [q]; exact prevs_rise bls i b
    · rw [q]
      refine List.pairwise_append.2 ⟨prevs_rise bls i b, by simp, fun x hx y hy => ?_⟩
      obtain ⟨j, rfl, hj, -⟩ := (prevs_mem bls i x b).1 hx
      simp at hy
      omega
end Go.Proofs.Ytbfpfjkjeekbdaa
