/- slices.Backward of a row of whole numbers: what the iterator owes. -/
import Derived.Test.YtbfpfjkjeekbdaaWk2
import Derived.Test.YtbfpfjkjeekbdaaRn1
namespace Go.Proofs.Ytbfpfjkjeekbdaa
open Go.ChangeShapes Go.WideShapes Go.ChangeAt Go.RowKit
attribute [local go_sem] Oper.semAt_some
set_option linter.unusedVariables false
set_option linter.unusedSimpArgs false
/-- The places of a row from the last on. -/
def bkL (n : Nat) : List Nat := (List.range n).map (fun k => n - 1 - k)
theorem bkL_len (n : Nat) : (bkL n).length = n := by simp [bkL]
theorem bkL_at (n k : Nat) (h : k < (bkL n).length) : (bkL n)[k] = n - 1 - k := by simp [bkL]
abbrev bkE (xs : List Int) (i : Nat) : Array Value := #[.int .i64 (i : Int), .int .i64 (xs.getD i 0)]
theorem backC (v : Value) (hv : ∃ a n c, v = .slice a n c) (w : World) :
    Calls Try.prog 89 #[v] w fun e w' => e = .returned (.func (.func 108) #[] #[.pointer (some ⟨w.heap.size, 0, none⟩)]) ∧ w' = w.alloc (.cells #[v] 22) := by
  obtain ⟨a, n, c, rfl⟩ := hv
  go_enter Try.func89, Try.ntmps89
  go_wp2
  go_ret
  exact ⟨rfl, rfl⟩
set_option maxRecDepth 100000 in
set_option maxHeartbeats 4000000 in
theorem back_seq (n : Nat) (S : Nat → Prop) (w0 : World) (Bx : Nat) (v : Value) (xs : List Int) (hx : RestOk S w0 v xs) (hn : xs.length ≤ 1048576) (hb : At w0 Bx 0 v) (hSb : S Bx) (hSw : ∀ k, S k → k < w0.heap.size) :
    SeqF Fence.wide n Try.prog 108 #[.pointer (some ⟨Bx, 0, none⟩)] (bkE xs) S (bkL xs.length) w0 := by
  intro l J Jx W T0 hW hJ hJx hR h0
  obtain ⟨b, o, ⟨⟨a, c, rfl, s1, s2⟩, s3⟩, hSB, hc⟩ := hx.ex
  have hSl : ∀ m, S m → m < W.heap.size := fun m hm => by have := hSw m hm; have := hW.size; omega
  have XC : Kp (∀ W1 : World, (∀ m, S m → W1.heap[m]? = W.heap[m]?) → At W1 Bx 0 (.slice a xs.length c) ∧ ∀ i (h : i < xs.length), At W1 b (o + i) (.int .i64 xs[i])) := ⟨fun W1 hk =>
    ⟨at_same hb ((hk _ hSb).trans (hW.block _ (hSw _ hSb))), fun i hi => at_same (hc i hi) ((hk _ hSB).trans (hW.block _ (hSw _ hSB)))⟩⟩
  have b0 := (XC.out W (fun _ _ => rfl)).1
  have hT0 := hJ.lt 0 T0 W h0
  clear hc hb
  replace hR := Kp.mk hR
  replace s2 := Kp.mk s2
  obtain ⟨N, hN⟩ : ∃ N, Kp (xs.length = N) := ⟨_, ⟨rfl⟩⟩
  have hLn : (bkL xs.length).length = N := by rw [bkL_len]; exact hN.out
  have hLa : Kp (∀ k (h : k < (bkL xs.length).length), (bkL xs.length)[k] = N - 1 - k) := ⟨fun k h => by rw [bkL_at, hN.out]⟩
  rw [hLn]
  obtain ⟨L, hL⟩ : ∃ L, Kp (bkL xs.length = L) := ⟨_, ⟨rfl⟩⟩
  rw [hL.out] at hR hLa hLn
  have hX : Kp (∀ k (h : k < xs.length), xs.getD k 0 = xs[k]) := ⟨fun k h => by simp [h]⟩
  rw [hN.out] at b0 hn s1
  have hN' := hN.out
  replace hN := Kp.mk hN
  clear hL
  refine callsIn_wide.2 ((callsIn_wide (n := 9)).1 ?_)
  refine callsIn_of_wp Try.func108 rfl trivial ?_ rfl
  simp only [Try.ntmps108, List.size_toArray, List.length_cons, List.length_nil, Nat.reduceAdd, Nat.reduceSub, Array.replicate_succ, Array.replicate_zero, List.push_toArray, List.append_toArray, List.nil_append, List.cons_append]
  replace hN' := Kp.mk hN'
  gi_wp2
  gi_loopw [3] (fun s wr => ∃ (j : Nat) (T : Nat → Prop), j ≤ N ∧ s = .int .i64 ((N : Int) - 1 - j) ∧ J j T wr ∧ W.heap.size ≤ wr.heap.size ∧ ∀ m, S m → wr.heap[m]? = W.heap[m]?) (fun s _ => (intOf s + 1).toNat)
  case atStart => exact ⟨0, T0, Nat.zero_le _, by simp, h0, Nat.le_refl _, fun _ _ => rfl⟩
  case round =>
    clear h0 b0
    obtain ⟨j, T, hj, rfl, hJj, hsz, hS⟩ := hrel
    have hb := (XC.out wr hS).1
    rw [hN'.out] at hb
    by_cases hlt : j < N
    · obtain ⟨i, hi⟩ : ∃ i : Nat, (N : Int) - 1 - j = i := ⟨N - 1 - j, by omega⟩
      have hin : N - 1 - j = i := by omega
      rw [hi]
      have hil : i < xs.length := by rw [hN'.out]; omega
      have hcx := (XC.out wr hS).2 i hil
      have hR1 := hR.out j (by rw [hLn]; exact hlt) T wr hJj hsz
      rw [hLa.out, hin] at hR1
      obtain ⟨fn, tmps, assign, body, hy, hRR⟩ := yield_wide rfl 8 hR1
      dsimp only [bkE] at hy
      rw [hX.out i hil] at hy
      obtain rfl := s2.out (by omega)
      generalize xs[i] = x at *
      have hi0 : (0 : Int) ≤ (i : Int) := by omega
      have hi1 : (i : Int) < (N : Int) := by omega
      have hJW : ∀ m, S m → wr.heap[m]? = W.heap[m]? := hS
      replace hJW := Kp.mk hJW
      replace hJj := Kp.mk hJj
      clear hR1 hS
      gi_wp2
      refine hRR.mono ?_
      rintro e W3 ⟨T1, hg3, hk3, (⟨rfl, hJ3⟩ | ⟨rfl, hJ3⟩)⟩
      · have hk4 : ∀ m, S m → W3.heap[m]? = W.heap[m]? := fun m hm => (hk3.low m hm).trans (hJW.out m hm)
        have hs4 : W.heap.size ≤ W3.heap.size := Nat.le_trans hsz hk3.size
        clear hRR hy
        replace hk4 := Kp.mk hk4
        gi_wp2
        exact ⟨⟨j + 1, T1, by omega, by rw [show (N : Int) - 1 - ((j + 1 : Nat) : Int) = (i : Int) - 1 by omega], hJ3, hs4, hk4.out⟩, by simp [intOf]⟩
      · clear hRR hy
        gi_wp2
        refine bodyPost_ret (results_none rfl _ _ _) rfl ?_
        exact ⟨⟨_, rfl⟩, T1, .inr ⟨j, by omega, hJ3⟩⟩
    · obtain rfl : j = N := by omega
      have e1 : ((j : Int) - 1 - j) = -1 := by omega
      rw [e1]
      gi_wp2
      refine bodyPost_end (results_none rfl _ _ _) rfl ?_
      exact ⟨⟨_, rfl⟩, T, .inl hJj⟩
end Go.Proofs.Ytbfpfjkjeekbdaa
