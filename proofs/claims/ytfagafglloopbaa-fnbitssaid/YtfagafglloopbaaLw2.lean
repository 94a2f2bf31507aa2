/- The law of numbers put and got: what is put. -/
import Derived.Test.YtfagafglloopbaaBm1
import Derived.Test.YtfagafglloopbaaLw1
import Derived.Test.YtfagafglloopbaaBv2
import Derived.Laws.OwnMore
import Derived.Deep.DeepCutAuto
import Derived.BigRegion
import Derived.Deep.DeepFit
namespace Go.Proofs.Ytfagafglloopbaa
open Go.ChangeShapes Go.WideShapes Go.ChangeAt Go.RowKit
open Go.Sort (grow)
set_option linter.unusedVariables false
set_option linter.unusedSimpArgs false
theorem infoU : (Try.prog.info? 28).map (fun i => (i.zero, i.size, i.bytes)) = some (some (.int .u64 0), 1, 8) := by kernel_rfl
theorem infoI : (Try.prog.info? 2).map (fun i => (i.zero, i.size, i.bytes)) = some (some (.int .i64 0), 1, 8) := by kernel_rfl
theorem row_ne {w : World} {base B n : Nat} {e T : TypeId} {v : Value} {xs : List Value} {arr : Array Value} (h : w.ownsRow base e 1 v n xs) (hb : w.heap[B]? = some (Go.Obj.cells arr T (0, 0))) (hT : T ≠ e) : v.ownBlock ≠ some B := fun q => by
  rcases h.2 with ⟨rfl, _⟩ | ⟨g, cap, cur, rfl, _, hg, _⟩
  · cases q
  · simp only [Value.ownBlock, Option.some.injEq] at q
    subst q
    rw [hg] at hb
    injection hb with hb
    injection hb with h1 h2
    exact hT h2.symm
theorem row_row {w : World} {base base' n n' : Nat} {e e' : TypeId} {v v' : Value} {xs xs' : List Value} (h : w.ownsRow base e 1 v n xs) (h' : w.ownsRow base' e' 1 v' n' xs') (he : e ≠ e') : v.ownBlock = none ∨ v.ownBlock ≠ v'.ownBlock := by
  rcases h'.2 with ⟨rfl, _⟩ | ⟨g, cap, cur, rfl, _, hg, _⟩
  · cases hv : v.ownBlock with
    | none => exact .inl rfl
    | some k => exact .inr (by simp [Value.ownBlock])
  · exact .inr (row_ne h hg (Ne.symm he))
theorem row_same {w w' : World} {base n : Nat} {e : TypeId} {v : Value} {xs : List Value} (h : w.ownsRow base e 1 v n xs) (hk : ∀ g, v.ownBlock = some g → w'.heap[g]? = w.heap[g]?) : w'.ownsRow base e 1 v n xs := by
  refine ⟨h.1, ?_⟩
  rcases h.2 with q | ⟨g, cap, cur, rfl, hb, hg, r⟩
  · exact .inl q
  · exact .inr ⟨g, cap, cur, rfl, hb, (hk g rfl).trans hg, r⟩
theorem row_keep {w w' : World} {base n : Nat} {e : TypeId} {v : Value} {xs : List Value} (h : w.ownsRow base e 1 v n xs) (hb : Below w.heap.size w w') : w'.ownsRow base e 1 v n xs := row_same h (fun g hg => hb.block g (h.lt g hg).2)
theorem row_setOther {w : World} {base n B j : Nat} {e : TypeId} {v : Value} {xs : List Value} (h : w.ownsRow base e 1 v n xs) (hne : v.ownBlock ≠ some B) (u : Value) : (w.setCell ⟨B, j, none⟩ u).ownsRow base e 1 v n xs := row_same h (fun g hg => heap_set _ _ _ _ _ (fun q => hne (by rw [hg, q])))
theorem row_mono {w : World} {base base' n : Nat} {e : TypeId} {v : Value} {xs : List Value} (h : w.ownsRow base e 1 v n xs) (hb : base' ≤ base) : w.ownsRow base' e 1 v n xs :=
  ⟨h.1, h.2.elim Or.inl (fun ⟨g, cap, cur, hv, hg, r⟩ => Or.inr ⟨g, cap, cur, hv, by omega, r⟩)⟩
/-- The bits so far: in the block S, their bytes the law's own. -/
structure Box (W : World) (S : Nat) (w : World) (xs : List Int) (c : Nat) : Prop where
  ex : ∃ a k, w.heap[S]? = some (Go.Obj.cells #[.slice a xs.length k, .int .i64 c] 24 (0, 0)) ∧ OwnB w W.heap.size (.slice a xs.length k) xs
/-- The numbers so far, and how they were put. -/
structure Nums (W w : World) (vw vk : Value) (L : List (Int × Int)) : Prop where
  ws : w.ownsRow W.heap.size 28 1 vw L.length (L.map (fun x => Value.int .u64 x.1))
  ks : w.ownsRow W.heap.size 2 1 vk L.length (L.map (fun x => Value.int .i64 x.2))
theorem Box.keep {W w w' : World} {S c : Nat} {xs : List Int} (h : Box W S w xs c) (hb : Below w.heap.size w w') : Box W S w' xs c := by
  obtain ⟨a, k, h1, h2⟩ := h.ex
  exact ⟨a, k, keep_cells h1 hb, h2.keep hb⟩
theorem Nums.keep {W w w' : World} {vw vk : Value} {L : List (Int × Int)} (h : Nums W w vw vk L) (hb : Below w.heap.size w w') : Nums W w' vw vk L := ⟨row_keep h.ws hb, row_keep h.ks hb⟩
/-- New bits are stored in the box. -/
theorem Box.put {W w w' : World} {S c c' k' : Nat} {a' : Option Addr} {xs ys : List Int} {vw vk : Value} {L : List (Int × Int)} (h : Box W S w xs c) (hn : Nums W w vw vk L) (hb : Below w.heap.size w w') (hW : W.heap.size ≤ w.heap.size) (ho : OwnB w' w.heap.size (.slice a' ys.length k') ys) (hB : Below W.heap.size W w') (hS : W.heap.size ≤ S) :
    Box W S ((w'.setCell ⟨S, 0, none⟩ (.slice a' ys.length k')).setCell ⟨S, 1, none⟩ (.int .i64 c')) ys c' ∧ Nums W ((w'.setCell ⟨S, 0, none⟩ (.slice a' ys.length k')).setCell ⟨S, 1, none⟩ (.int .i64 c')) vw vk L ∧ Below W.heap.size W ((w'.setCell ⟨S, 0, none⟩ (.slice a' ys.length k')).setCell ⟨S, 1, none⟩ (.int .i64 c')) := by
  obtain ⟨a, k, h1, h2⟩ := h.ex
  have h1' := keep_cells h1 hb
  have hn' := hn.keep hb
  have n1 := u8_ne ho h1' (by decide)
  have n2 := row_ne hn'.ws h1' (by decide)
  have n3 := row_ne hn'.ks h1' (by decide)
  exact ⟨⟨_, _, set_cells (set_cells h1' 0 _) 1 _, ((ho.setOther n1 _).setOther n1 _).mono hW⟩, ⟨row_setOther (row_setOther hn'.ws n2 _) n2 _, row_setOther (row_setOther hn'.ks n3 _) n3 _⟩, bel_set (bel_set hB hS _) hS _⟩
theorem Box.grown {W w w' : World} {S c : Nat} {xs : List Int} {base n : Nat} {e : TypeId} {v : Value} {zs : List Value} {o : Obj} (h : Box W S w xs c) (hr : w.ownsRow base e 1 v n zs) (h1 : e ≠ 5) (h2 : e ≠ 24) (hg : (w.alloc o).grownBy w' v.ownBlock) : Box W S w' xs c := by
  obtain ⟨a, k, h3, h4⟩ := h.ex
  have hl := (Array.getElem?_eq_some_iff.1 h3).1
  refine ⟨a, k, ?_, (World.ownsRow.alloc h4 o).kept hg (row_row h4 hr (Ne.symm h1))⟩
  rw [hg.block S (by simp; omega) (fun q => row_ne hr h3 (Ne.symm h2) q.symm), (MapKept.heap_alloc _ _).2 _ hl]
  exact h3
/-- A number and its kind are noted behind the others. -/
theorem Nums.add {W w w1 w2 : World} {S c : Nat} {xs : List Int} {vw vk vw' vk' : Value} {L : List (Int × Int)} {u d : Int} {o1 o2 : Obj} (hN : Nums W w vw vk L) (hX : Box W S w xs c) (hB : Below W.heap.size W w)
    (h1 : w1.ownsRow W.heap.size 28 1 vw' (L.length + 1) (L.map (fun x => Value.int .u64 x.1) ++ [.int .u64 u])) (g1 : (w.alloc o1).grownBy w1 vw.ownBlock)
    (h2 : w2.ownsRow W.heap.size 2 1 vk' (L.length + 1) (L.map (fun x => Value.int .i64 x.2) ++ [.int .i64 d])) (g2 : (w1.alloc o2).grownBy w2 vk.ownBlock) :
    Nums W w2 vw' vk' (L ++ [(u, d)]) ∧ Box W S w2 xs c ∧ Below W.heap.size W w2 := by
  have hW := hB.size
  have k1 := (World.ownsRow.alloc hN.ks o1).kept g1 (row_row hN.ks hN.ws (by decide))
  have x1 := hX.grown hN.ws (by decide) (by decide) g1
  have b1 : Below W.heap.size W w1 := (hB.alloc hW _).grown g1 (by simp; omega) (fun k hk => (hN.ws.lt k hk).1)
  have hW1 := b1.size
  have l2 := (World.ownsRow.alloc h1 o2).kept g2 (row_row h1 k1 (by decide))
  refine ⟨⟨?_, ?_⟩, x1.grown k1 (by decide) (by decide) g2, (b1.alloc hW1 _).grown g2 (by simp; omega) (fun k hk => (k1.lt k hk).1)⟩
  · simpa using l2
  · simpa using h2
theorem Nums.first {W w w1 : World} {vw vk : Value} {L : List (Int × Int)} {o1 : Obj} (hN : Nums W w vw vk L) (g1 : (w.alloc o1).grownBy w1 vw.ownBlock) : w1.ownsRow W.heap.size 2 1 vk L.length (L.map (fun x => Value.int .i64 x.2)) := (World.ownsRow.alloc hN.ks o1).kept g1 (row_row hN.ks hN.ws (by decide))
theorem reads_le {ys : List Int} {k : Nat} : ∀ (L : List (Int × Int)) (p q : Nat), reads ys k L p q → p ≤ q
  | [], p, q, h => by
    have h : p = q := h
    omega
  | x :: r, p, q, h => by
    obtain ⟨p', h1, -, h3⟩ := h
    have := reads_le r p' q h3
    omega
set_option maxRecDepth 100000 in
set_option maxHeartbeats 8000000 in
theorem bits_law (W : World) (a : Option Addr) (len cap : Nat) (zs : List Int) (h : IsRow .u8 W a len cap zs) :
    Calls Try.prog 3 #[.slice a len cap] W fun e w' => e = .returned (.bool true) ∧ Below W.heap.size W w' := by
  have hcap : (len : Int) ≤ 9223372036854775807 := by
    rcases h with ⟨-, rfl, -, -⟩ | ⟨x, -, h1, h2, -⟩
    · decide
    · unfold maxLen at h2; omega
  have HI := Kp.mk h
  obtain ⟨iU, hU0, hU1, hU2, hU3⟩ := info_parts infoU
  obtain ⟨iI, hI0, hI1, hI2, hI3⟩ := info_parts infoI
  by_cases hbig : 1048576 < (len : Int)
  · have d : decide ((1048576 : Int) < len) = true := by simp; omega
    clear h
    go_enter Try.func3, Try.ntmps3
    go_wp2_with fail
    go_ret
    exact ⟨rfl, Below.refl _ _⟩
  have d : decide ((1048576 : Int) < len) = false := by simp; omega
  have CA : Kp (∀ w i n, IsRow .u8 w a len cap zs → 0 ≤ i → i ≤ 300 → 1 < n → n ≤ 256 → Calls Try.prog 8 #[.slice a len cap, .int .i64 i, .int .i64 n] w _) := ⟨fun w i n h h1 h2 h3 h4 => lwAt_any a len cap zs i n w h h1 h2 h3 h4⟩
  have CW : Kp (∀ w i, IsRow .u8 w a len cap zs → 0 ≤ i → i ≤ 280 → Calls Try.prog 9 #[.slice a len cap, .int .i64 i, .int .i64 64] w _) := ⟨fun w i h h1 h2 => lwWord_64 a len cap zs i w h h1 h2⟩
  -- the start: an empty box, two empty rows
  have x0 := new_cells W (Go.Obj.cells #[.slice none 0 0, .int .i64 0] 24 (0, 0))
  clear h
  go_enter Try.func3, Try.ntmps3
  go_upto_region 3 with fail
  go_upto_region 6 with fail
  have s1 : (W.alloc (Go.Obj.cells #[.slice none 0 0, .int .i64 0] 24 (0, 0))).heap.size = W.heap.size + 1 := by simp
  have s2 : ((W.alloc (Go.Obj.cells #[.slice none 0 0, .int .i64 0] 24 (0, 0))).alloc (Go.Obj.cells #[] 28 (0, 0))).heap.size = W.heap.size + 1 + 1 := by simp
  have hw := World.ownsRow_made (base := W.heap.size) (e := 28) (size := 1) (W.alloc (Go.Obj.cells #[.slice none 0 0, .int .i64 0] 24 (0, 0))) #[] 0 (by simp) (Nat.zero_le _) rfl
  have hk := World.ownsRow_made (base := W.heap.size) (e := 2) (size := 1) ((W.alloc (Go.Obj.cells #[.slice none 0 0, .int .i64 0] 24 (0, 0))).alloc (Go.Obj.cells #[] 28 (0, 0))) #[] 0 (by simp; omega) (Nat.zero_le _) rfl
  rw [s1] at hw
  rw [s2] at hk
  have hN := Nums.mk (L := []) (W := W) (row_keep hw (bel_alloc _ (Go.Obj.cells #[] 2 (0, 0)))) hk
  have hX : Box W W.heap.size (((W.alloc (Go.Obj.cells #[.slice none 0 0, .int .i64 0] 24 (0, 0))).alloc (Go.Obj.cells #[] 28 (0, 0))).alloc (Go.Obj.cells #[] 2 (0, 0))) [] 0 := ⟨none, 0, keep_cells (keep_cells x0 (bel_alloc _ _)) (bel_alloc _ _), World.ownsRow_nil _ _ _ _⟩
  have hB0 := bel_trans (bel_alloc W (Go.Obj.cells #[.slice none 0 0, .int .i64 0] 24 (0, 0))) (bel_trans (bel_alloc _ (Go.Obj.cells #[] 28 (0, 0))) (bel_alloc _ (Go.Obj.cells #[] 2 (0, 0))))
  generalize ((W.alloc (Go.Obj.cells #[.slice none 0 0, .int .i64 0] 24 (0, 0))).alloc (Go.Obj.cells #[] 28 (0, 0))).alloc (Go.Obj.cells #[] 2 (0, 0)) = V at *
  clear hw hk s1 s2 x0
  generalize Value.slice (some ⟨W.heap.size + 1, 0, none⟩) 0 0 = vw0 at *
  generalize Value.slice (some ⟨W.heap.size + 1 + 1, 0, none⟩) 0 0 = vk0 at *
  obtain ⟨S, hS⟩ : ∃ S, Kp (S = W.heap.size) := ⟨_, ⟨rfl⟩⟩
  rw [← hS.out] at hX ⊢
  have hI := fun w' hb => IsRow.bel HI.out (w' := w') hb
  have G1 := Kp.mk (CA.out V 0 20 (hI V hB0) (by decide) (by decide) (by decide) (by decide))
  go_wp2_with (go_at_call 8; refine G1.out.mono ?_; rintro e w1 ⟨n0, rfl, hn0, hn1, hb1⟩)
  obtain ⟨n, hn⟩ : ∃ n : Nat, (1 : Int) + n0 = n := ⟨(1 + n0).toNat, by omega⟩
  have hn20 : 1 ≤ n ∧ n ≤ 20 := by omega
  have hN1 := hN.keep hb1
  have hX1 := hX.keep hb1
  have hB1 := bel_trans hB0 hb1
  rw [hn]
  clear hN hX hB0 hb1 G1 hn hn0 hn1
  replace hI := Kp.mk hI
  go_loopw [4, 5, 7] (fun vw vk s wr => ∃ (i c : Nat) (xs : List Int) (L : List (Int × Int)), i ≤ n ∧ s = .int .i64 i ∧ Kp (L.length = i) ∧ Kp (c ≤ 1000 * i) ∧ Kp (Enc xs c L) ∧ Kp (∀ x ∈ L, -64 ≤ x.2 ∧ x.2 ≤ 13 ∧ 0 ≤ x.1 ∧ x.1 < 18446744073709551616) ∧ Kp (Nums W wr vw vk L) ∧ Kp (Box W S wr xs c) ∧ Below W.heap.size W wr) (fun _ _ s _ => n - (intOf s).toNat)
  case atStart => exact ⟨0, 0, [], [], Nat.zero_le _, rfl, ⟨rfl⟩, ⟨Nat.le_refl _⟩, ⟨Enc.start⟩, ⟨fun x hx => by cases hx⟩, ⟨hN1⟩, ⟨hX1⟩, hB1⟩
  case round =>
    clear hN1 hX1 hB1
    obtain ⟨i, c, xs, L, hi, rfl, hL, hc, hE, hnum, hN, hX, hB⟩ := hrel
    by_cases hlt : i < n
    · have hWr := hB.size
      have hcs : (c : Int) ≤ 20000 := by have := hc.out; omega
      have G1 := Kp.mk (CW.out wr (11 * i + 1) (hI.out wr hB) (by omega) (by omega))
      go_wp2_with fail
      refine G1.out.mono ?_
      rintro e w1 ⟨v, rfl, ⟨v0, v1⟩, hb1⟩
      have hB1 := hB.trans (hb1.mono hWr)
      have hN1 := hN.out.keep hb1
      have hX1 := hX.out.keep hb1
      have G2 := Kp.mk (CA.out w1 (11 * i + 2) 12 (hI.out w1 hB1) (by omega) (by omega) (by decide) (by decide))
      clear G1 hN hX hB hb1
      go_wp2_with fail
      refine G2.out.mono ?_
      rintro e w2 ⟨k0, rfl, k00, k01, hb2⟩
      have hW1 := hB1.size
      have hB2 := hB1.trans (hb2.mono hW1)
      have hN2 := hN1.keep hb2
      have hX2 := hX1.keep hb2
      obtain ⟨m, hm⟩ : ∃ m : Nat, Kp ((2 : Int) + k0 = (m : Int) + 1) := ⟨(1 + k0).toNat, ⟨by omega⟩⟩
      have hm1 : 1 ≤ m ∧ m ≤ 12 := by have := hm.out; omega
      have G3 := Kp.mk (CA.out w2 (11 * i + 3) 2 (hI.out w2 hB2) (by omega) (by omega) (by decide) (by decide))
      obtain ⟨a2, k2, hh2, ho2⟩ := hX2.ex
      have y1 : w2.cell? ⟨S, 1, none⟩ = some (.int .i64 c) := at_cells hh2 rfl
      clear G2 hN1 hX1 hB1 hb2 hWr
      go_wp2_with fail
      refine G3.out.mono ?_
      rintro e w3 ⟨z, rfl, z0, z1, hb3⟩
      have hW2 := hB2.size
      have hB3 := hB2.trans (hb3.mono hW2)
      have hN3 := hN2.keep hb3
      have hX3 := hX2.keep hb3
      have hW3 := hB3.size
      clear G3 hN2 hX2 hB2 hb3 hh2 ho2 y1 hW1 hW2
      by_cases hz : z = 0
      · subst hz
        have G4 := Kp.mk (CA.out w3 (11 * i + 4) 64 (hI.out w3 hB3) (by omega) (by omega) (by decide) (by decide))
        go_wp2_with fail
        refine G4.out.mono ?_
        rintro e w4 ⟨y, rfl, y0, y1, hb4⟩
        have hB4 := hB3.trans (hb4.mono hW3)
        have hN4 := hN3.keep hb4
        have hX4 := hX3.keep hb4
        have hW4 := hB4.size
        clear G4 hN3 hX3 hB3 hb4
        obtain ⟨Y, rfl⟩ := Int.eq_ofNat_of_zero_le y0
        have hsh : ((64 : Int) + (-1 - (Y : Int))).toNat = 63 - Y := by omega
        have hu : 0 ≤ v / 2 ^ (63 - Y) ∧ v / 2 ^ (63 - Y) < 2 ^ (Y + 1) := by
          have hp := pow_pos2 (63 - Y)
          refine ⟨Int.ediv_nonneg v0 (by omega), Int.ediv_lt_of_lt_mul hp ?_⟩
          rw [← Int.pow_add, show Y + 1 + (63 - Y) = 64 by omega]
          exact v1
        obtain ⟨u, hue⟩ : ∃ u, Kp (u = v / 2 ^ (63 - Y)) := ⟨_, ⟨rfl⟩⟩
        rw [← hue.out] at hu
        have hu64 : u < 18446744073709551616 := by
          have h1 := Nat.pow_le_pow_right (n := 2) (by decide) (show Y + 1 ≤ 64 by omega)
          have e1 : ((2 : Int) ^ (Y + 1)) = ((2 ^ (Y + 1) : Nat) : Int) := by push_cast; rfl
          have e3 : (2 : Nat) ^ 64 = 18446744073709551616 := rfl
          rw [e3] at h1
          have h2 := hu.2
          rw [e1] at h2
          omega
        obtain ⟨a4, k4, hh4, ho4⟩ := hX4.ex
        have q0 : w4.cell? ⟨S, 0, none⟩ = some (.slice a4 xs.length k4) := at_cells hh4 rfl
        have q1 : w4.cell? ⟨S, 1, none⟩ = some (.int .i64 c) := at_cells hh4 rfl
        have q2 := rw_cells hh4
        have hSn := hE.out.snd
        have hlx : xs.length ≤ 1048576 := by have := hSn.len; have := hc.out; omega
        have G5 := putBitsI _ xs c u ((Y : Int) + 1) w4 (ho4.bytes (by omega)) hlx (by omega) (by have := hc.out; omega) hSn.byte hu.1 hu64 (by omega) (by omega)
        rw [sndOf_of hSn] at G5
        have eR : putR xs c u ((Y : Int) + 1) = (putB xs c u (Y + 1), c + (Y + 1)) := by
          have et : ((Y : Int) + 1).toNat = Y + 1 := by omega
          rw [putR, et, if_pos ⟨by omega, by omega, Int.ediv_eq_zero_of_lt hu.1 hu.2⟩]
        dsimp only at G5
        rw [eR] at G5
        dsimp only at G5
        have hE2 := Kp.mk (hE.out.fix hu.1 hu.2 (by omega) (by omega))
        obtain ⟨ys, hys⟩ : ∃ ys, Kp (ys = putB xs c u (Y + 1)) := ⟨_, ⟨rfl⟩⟩
        obtain ⟨c2, hc2⟩ : ∃ c2, Kp (c2 = c + (Y + 1)) := ⟨_, ⟨rfl⟩⟩
        rw [← hys.out, ← hc2.out] at G5 hE2
        have eN : (Y : Int) + 1 = -(-1 - (Y : Int)) := by omega
        rw [eN] at G5
        replace G5 := Kp.mk G5
        have hck : ((c2 : Int) != (c : Int) - (-1 - (Y : Int))) = false := by rw [hc2.out]; simp; omega
        have eD : Kp (-(((Y + 1 : Nat)) : Int) = -1 - (Y : Int)) := ⟨by omega⟩
        rw [eD.out] at hE2
        have hnum2 : Kp (∀ x ∈ L ++ [(u, -1 - (Y : Int))], -64 ≤ x.2 ∧ x.2 ≤ 13 ∧ 0 ≤ x.1 ∧ x.1 < 18446744073709551616) := ⟨fun x hx => by
          rcases List.mem_append.1 hx with h | h
          · exact hnum.out x h
          · obtain rfl : x = (u, -1 - (Y : Int)) := by simpa using h
            exact ⟨by dsimp only; omega, by dsimp only; omega, hu.1, hu64⟩⟩
        have hcb : Kp (c2 ≤ 1000 * (i + 1)) := ⟨by rw [hc2.out]; have := hc.out; omega⟩
        go_upto_region 16 with fail
        rw [← hue.out]
        clear hsh eR hSn ho4 hh4 eN hE hnum
        go_upto_region 17 with (go_at_call 10; refine G5.out.mono ?_; rintro e w5 ⟨v5, rfl, O5, hb5⟩; obtain ⟨a5, k5, rfl⟩ := O5.form; obtain ⟨a6, k6, hh6, ho6⟩ := (hX4.keep hb5).ex; have q0 : w5.cell? ⟨S, 0, none⟩ = some (.slice a6 xs.length k6) := at_cells hh6 rfl; have q1 : w5.cell? ⟨S, 1, none⟩ = some (.int .i64 c) := at_cells hh6 rfl; have q2 := rw_cells hh6)
        have hput := hX4.put (c' := c2) (k' := k5) (a' := a5) (ys := ys) hN4 hb5 hW4 O5 (hB4.trans (hb5.mono hW4)) (by rw [hS.out]; exact Nat.le_refl _)
        clear G5 q0 q1 q2 hh6 ho6 O5 hb5 hX4 hN4 hB4 hu
        generalize (w5.setCell ⟨S, 0, none⟩ (.slice a5 ys.length k5)).setCell ⟨S, 1, none⟩ (.int .i64 c2) = X at *
        obtain ⟨hXn, hNn, hBn⟩ := hput
        obtain ⟨a7, k7, hh7, ho7⟩ := hXn.ex
        have q1 : X.cell? ⟨S, 1, none⟩ = some (.int .i64 c2) := at_cells hh7 rfl
        clear hh7 ho7
        have hlb : L.length ≤ 20 := by have := hL.out; omega
        have hall := Kp.mk (hNn.ws.alloc (Go.Obj.cells #[.int .u64 u] 28 (0, 0)))
        have hWn := hBn.size
        have hfirst := Kp.mk (fun w1 o1 => hNn.first (w1 := w1) (o1 := o1))
        have hadd := Kp.mk (fun w1 w2 vw' vk' o1 o2 => Nums.add (w1 := w1) (w2 := w2) (vw' := vw') (vk' := vk') (u := u) (d := -1 - (Y : Int)) (o1 := o1) (o2 := o2) hNn hXn hBn)
        clear hNn hXn
        go_upto_region 27 with fail
        clear q1
        go_wp2_with (first
          | (at_builtin; refine wpList_append_vals _ rfl _ _ 25 rfl W.heap.size 28 iU (.int .u64 0) 1 8 Try.underlying25 hU0 hU1 hU2 hU3 rfl (by decide) _ _ _ rfl hall.out (some ⟨X.heap.size, 0, none⟩) X.heap.size 0 1 1 [.int .u64 u] rfl (fun _ => rfl) rfl (one_new X _ _) one_cell (by unfold maxLen; omega) (by omega) (by simp; omega) ?_; intro v8 w8 own8 grow8; have h8 := hfirst.out w8 _ grow8; have hall2 := Kp.mk (h8.alloc (Go.Obj.cells #[.int .i64 (-1 - (Y : Int))] 2 (0, 0))); have hs8 : W.heap.size ≤ w8.heap.size := by { have := grow8.size; simp at this; omega }; replace own8 := Kp.mk own8; replace grow8 := Kp.mk grow8)
          | (at_builtin; refine wpList_append_vals _ rfl _ _ 26 rfl W.heap.size 2 iI (.int .i64 0) 1 8 Try.underlying26 hI0 hI1 hI2 hI3 rfl (by decide) _ _ _ rfl hall2.out (some ⟨w8.heap.size, 0, none⟩) w8.heap.size 0 1 1 [.int .i64 (-1 - (Y : Int))] rfl (fun _ => rfl) rfl (one_new w8 _ _) one_cell (by unfold maxLen; omega) (by omega) (by simp; omega) ?_; intro v9 w9 own9 grow9; replace own9 := Kp.mk own9; replace grow9 := Kp.mk grow9))
        obtain ⟨hN9, hX9, hB9⟩ := hadd.out w8 w9 v8 v9 _ _ own8.out grow8.out own9.out grow9.out
        clear own8 grow8 own9 grow9 h8 hall hall2 hadd hfirst
        go_wp2_with fail
        exact ⟨⟨i + 1, c2, ys, L ++ [(u, -1 - (Y : Int))], by omega, by go_num, ⟨by rw [List.length_append, hL.out]; rfl⟩, hcb, hE2, hnum2, ⟨hN9⟩, ⟨hX9⟩, hB9⟩, by simp [intOf]; omega⟩
      · obtain rfl : z = 1 := by omega
        obtain ⟨a4, k4, hh4, ho4⟩ := hX3.ex
        have q0 : w3.cell? ⟨S, 0, none⟩ = some (.slice a4 xs.length k4) := at_cells hh4 rfl
        have q1 : w3.cell? ⟨S, 1, none⟩ = some (.int .i64 c) := at_cells hh4 rfl
        have q2 := rw_cells hh4
        have hSn := hE.out.snd
        have hlx : xs.length ≤ 1048576 := by have := hSn.len; have := hc.out; omega
        have G5 := putVarI _ xs c v ((m : Int) + 1) w3 (ho4.bytes (by omega)) hlx (by omega) (by have := hc.out; omega) hSn.byte v0 v1 (by omega) (by omega)
        rw [sndOf_of hSn] at G5
        have eR : varR xs c v ((m : Int) + 1) = varL m 64 xs c v := by
          have et : ((m : Int) + 1).toNat - 1 = m := by omega
          rw [varR, et, if_pos ⟨by omega, by omega⟩]
        dsimp only at G5
        rw [eR] at G5
        have hE2 := Kp.mk (hE.out.var (m := m) v0 v1 (by omega) (by omega))
        have hcnt := varL_cnt m 64 xs c v
        have hpb := pcs_bd m 64 v
        obtain ⟨ys, hys⟩ : ∃ ys, Kp (ys = (varL m 64 xs c v).1) := ⟨_, ⟨rfl⟩⟩
        obtain ⟨c2, hc2⟩ : ∃ c2, Kp (c2 = (varL m 64 xs c v).2) := ⟨_, ⟨rfl⟩⟩
        rw [← hys.out, ← hc2.out] at G5 hE2
        rw [← hc2.out] at hcnt
        obtain ⟨pc, hpc⟩ : ∃ pc, Kp (pc = pcs m 64 v) := ⟨_, ⟨rfl⟩⟩
        rw [← hpc.out] at hcnt hpb
        have hpm : pc * (m + 1) ≤ 65 * 13 := Nat.mul_le_mul hpb.2 (by omega)
        replace G5 := Kp.mk G5
        have hnum2 : Kp (∀ x ∈ L ++ [(v, (m : Int) + 1)], -64 ≤ x.2 ∧ x.2 ≤ 13 ∧ 0 ≤ x.1 ∧ x.1 < 18446744073709551616) := ⟨fun x hx => by
          rcases List.mem_append.1 hx with h | h
          · exact hnum.out x h
          · obtain rfl : x = (v, (m : Int) + 1) := by simpa using h
            exact ⟨by dsimp only; omega, by dsimp only; omega, v0, v1⟩⟩
        have hcb : Kp (c2 ≤ 1000 * (i + 1)) := ⟨by rw [hcnt]; have := hc.out; omega⟩
        have hcnt' : Kp ((c2 : Int) = (c : Int) + (pc : Int) * ((m : Int) + 1)) := ⟨by rw [hcnt]; push_cast; rfl⟩
        have hpm' : (0 : Int) ≤ (pc : Int) * ((m : Int) + 1) ∧ (pc : Int) * ((m : Int) + 1) ≤ 845 := by
          have e : (pc : Int) * ((m : Int) + 1) = ((pc * (m + 1) : Nat) : Int) := by push_cast; rfl
          rw [e]
          omega
        obtain ⟨hpm0, hpm1⟩ := hpm'
        replace hcnt := Kp.mk hcnt
        go_upto_region 19 with fail
        rw [hm.out]
        clear eR hSn ho4 hh4 hE hnum hcnt hpm
        go_upto_region 20 with (go_at_call 11; refine G5.out.mono ?_; rintro e w5 ⟨v5, rfl, O5, hb5⟩; obtain ⟨a5, k5, rfl⟩ := O5.form; obtain ⟨a6, k6, hh6, ho6⟩ := (hX3.keep hb5).ex; have q0 : w5.cell? ⟨S, 0, none⟩ = some (.slice a6 xs.length k6) := at_cells hh6 rfl; have q1 : w5.cell? ⟨S, 1, none⟩ = some (.int .i64 c) := at_cells hh6 rfl; have q2 := rw_cells hh6)
        have hput := hX3.put (c' := c2) (k' := k5) (a' := a5) (ys := ys) hN3 hb5 hW3 O5 (hB3.trans (hb5.mono hW3)) (by rw [hS.out]; exact Nat.le_refl _)
        clear G5 q0 q1 q2 hh6 ho6 O5 hb5 hX3 hN3 hB3
        generalize (w5.setCell ⟨S, 0, none⟩ (.slice a5 ys.length k5)).setCell ⟨S, 1, none⟩ (.int .i64 c2) = X at *
        obtain ⟨hXn, hNn, hBn⟩ := hput
        obtain ⟨a7, k7, hh7, ho7⟩ := hXn.ex
        have q1 : X.cell? ⟨S, 1, none⟩ = some (.int .i64 c2) := at_cells hh7 rfl
        clear hh7 ho7
        have hlt0 := half_lt (f := 63) v0 (by simpa using v1) hm1.1
        have hst : Kp (1 + (if v / 2 ^ m = 0 then 0 else pcs m 63 (v / 2 ^ m)) = pc) := ⟨by
          have e : pcs m 64 v = if v / 2 ^ m = 0 then 1 else pcs m 63 (v / 2 ^ m) + 1 := rfl
          rw [hpc.out, e]
          split <;> omega⟩
        go_wp2_with fail
        go_loopw [11, 12] (fun s11 s12 wq => ∃ (j f : Nat) (r : Int), s11 = .int .i64 j ∧ s12 = .int .u64 r ∧ Kp (j + (if r = 0 then 0 else pcs m f r) = pc) ∧ Kp (r < 2 ^ f) ∧ (j ≤ 100 ∧ 0 ≤ r ∧ r < 18446744073709551616) ∧ wq = X) (fun _ s12 _ => (intOf s12).toNat)
        case atStart => exact ⟨1, 63, v / 2 ^ m, rfl, rfl, hst, ⟨hlt0.2⟩, ⟨by omega, hlt0.1, by have := hlt0.2; have e : (2 : Int) ^ 63 = 9223372036854775808 := rfl; omega⟩, rfl⟩
        case round =>
          obtain ⟨j, f, r, rfl, rfl, hj, hr, ⟨j1, r0, r1⟩, rfl⟩ := hrel
          by_cases hr0 : r = 0
          · have hjp : j = pc := by have := hj.out; rw [if_pos hr0] at this; omega
            subst hr0 hjp
            have hck : ((c2 : Int) != (c : Int) + (j : Int) * ((m : Int) + 1)) = false := by rw [hcnt'.out]; simp
            clear hst hpc hj hr
            have hlb : L.length ≤ 20 := by have := hL.out; omega
            have hall := Kp.mk (hNn.ws.alloc (Go.Obj.cells #[.int .u64 v] 28 (0, 0)))
            have hWn := hBn.size
            have hfirst := Kp.mk (fun w1 o1 => hNn.first (w1 := w1) (o1 := o1))
            have hadd := Kp.mk (fun w1 w2 vw' vk' o1 o2 => Nums.add (w1 := w1) (w2 := w2) (vw' := vw') (vk' := vk') (u := v) (d := (m : Int) + 1) (o1 := o1) (o2 := o2) hNn hXn hBn)
            clear hNn hXn
            go_upto_region 27 with fail
            clear q1
            go_wp2_with (first
              | (at_builtin; refine wpList_append_vals _ rfl _ _ 25 rfl W.heap.size 28 iU (.int .u64 0) 1 8 Try.underlying25 hU0 hU1 hU2 hU3 rfl (by decide) _ _ _ rfl hall.out (some ⟨wr.heap.size, 0, none⟩) wr.heap.size 0 1 1 [.int .u64 v] rfl (fun _ => rfl) rfl (one_new wr _ _) one_cell (by unfold maxLen; omega) (by omega) (by simp; omega) ?_; intro v8 w8 own8 grow8; have h8 := hfirst.out w8 _ grow8; have hall2 := Kp.mk (h8.alloc (Go.Obj.cells #[.int .i64 ((m : Int) + 1)] 2 (0, 0))); have hs8 : W.heap.size ≤ w8.heap.size := by { have := grow8.size; simp at this; omega }; replace own8 := Kp.mk own8; replace grow8 := Kp.mk grow8)
              | (at_builtin; refine wpList_append_vals _ rfl _ _ 26 rfl W.heap.size 2 iI (.int .i64 0) 1 8 Try.underlying26 hI0 hI1 hI2 hI3 rfl (by decide) _ _ _ rfl hall2.out (some ⟨w8.heap.size, 0, none⟩) w8.heap.size 0 1 1 [.int .i64 ((m : Int) + 1)] rfl (fun _ => rfl) rfl (one_new w8 _ _) one_cell (by unfold maxLen; omega) (by omega) (by simp; omega) ?_; intro v9 w9 own9 grow9; replace own9 := Kp.mk own9; replace grow9 := Kp.mk grow9))
            obtain ⟨hN9, hX9, hB9⟩ := hadd.out w8 w9 v8 v9 _ _ own8.out grow8.out own9.out grow9.out
            clear own8 grow8 own9 grow9 h8 hall hall2 hadd hfirst
            go_wp2_with fail
            exact ⟨⟨i + 1, c2, ys, L ++ [(v, (m : Int) + 1)], by omega, by go_num, ⟨by rw [List.length_append, hL.out]; rfl⟩, hcb, hE2, hnum2, ⟨hN9⟩, ⟨hX9⟩, hB9⟩, by simp [intOf]; omega⟩
          · have hrb : (r != 0) = true := by simp [hr0]
            obtain ⟨f, rfl⟩ : ∃ f', f = f' + 1 := by
              cases f with
              | zero =>
                exfalso
                have := hr.out
                have e : (2 : Int) ^ 0 = 1 := rfl
                omega
              | succ f => exact ⟨f, rfl⟩
            have hlt2 := half_lt r0 hr.out hm1.1
            have hj2 : Kp (j + 1 + (if r / 2 ^ m = 0 then 0 else pcs m f (r / 2 ^ m)) = pc) := ⟨by
              have := hj.out
              rw [if_neg hr0, pcs] at this
              split at this
              · rename_i q
                rw [if_pos q]
                omega
              · rename_i q
                rw [if_neg q]
                omega⟩
            have hr2 : Kp (r / 2 ^ m < 2 ^ f) := ⟨hlt2.2⟩
            have hlt3 : r / 2 ^ m < r := by
              refine Int.ediv_lt_of_lt_mul (pow_pos2 m) ?_
              have h3 : r * 2 ≤ r * 2 ^ m := Int.mul_le_mul_of_nonneg_left (two_le_pow hm1.1) r0
              omega
            have hj100 : j + 1 ≤ 100 := by have := hj2.out; omega
            have hrn := hlt2.1
            clear hst hlt2
            go_wp2_with fail
            exact ⟨⟨j + 1, f, r / 2 ^ m, by go_num, rfl, hj2, hr2, ⟨hj100, hrn, by omega⟩, trivial⟩, by simp [intOf]; omega⟩
    · obtain rfl : i = n := by omega
      have hSn := hE.out.snd
      have hcs : (c : Int) ≤ 20000 := by have := hc.out; omega
      have hlx : xs.length ≤ 2501 := by have := hSn.len; omega
      obtain ⟨a4, k4, hh4, ho4⟩ := hX.out.ex
      have q0 : wr.cell? ⟨S, 0, none⟩ = some (.slice a4 xs.length k4) := at_cells hh4 rfl
      have q1 : wr.cell? ⟨S, 1, none⟩ = some (.int .i64 c) := at_cells hh4 rfl
      have hlen : ((xs.length : Int) != ((c : Int) + 7) / 8) = false := by have := hSn.len; simp; omega
      have hrd := hE.out.rd xs c (Nat.le_refl _) (fun _ _ => rfl)
      -- what the readers answer over these bits
      have hby : Ints W.heap.size .u8 wr (.slice a4 xs.length k4) xs := ho4.bytes (by omega)
      have CB : Kp (∀ w', Below wr.heap.size wr w' → ∀ p q : Int, -9223372036854775808 ≤ p → p ≤ 9223372036854775807 → -9223372036854775808 ≤ q → q ≤ 9223372036854775807 → Calls Try.prog 12 #[.agg #[.slice a4 xs.length k4, .int .i64 c], .int .i64 p, .int .i64 q] w' fun e w2 => e = .returned (resV (resB xs c p q)) ∧ Below w'.heap.size w' w2) := ⟨fun w' hb p q h1 h2 h3 h4 => by
        have := getBitsI _ xs c p q w' (hby.keep hb) (by omega) (by omega) (by omega) hSn.byte h1 h2 h3 h4
        rw [sndOf_of hSn] at this
        exact this⟩
      have CV : Kp (∀ w', Below wr.heap.size wr w' → ∀ p q : Int, -9223372036854775808 ≤ p → p ≤ 9223372036854775807 → -9223372036854775808 ≤ q → q ≤ 9223372036854775807 → Calls Try.prog 13 #[.agg #[.slice a4 xs.length k4, .int .i64 c], .int .i64 p, .int .i64 q] w' fun e w2 => e = .returned (resV (resG xs c p q)) ∧ Below w'.heap.size w' w2) := ⟨fun w' hb p q h1 h2 h3 h4 => by
        have := getVarI _ xs c p q w' (hby.keep hb) (by omega) (by omega) (by omega) hSn.byte h1 h2 h3 h4
        rw [sndOf_of hSn] at this
        exact this⟩
      have hL' := hL.out
      obtain ⟨gw, cw, rfl, hgw⟩ : ∃ g cap, u4 = .slice (some ⟨g, 0, none⟩) L.length cap ∧ ∀ j (hj : j < L.length), wr.cell? ⟨g, j, none⟩ = some (.int .u64 L[j].1) := by
        rcases hN.out.ws.2 with ⟨-, e⟩ | ⟨g, cap, cur, e, -, -, -⟩
        · omega
        · refine ⟨g, cap, e, fun j hj => ?_⟩
          have h := hN.out.ws
          rw [e] at h
          rw [h.cellAt j (by omega)]
          simp [hj]
      obtain ⟨gk, ck, rfl, hgk⟩ : ∃ g cap, u5 = .slice (some ⟨g, 0, none⟩) L.length cap ∧ ∀ j (hj : j < L.length), wr.cell? ⟨g, j, none⟩ = some (.int .i64 L[j].2) := by
        rcases hN.out.ks.2 with ⟨-, e⟩ | ⟨g, cap, cur, e, -, -, -⟩
        · omega
        · refine ⟨g, cap, e, fun j hj => ?_⟩
          have h := hN.out.ks
          rw [e] at h
          rw [h.cellAt j (by omega)]
          simp [hj]
      replace hL' := Kp.mk hL'
      have HW := Kp.mk hgw
      have HK := Kp.mk hgk
      have hxS := Kp.mk hh4
      obtain ⟨wd, rfl⟩ : ∃ wd : World, wd = wr := ⟨_, rfl⟩
      clear hN hX hE hc hI hgw hgk hby ho4 hh4 CA CW
      go_upto_region 33 with fail
      clear q0 q1
      go_loopw [13, 14] (fun s13 s14 wq => ∃ (j p : Nat), j ≤ i ∧ s13 = .int .i64 p ∧ s14 = .int .i64 j ∧ Kp (reads xs c (L.drop j) p c) ∧ Below wd.heap.size wd wq) (fun _ s14 _ => i - (intOf s14).toNat)
      case atStart => exact ⟨0, 0, Nat.zero_le _, rfl, rfl, ⟨hrd⟩, Below.refl _ _⟩
      case round =>
        obtain ⟨j, p, hj, rfl, rfl, hrj, hBq⟩ := hrel
        have hpc := reads_le _ _ _ hrj.out
        by_cases hji : j < i
        · have hjL : j < L.length := by have := hL'.out; omega
          have hrd2 := hrj.out
          rw [List.drop_eq_getElem_cons hjL] at hrd2
          obtain ⟨p', hp', hres, hnext⟩ := hrd2
          have hp'c := reads_le _ _ _ hnext
          replace hnext := Kp.mk hnext
          have hdb := hnum.out L[j] (List.getElem_mem hjL)
          obtain ⟨v, hv⟩ : ∃ v, Kp (L[j].1 = v) := ⟨_, ⟨rfl⟩⟩
          obtain ⟨d, hd⟩ : ∃ d, Kp (L[j].2 = d) := ⟨_, ⟨rfl⟩⟩
          rw [hv.out, hd.out] at hres
          rw [hd.out, hv.out] at hdb
          obtain ⟨s, hs⟩ : ∃ s, s = wr.heap.size := ⟨_, rfl⟩
          have bb := bel_alloc wr (Go.Obj.cells #[.bool false, .int .u64 0, .int .i64 0] 33 (0, 0))
          have zn := new_cells wr (Go.Obj.cells #[.bool false, .int .u64 0, .int .i64 0] 33 (0, 0))
          have hwsz := hBq.size
          have hBV := hBq.trans (bb.mono hwsz)
          have y3 := at_keep (HK.out j hjL) hBV
          rw [hd.out] at y3
          have y4 := at_keep (HK.out j hjL) hBq
          rw [hd.out] at y4
          have y0 := at_keep (at_cells (j := 0) hxS.out rfl) hBV
          have y1 := at_keep (at_cells (j := 1) hxS.out rfl) hBV
          obtain ⟨V, hV⟩ : ∃ V, V = wr.alloc (Go.Obj.cells #[.bool false, .int .u64 0, .int .i64 0] 33 (0, 0)) := ⟨_, rfl⟩
          rw [← hs] at zn
          rw [← hV] at zn hBV y3 y0 y1 bb
          have hsz0 : wd.heap.size ≤ s := by omega
          have hsz2 : wd.heap.size ≤ V.heap.size := hBV.size
          have hBD := (Below.refl V.heap.size V).drew
          have ZK := Kp.mk (fun w7 (h : Below V.heap.size V w7) => keep_cells zn h)
          clear bb hrj hwsz
          go_upto_region 36 with fail
          rw [← hV, ← hs]
          clear hV hs y4 zn hBq
          have GB := Kp.mk (fun h1 h2 h3 h4 => CB.out V.drew (hBV.drew) p (-d) h1 h2 h3 h4)
          have GV := Kp.mk (fun h1 h2 h3 h4 => CV.out V.drew (hBV.drew) p d h1 h2 h3 h4)
          replace hres := Kp.mk hres
          go_upto_if 123 with fail
          go_cut [] from 113 to 158 (fun wx => Kp (wx.cell? ⟨s, 0, none⟩ = some (.bool true) ∧ wx.cell? ⟨s, 1, none⟩ = some (.int .u64 v) ∧ wx.cell? ⟨s, 2, none⟩ = some (.int .i64 p')) ∧ Below wd.heap.size wd wx)
          case first =>
            replace hBV := Kp.mk hBV
            clear hnext CB CV hL' HK HW hxS hnum hrd HI
            by_cases hd0 : d < 0
            · have dd : decide (d < 0) = true := by simp [hd0]
              have hres := hres.out
              rw [if_pos hd0] at hres
              have G := GB.out (by omega) (by omega) (by omega) (by omega)
              rw [hres] at G
              replace G := Kp.mk G
              clear hres GB GV
              have hwr : IntKind.i64.wrap (-d) = -d := by rw [IntKind.wrap_i64]; omega
              go_upto_region 37 with fail
              go_region_with (go_at_call 12; go_fit G.out; rintro e w7 ⟨rfl, hb7⟩; have hb77 := hBD.trans hb7; have t0 : w7.cell? ⟨s, 0, none⟩ = some (.bool false) := at_cells (ZK.out _ hb77) rfl; have t1 : w7.cell? ⟨s, 1, none⟩ = some (.int .u64 0) := at_cells (ZK.out _ hb77) rfl; have t2 : w7.cell? ⟨s, 2, none⟩ = some (.int .i64 0) := at_cells (ZK.out _ hb77) rfl; have t3 := rw_cells (ZK.out _ hb77); have t4 : w7.cell? ⟨gk, j, none⟩ = some (.int .i64 d) := at_keep y3 hb77; have t5 : w7.cell? ⟨S, 0, none⟩ = some (.slice a4 xs.length k4) := at_keep y0 hb77; have t6 : w7.cell? ⟨S, 1, none⟩ = some (.int .i64 c) := at_keep y1 hb77)
              all_goals
                have zz := set_cells (set_cells (set_cells (ZK.out _ hb77) 0 (.bool true)) 1 (.int .u64 v)) 2 (.int .i64 p')
                have zb := bel_set (k := 2) (bel_set (k := 1) (bel_set (k := 0) (hBV.out.trans (hb77.mono hsz2)) hsz0 (.bool true)) hsz0 (.int .u64 v)) hsz0 (.int .i64 p')
                obtain ⟨Z, hZ⟩ : ∃ Z, Z = ((w7.setCell ⟨s, 0, none⟩ (.bool true)).setCell ⟨s, 1, none⟩ (.int .u64 v)).setCell ⟨s, 2, none⟩ (.int .i64 p') := ⟨_, rfl⟩
                rw [← hZ] at zz zb ⊢
                have mm : Kp (Z.cell? ⟨s, 0, none⟩ = some (.bool true) ∧ Z.cell? ⟨s, 1, none⟩ = some (.int .u64 v) ∧ Z.cell? ⟨s, 2, none⟩ = some (.int .i64 p')) := ⟨at_cells zz rfl, at_cells zz rfl, at_cells zz rfl⟩
                clear t0 t1 t2 t3 t4 t5 t6 hZ zz hb7 hb77 y0 y1 y3 ZK G hBD hBV
                go_wp2_with fail
                go_meet
                case rel => exact ⟨mm, zb⟩
            · have dd : decide (d < 0) = false := by simp [hd0]
              have hres := hres.out
              rw [if_neg hd0] at hres
              have G := GV.out (by omega) (by omega) (by omega) (by omega)
              rw [hres] at G
              replace G := Kp.mk G
              clear hres GB GV
              go_upto_region 38 with fail
              go_region_with (go_at_call 13; go_fit G.out; rintro e w7 ⟨rfl, hb7⟩; have hb77 := hBD.trans hb7; have t0 : w7.cell? ⟨s, 0, none⟩ = some (.bool false) := at_cells (ZK.out _ hb77) rfl; have t1 : w7.cell? ⟨s, 1, none⟩ = some (.int .u64 0) := at_cells (ZK.out _ hb77) rfl; have t2 : w7.cell? ⟨s, 2, none⟩ = some (.int .i64 0) := at_cells (ZK.out _ hb77) rfl; have t3 := rw_cells (ZK.out _ hb77); have t4 : w7.cell? ⟨gk, j, none⟩ = some (.int .i64 d) := at_keep y3 hb77; have t5 : w7.cell? ⟨S, 0, none⟩ = some (.slice a4 xs.length k4) := at_keep y0 hb77; have t6 : w7.cell? ⟨S, 1, none⟩ = some (.int .i64 c) := at_keep y1 hb77)
              all_goals
                have zz := set_cells (set_cells (set_cells (ZK.out _ hb77) 0 (.bool true)) 1 (.int .u64 v)) 2 (.int .i64 p')
                have zb := bel_set (k := 2) (bel_set (k := 1) (bel_set (k := 0) (hBV.out.trans (hb77.mono hsz2)) hsz0 (.bool true)) hsz0 (.int .u64 v)) hsz0 (.int .i64 p')
                obtain ⟨Z, hZ⟩ : ∃ Z, Z = ((w7.setCell ⟨s, 0, none⟩ (.bool true)).setCell ⟨s, 1, none⟩ (.int .u64 v)).setCell ⟨s, 2, none⟩ (.int .i64 p') := ⟨_, rfl⟩
                rw [← hZ] at zz zb ⊢
                have mm : Kp (Z.cell? ⟨s, 0, none⟩ = some (.bool true) ∧ Z.cell? ⟨s, 1, none⟩ = some (.int .u64 v) ∧ Z.cell? ⟨s, 2, none⟩ = some (.int .i64 p')) := ⟨at_cells zz rfl, at_cells zz rfl, at_cells zz rfl⟩
                clear t0 t1 t2 t3 t4 t5 t6 hZ zz hb7 hb77 y0 y1 y3 ZK G hBD hBV
                go_wp2_with fail
                go_meet
                case rel => exact ⟨mm, zb⟩
          case rest =>
            obtain ⟨⟨m0, m1, m2⟩, zb⟩ := hcut
            have m3 := at_keep (HW.out j hjL) zb
            rw [hv.out] at m3
            have dle : decide ((p' : Int) ≤ p) = false := by simp; omega
            clear y0 y1 y3 ZK hBD hBV GB GV CB CV HK hres
            go_upto_region 39 with fail
            go_region
            go_wp2_with fail
            exact ⟨⟨j + 1, p', by omega, rfl, by go_num, hnext, zb.drew⟩, by simp [intOf]; omega⟩
        · obtain rfl : j = i := by omega
          have hp : p = c := by
            have h1 := hrj.out
            rw [List.drop_eq_nil_of_le (by have := hL.out; omega)] at h1
            exact h1
          have hWd := hB.size
          have hBW := hB.trans (hBq.mono hWd)
          have hW2 := hBW.size
          have q0 := at_keep (at_cells (j := 0) hxS.out rfl) hBq
          have q1 := at_keep (at_cells (j := 1) hxS.out rfl) hBq
          have q2 := rw_cells (keep_cells hxS.out hBq)
          have G := CB.out wr hBq c 1 (by omega) (by omega) (by omega) (by omega)
          rw [show resB xs c c 1 = (false, 0, 0) from if_neg (by omega)] at G
          replace G := Kp.mk G
          have hf : ∀ W, (Instr.field 33 (.agg #[.bool false, .int .u64 0, .int .i64 0]) 0).run Try.prog W = .ok (.bool false) W := fun W => by kernel_rfl
          rw [hp]
          clear hp hrj CB CV HW HK hxS hnum hrd hcs hlx hlen hSn hB hBq
          go_wp2_with (go_at_call 12; go_fit G.out; rintro e w7 ⟨rfl, hb7⟩)
          go_ret
          exact ⟨rfl, hBW.trans (hb7.mono hW2)⟩
end Go.Proofs.Ytfagafglloopbaa
