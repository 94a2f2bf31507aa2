/- Texts of one claim. -/
import Derived.Shelf.Strings.Builder1
import Derived.Shelf.Strings.Builder2
import Derived.Shelf.Strings.OnBuilder
import Derived.Shelf.Strings.BuilderF
import Derived.Shelf.Strings.BuilderK
import Derived.Shelf.Strconv.Itoa0
import Derived.Shelf.Strconv.Itoa1
import Derived.Shelf.LaysM
import Derived.Shelf.Strconv.Itoa2
import Derived.Shelf.Strconv.Itoa3
import Derived.Shelf.Strconv.Itoa4
import Derived.Shelf.Bits.Mul64
import Derived.Test.YtgdcgjlmkmdklaaGreatDoorProg
import Derived.Test.YtgdcgjlmkmdklaaGreatDoorPk0
import Derived.Test.YtgdcgjlmkmdklaaGreatDoorPk6
import Derived.Test.YtgdcgjlmkmdklaaGreatDoorPk40
import Derived.Lib.ItoaNum
import Derived.Lib.ItoaMem
import Derived.Lib.ItoaLen
import Derived.Lib.AtoiAll
import Derived.Test.YtgdcgjlmkmdklaaGreatDoorPk9
import Derived.Deep.RegionWith
import Derived.Lib.AtoiErrMem
namespace Go.Proofs
open Go.Shelf
def Tryz.lays156_ren : Go.Shelf.Ren := ⟨fun | 156 => 128 | 165 => 149 | 166 => 38 | 169 => 42 | 240 => 77 | 241 => 164 | 276 => 127 | 277 => 176 | n => n, fun | 31 => 122 | 9 => 9 | 3 => 3 | 4 => 4 | 0 => 0 | 20 => 20 | 72 => 82 | 76 => 85 | 70 => 80 | 37 => 74 | 75 => 84 | 127 => 124 | 164 => 162 | 5 => 5 | 80 => 88 | n => n, fun | n => n⟩
theorem Tryz.lays156 : Go.Proofs.Lays.n156 Tryz.prog Tryz.lays156_ren := {
 mixed := by kernel_rfl
 f156 := Tryz.func128.trans (congrArg some (by kernel_rfl))
 f165 := Tryz.func149.trans (congrArg some (by kernel_rfl))
 f166 := Tryz.func38.trans (congrArg some (by kernel_rfl))
 f169 := Tryz.func42.trans (congrArg some (by kernel_rfl))
 f240 := Tryz.func77.trans (congrArg some (by kernel_rfl))
 f241 := Tryz.func164.trans (congrArg some (by kernel_rfl))
 f276 := Tryz.func127.trans (congrArg some (by kernel_rfl))
 f277 := Tryz.func176.trans (congrArg some (by kernel_rfl))
 t0 := Tryz.underlying0
 a0 := Tryz.isAgg0
 z0 := Tryz.sizeOf0
 v0 := Tryz.zeroValue0
 t3 := Tryz.underlying3
 a3 := Tryz.isAgg3
 z3 := Tryz.sizeOf3
 v3 := Tryz.zeroValue3
 t4 := Tryz.underlying4
 a4 := Tryz.isAgg4
 z4 := Tryz.sizeOf4
 v4 := Tryz.zeroValue4
 t9 := Tryz.underlying9
 a9 := Tryz.isAgg9
 z9 := Tryz.sizeOf9
 v9 := Tryz.zeroValue9
 t20 := Tryz.underlying20
 a20 := Tryz.isAgg20
 z20 := Tryz.sizeOf20
 v20 := Tryz.zeroValue20
 t31 := Tryz.underlying122
 a31 := Tryz.isAgg122
 z31 := Tryz.sizeOf122
 v31 := Tryz.zeroValue122
 t37 := Tryz.underlying74
 a37 := Tryz.isAgg74
 z37 := Tryz.sizeOf74
 v37 := Tryz.zeroValue74
 t70 := Tryz.underlying80
 a70 := Tryz.isAgg80
 z70 := Tryz.sizeOf80
 v70 := Tryz.zeroValue80
 t72 := Tryz.underlying82
 a72 := Tryz.isAgg82
 z72 := Tryz.sizeOf82
 v72 := Tryz.zeroValue82
 t75 := Tryz.underlying84
 a75 := Tryz.isAgg84
 z75 := Tryz.sizeOf84
 v75 := Tryz.zeroValue84
 t76 := Tryz.underlying85
 a76 := Tryz.isAgg85
 z76 := Tryz.sizeOf85
 v76 := Tryz.zeroValue85
 t127 := Tryz.underlying124
 a127 := Tryz.isAgg124
 z127 := Tryz.sizeOf124
 v127 := Tryz.zeroValue124
 t164 := Tryz.underlying162
 a164 := Tryz.isAgg162
 z164 := Tryz.sizeOf162
 v164 := Tryz.zeroValue162 }
theorem Tryz.Builder_Extra_156 : Builder.Extra Tryz.prog Tryz.lays156_ren := {
 sizeBuilder := by kernel_rfl
 liesBuilder := by kernel_rfl
 t5 := Tryz.underlying5
 a5 := Tryz.isAgg5
 z5 := Tryz.sizeOf5
 v5 := Tryz.zeroValue5
 infoByte := by kernel_rfl
 cellsByte := by kernel_rfl
 sizeByte := by kernel_rfl
 neB5 := by decide }
open Go.RowKit in
theorem Tryz.strings_Join_none (a : Option Addr) (c : Nat) (sep : ByteArray) (w : World) :
  Calls Tryz.prog 128 #[.slice a 0 c, .string sep] w fun e w' => e = .returned (.string ⟨#[]⟩) ∧ w' = w := Any.strings_Join_none Tryz.lays156 Tryz.Builder_Extra_156 a c sep w
open Go.RowKit in
theorem Tryz.strings_Join (bk o c : Nat) (xs : List ByteArray) (sep : ByteArray) (w : World) (hcells : ∀ (j : Nat) x, xs[j]? = some x → w.cell? ⟨bk, o + j, none⟩ = some (.string x)) (hbk : bk < w.heap.size) (hN : xs.length ≤ 140737488355328) (hcap : xs.length ≤ c) (hlen : (Lib.join (xs.map (·.data.toList)) sep.data.toList).length ≤ 140737488355328) :
  Calls Tryz.prog 128 #[.slice (some ⟨bk, o, none⟩) xs.length c, .string sep] w fun e w' => e = .returned (.string ⟨(Lib.join (xs.map (·.data.toList)) sep.data.toList).toArray⟩) ∧ Below w.heap.size w w' := Any.strings_Join Tryz.lays156 Tryz.Builder_Extra_156 bk o c xs sep w hcells hbk hN hcap hlen
def Tryz.lays283_ren : Go.Shelf.Ren := ⟨fun | 283 => 160 | n => n, fun | 3 => 3 | 9 => 9 | 4 => 4 | n => n, fun | n => n⟩
theorem Tryz.lays283 : Go.Proofs.Lays.n283 Tryz.prog Tryz.lays283_ren := {
 mixed := by kernel_rfl
 f283 := Tryz.func160.trans (congrArg some (by kernel_rfl))
 t3 := Tryz.underlying3
 a3 := Tryz.isAgg3
 z3 := Tryz.sizeOf3
 v3 := Tryz.zeroValue3
 t4 := Tryz.underlying4
 a4 := Tryz.isAgg4
 z4 := Tryz.sizeOf4
 v4 := Tryz.zeroValue4
 t9 := Tryz.underlying9
 a9 := Tryz.isAgg9
 z9 := Tryz.sizeOf9
 v9 := Tryz.zeroValue9 }
open Go.Lib in
theorem Tryz.internal_strconv_small (i : Nat) (h : i < 100) (w : World) :
  Calls Tryz.prog 160 #[.int .i64 i] w fun e w' => e = .returned (.string ⟨(Lib.decDigits i).toArray⟩) ∧ w' = w := Any.internal_strconv_small Tryz.lays283 i h w
def Tryz.laysM173_ren : Go.Shelf.Ren := ⟨fun | 173 => 125 | 246 => 148 | 283 => 160 | 284 => 161 | 285 => 162 | 286 => 163 | 129 => 172 | 317 => 171 | 318 => 173 | 319 => 174 | 320 => 175 | 337 => 183 | 338 => 184 | n => n, fun | 2 => 2 | 3 => 3 | 9 => 9 | 4 => 4 | 171 => 214 | 0 => 0 | 53 => 119 | 37 => 74 | 5 => 5 | 173 => 217 | 212 => 227 | 51 => 228 | 20 => 20 | 213 => 229 | 46 => 223 | 232 => 242 | 233 => 243 | n => n, fun | 17 => 2 | 18 => 4 | 19 => 5 | n => n⟩
theorem Tryz.laysM173 : Go.Proofs.LaysM.n173 Tryz.prog Tryz.laysM173_ren := {
 mixed := by kernel_rfl
 f129 := Tryz.func172.trans (congrArg some (by kernel_rfl))
 f173 := Tryz.func125.trans (congrArg some (by kernel_rfl))
 f246 := Tryz.func148.trans (congrArg some (by kernel_rfl))
 f283 := Tryz.func160.trans (congrArg some (by kernel_rfl))
 f284 := Tryz.func161.trans (congrArg some (by kernel_rfl))
 f285 := Tryz.func162.trans (congrArg some (by kernel_rfl))
 f286 := Tryz.func163.trans (congrArg some (by kernel_rfl))
 f317 := Tryz.func171.trans (congrArg some (by kernel_rfl))
 f318 := Tryz.func173.trans (congrArg some (by kernel_rfl))
 f319 := Tryz.func174.trans (congrArg some (by kernel_rfl))
 f320 := Tryz.func175.trans (congrArg some (by kernel_rfl))
 f337 := Tryz.func183.trans (congrArg some (by kernel_rfl))
 f338 := Tryz.func184.trans (congrArg some (by kernel_rfl))
 t0 := Tryz.underlying0
 a0 := Tryz.isAgg0
 z0 := Tryz.sizeOf0
 v0 := Tryz.zeroValue0
 t2 := Tryz.underlying2
 a2 := Tryz.isAgg2
 z2 := Tryz.sizeOf2
 v2 := Tryz.zeroValue2
 t3 := Tryz.underlying3
 a3 := Tryz.isAgg3
 z3 := Tryz.sizeOf3
 v3 := Tryz.zeroValue3
 t4 := Tryz.underlying4
 a4 := Tryz.isAgg4
 z4 := Tryz.sizeOf4
 v4 := Tryz.zeroValue4
 t5 := Tryz.underlying5
 a5 := Tryz.isAgg5
 z5 := Tryz.sizeOf5
 v5 := Tryz.zeroValue5
 t9 := Tryz.underlying9
 a9 := Tryz.isAgg9
 z9 := Tryz.sizeOf9
 v9 := Tryz.zeroValue9
 t20 := Tryz.underlying20
 a20 := Tryz.isAgg20
 z20 := Tryz.sizeOf20
 v20 := Tryz.zeroValue20
 t37 := Tryz.underlying74
 a37 := Tryz.isAgg74
 z37 := Tryz.sizeOf74
 v37 := Tryz.zeroValue74
 t46 := Tryz.underlying223
 a46 := Tryz.isAgg223
 z46 := Tryz.sizeOf223
 v46 := Tryz.zeroValue223
 t51 := Tryz.underlying228
 a51 := Tryz.isAgg228
 z51 := Tryz.sizeOf228
 v51 := Tryz.zeroValue228
 t53 := Tryz.underlying119
 a53 := Tryz.isAgg119
 z53 := Tryz.sizeOf119
 v53 := Tryz.zeroValue119
 t171 := Tryz.underlying214
 a171 := Tryz.isAgg214
 z171 := Tryz.sizeOf214
 v171 := Tryz.zeroValue214
 t173 := Tryz.underlying217
 a173 := Tryz.isAgg217
 z173 := Tryz.sizeOf217
 v173 := Tryz.zeroValue217
 t212 := Tryz.underlying227
 a212 := Tryz.isAgg227
 z212 := Tryz.sizeOf227
 v212 := Tryz.zeroValue227
 t213 := Tryz.underlying229
 a213 := Tryz.isAgg229
 z213 := Tryz.sizeOf229
 t232 := Tryz.underlying242
 a232 := Tryz.isAgg242
 z232 := Tryz.sizeOf242
 v232 := Tryz.zeroValue242
 t233 := Tryz.underlying243
 a233 := Tryz.isAgg243
 z233 := Tryz.sizeOf243
 v233 := Tryz.zeroValue243
 g17 := by kernel_rfl
 g18 := by kernel_rfl
 g19 := by kernel_rfl
 i0 := by kernel_rfl
 i2 := by kernel_rfl
 i3 := by kernel_rfl
 i4 := by kernel_rfl
 i5 := by kernel_rfl
 i9 := by kernel_rfl
 i20 := by kernel_rfl
 i37 := by kernel_rfl
 i46 := by kernel_rfl
 i51 := by kernel_rfl
 i53 := by kernel_rfl
 i171 := by kernel_rfl
 i173 := by kernel_rfl
 i212 := by kernel_rfl
 i232 := by kernel_rfl
 i233 := by kernel_rfl
 m17 := by kernel_rfl
 m18 := by kernel_rfl
 m19 := by kernel_rfl }
open Go.RowKit Go.Sort Go.Lib in
theorem Tryz.strconv_FormatInt_10 (n : Int) (h0 : -9223372036854775808 ≤ n) (h1 : n ≤ 9223372036854775807) (w : World) (htab : Lib.TabIs Tryz.prog w "internal/strconv.uint64pow10" .u64 Lib.pow10Tab) :
  Calls Tryz.prog 125 #[.int .i64 n, .int .i64 10] w fun e w' => e = .returned (.string ⟨(Lib.itoa n).toArray⟩) ∧ ∃ k os, w' = grow (w.drewN k) os := Any.strconv_FormatInt_10 Tryz.laysM173 n h0 h1 w htab
end Go.Proofs

namespace Go.Proofs.YtgdcgjlmkmdklaaGreatDoor
open Go.ChangeShapes Go.WideShapes Go.ChangeAt Go.RowKit
set_option linter.unusedVariables false
set_option linter.unusedSimpArgs false
structure StL (w : World) (v : Value) (xs : List ByteArray) : Prop where
 ex : ∃ a c, v = .slice a xs.length c ∧ xs.length ≤ c ∧ (xs = [] ∨ ∃ b o, a = some ⟨b, o, none⟩ ∧ b < w.heap.size ∧ ∀ j x, xs[j]? = some x → At w b (o + j) (.string x))
theorem StL.keep {w w' : World} {v : Value} {xs : List ByteArray} (h : StL w v xs) (hb : Below w.heap.size w w') : StL w' v xs := by
 obtain ⟨a, c, rfl, hc, h0 | ⟨b, o, rfl, hl, q⟩⟩ := h.ex
 ·exact ⟨_, _, rfl, hc, .inl h0⟩
 ·exact ⟨_, _, rfl, hc, .inr ⟨b, o, rfl, Nat.lt_of_lt_of_le hl hb.size, fun j x hj => at_keep (q j x hj) hb⟩⟩
structure OwnT (w : World) (base : Nat) (v : Value) (xs : List ByteArray) : Prop where
 r : w.ownsRow base 9 1 v xs.length (xs.map Value.string)
theorem OwnT.read {w : World} {base : Nat} {v : Value} {xs : List ByteArray} (h : OwnT w base v xs) : StL w v xs := by
 obtain ⟨hl, h0 | ⟨g, cap, cur, rfl, hb, hg, h1, h2, h3, h4⟩⟩ := h.r
 ·obtain ⟨rfl, h0⟩ := h0
  obtain rfl : xs = [] := List.length_eq_zero_iff.1 h0
  exact ⟨none, 0, rfl, Nat.le_refl _, .inl rfl⟩
 ·refine ⟨_, _, rfl, h1, .inr ⟨g, 0, rfl, (Array.getElem?_eq_some_iff.1 hg).1, fun j x hj => at_cells hg ?_⟩⟩
  obtain ⟨hlt, rfl⟩ := List.getElem?_eq_some_iff.1 hj
  have : (cur.toList.take (xs.length * 1))[j]? = some (.string xs[j]) := by rw [h4]; simp [hlt]
  exact tl98
theorem OwnT.keep {w w' : World} {base : Nat} {v : Value} {xs : List ByteArray} (h : OwnT w base v xs) (hb : Below w.heap.size w w') : OwnT w' base v xs := by
 refine ⟨h.r.1, ?_⟩
 rcases h.r.2 with h0 | ⟨g, cap, cur, rfl, hb1, hg, rest⟩
 ·exact .inl h0
 ·exact .inr ⟨g, cap, cur, rfl, hb1, (hb.block g (Array.getElem?_eq_some_iff.1 hg).1).trans hg, rest⟩
theorem OwnT.shape {w : World} {base : Nat} {v : Value} {xs : List ByteArray} (h : OwnT w base v xs) : ∃ a c, v = .slice a xs.length c := by
 obtain ⟨hl, h0 | ⟨g, cap, cur, rfl, hb, hg, h1, h2, h3, h4⟩⟩ := h.r
 ·obtain ⟨rfl, h0⟩ := h0
  exact ⟨none, 0, by rw [← h0]⟩
 ·exact ⟨_, _, rfl⟩
theorem one_str {t : ByteArray} : ∀ u ∈ [Value.string t], u.oneCell' = true := fun u hu => by
 obtain rfl : u = .string t := by simpa using hu
 rfl
theorem infoT : (Tryz.prog.info? 9).map (fun i => (i.zero, i.size, i.bytes)) = some (some (.string ⟨#[]⟩), 1, 16) := by kernel_rfl
def jn (xs : List ByteArray) (sep : ByteArray) : ByteArray := ⟨(Lib.join (xs.map (·.data.toList)) sep.data.toList).toArray⟩
def full (xs : List ByteArray) : List ByteArray := xs.filter fun x => decide (x ≠ ⟨#[]⟩)
theorem ne_str {x : ByteArray} (h : ¬ x = ⟨#[]⟩) : x.toList.isEmpty = false := by
 rw [ByteArray.toList_eq]
 obtain ⟨⟨l⟩⟩ := x
 cases l with
 | nil => exact absurd rfl h
 | cons => rfl
theorem full_len (xs : List ByteArray) : (full xs).length ≤ xs.length := List.length_filter_le _ _
theorem full_take (xs : List ByteArray) (i : Nat) (hi : i < xs.length) : full (xs.take (i + 1)) = full (xs.take i) ++ (if xs[i] = ⟨#[]⟩ then [] else [xs[i]]) := by
 unfold full
 rw [List.take_succ_eq_append_getElem hi, List.filter_append]
 by_cases h : xs[i] = ⟨#[]⟩
 ·simp [h]
 ·simp [h]
set_option maxRecDepth 100000 in
theorem joinI (v : Value) (xs : List ByteArray) (sep : ByteArray) (w : World) (h : StL w v xs) (hn : xs.length ≤ 1048576) (hj : (jn xs sep).size ≤ 140737488355328) :
  Calls Tryz.prog 128 #[v, .string sep] w fun e w' => e = .returned (.string (jn xs sep)) ∧ Below w.heap.size w w' := by
 obtain ⟨a, c, rfl, hc, h0 | ⟨b, o, rfl, hl, q⟩⟩ := h.ex
 ·subst h0
  refine (Tryz.strings_Join_none a c sep w).mono ?_
  rintro e w' ⟨rfl, rfl⟩
  exact ⟨rfl, Below.refl _ _⟩
 ·exact Tryz.strings_Join b o c xs sep w (fun j x hj => q j x hj) hl (by omega) hc (by simpa [jn, ByteArray.size] using hj)
set_option maxRecDepth 100000 in
theorem listedI (v : Value) (xs : List ByteArray) (w : World) (h : StL w v xs) (hn : xs.length ≤ 1048576) (hj : (jn xs ⟨#[44, 32]⟩).size ≤ 140737488355328) :
  Calls Tryz.prog 81 #[v] w fun e w' => e = .returned (.string (jn xs ⟨#[44, 32]⟩)) ∧ Below w.heap.size w w' := by
 have C := Kp.mk (joinI v xs ⟨#[44, 32]⟩ w h hn hj)
 clear h
 go_enter Tryz.func81, Tryz.ntmps81
 go_wp2_with fail
 refine C.out.mono ?_
 rintro e w1 ⟨rfl, hb⟩
 go_wp2_with fail
 go_ret
 exact ⟨rfl, hb⟩
set_option maxRecDepth 100000 in
set_option maxHeartbeats 1000000 in
theorem spacedI (v : Value) (xs : List ByteArray) (w : World) (h : StL w v xs) (hn : xs.length ≤ 1048576) (hj : (jn (full xs) ⟨#[32]⟩).size ≤ 140737488355328) :
  Calls Tryz.prog 78 #[v] w fun e w' => e = .returned (.string (jn (full xs) ⟨#[32]⟩)) ∧ Below w.heap.size w w' := by
 obtain ⟨a, c, rfl, hc, hq⟩ := h.ex
 obtain ⟨i0, hi0, hz0, hz1, hz2⟩ := info_parts infoT
 have CJ : Kp (∀ W v', StL W v' (full xs) → Calls Tryz.prog 128 #[v', .string ⟨#[32]⟩] W fun e w' => e = .returned (.string (jn (full xs) ⟨#[32]⟩)) ∧ Below W.heap.size W w') := ⟨fun W v' hv => joinI v' (full xs) _ W hv (by have := full_len xs; omega) hj⟩
 have FT := Kp.mk (full_take xs)
 have FL : Kp (∀ i, (full (xs.take i)).length ≤ i) := ⟨fun i => by have := full_len (xs.take i); have := List.length_take_le i xs; omega⟩
 have hcell : Kp (∀ i, (hi : i < xs.length) → ∃ b o, a = some ⟨b, o, none⟩ ∧ b < w.heap.size ∧ At w b (o + i) (.string xs[i])) := ⟨fun i hi => by
  rcases hq with rfl | ⟨b, o, rfl, hl, q⟩
  ·cases hi
  ·exact ⟨b, o, rfl, hl, q i _ (List.getElem?_eq_getElem hi)⟩⟩
 clear h hq hj
 replace hc := Kp.mk hc
 go_enter Tryz.func78, Tryz.ntmps78
 go_wp2_with fail
 go_loopw [3, 8] (fun s r wr => ∃ i : Nat, r = .int .i64 i ∧ i ≤ xs.length ∧ OwnT wr w.heap.size s (full (xs.take i)) ∧ w.heap.size ≤ wr.heap.size ∧ Below w.heap.size w wr) (fun _ r _ => xs.length - (intOf r).toNat)
 case atStart => exact ⟨0, rfl, Nat.zero_le _, ⟨by simpa [full] using World.ownsRow_nil _ _ _ _⟩, Nat.le_refl _, Below.refl _ _⟩
 case round =>
  obtain ⟨i, rfl, hi, hrow, hsz, hB⟩ := hrel
  by_cases hlt : i < xs.length
  ·obtain ⟨b, o, rfl, hbl, hat⟩ := hcell.out i hlt
   have hat2 := at_keep hat hB
   have ft := FT.out i hlt
   have fl := FL.out i
   obtain ⟨a3, c3, rfl⟩ := hrow.shape
   have hrow2 := hrow.r
   by_cases he : xs[i] = ⟨#[]⟩
   ·rw [if_pos he, List.append_nil] at ft
    rw [he] at hat2
    rw [← ft] at hrow
    clear hcell hat hrow2
    go_wp2_with fail
    exact ⟨⟨i + 1, by go_num, by omega, by rw [← ft]; exact hrow, hsz, hB⟩, by simp [intOf]; omega⟩
   ·rw [if_neg he] at ft
    have hne := ne_str he
    have hrow3 := Kp.mk hrow2
    have hB3 := Kp.mk hB
    clear hcell hat hrow hrow2 hB
    go_wp2_with (first
     | (at_builtin; refine wpList_append_vals _ rfl _ _ 122 rfl w.heap.size 9 i0 (.string ⟨#[]⟩) 1 16 Tryz.underlying122 hi0 hz0 hz1 hz2 rfl (by decide) _ _ _ rfl (hrow3.out.alloc _) (some ⟨wr.heap.size, 0, none⟩) wr.heap.size 0 1 1 [.string xs[i]] rfl (fun _ => rfl) rfl (one_new wr _ _) one_str (by unfold maxLen; omega) (by omega) (by simp; omega) ?_; intro v3 w3 hown3 hgrow3)
     | go_in)
    have hB4 := own_bel (hB3.out.alloc hsz _) (hrow3.out.alloc _) hgrow3 (by simp; omega)
    have hsz3 : w.heap.size ≤ w3.heap.size := by have := hgrow3.size; simp at this; omega
    have hrow4 : OwnT w3 w.heap.size v3 (full (xs.take (i + 1))) := by rw [ft]; exact ⟨by simpa using hown3⟩
    clear hrow3 hB3 hown3 hgrow3
    go_wp2_with fail
    exact ⟨⟨i + 1, by go_num, by omega, hrow4, hsz3, hB4⟩, by simp [intOf]; omega⟩
  ·obtain rfl : i = xs.length := by omega
   rw [List.take_length] at hrow
   have hrow' := hrow.read
   have C := Kp.mk (CJ.out wr _ hrow')
   obtain ⟨a3, c3, rfl⟩ := hrow.shape
   clear hcell hrow' hrow CJ FT FL
   go_wp2_with fail
   refine C.out.mono ?_
   rintro e w1 ⟨rfl, hb⟩
   go_wp2_with fail
   go_ret
   exact ⟨rfl, bel_trans hB hb⟩
end Go.Proofs.YtgdcgjlmkmdklaaGreatDoor

namespace Go.Proofs.YtgdcgjlmkmdklaaGreatDoor
open Go.ChangeShapes Go.WideShapes Go.ChangeAt Go.RowKit Go.Maps
set_option linter.unusedVariables false
set_option linter.unusedSimpArgs false
structure Nmg (w : World) (L : List (ByteArray × Int)) (b : Nat) : Prop where
 ex : ∃ n D, w.ownsMap (H := Unit) Tryz.prog 2 spellElem b n D ∧ Full (H := Unit) L D
theorem Nmg.keep {w w' : World} {L : List (ByteArray × Int)} {b : Nat} (h : Nmg w L b) (hb : Below w.heap.size w w') : Nmg w' L b := by
 obtain ⟨n, D, ⟨es, clock, h3, r⟩, hF⟩ := h.ex
 exact ⟨n, D, ⟨es, clock, (hb.block b (Array.getElem?_eq_some_iff.1 h3).1).trans h3, r⟩, hF⟩
theorem Nmg.set {w : World} {L : List (ByteArray × Int)} {b C : Nat} (h : Nmg w L b) (hb : b ≠ C) (k : Nat) (v : Value) : Nmg (w.setCell ⟨C, k, none⟩ v) L b := by
 obtain ⟨n, D, h, hF⟩ := h.ex
 exact ⟨n, D, h.setCell (a := ⟨C, k, none⟩) hb v, hF⟩
def sets (W : World) (C : Nat) : Nat → List Value → World
 | _, [] => W
 | i, v :: r => sets (W.setCell ⟨C, i, none⟩ v) C (i + 1) r
theorem sets_old {C n : Nat} : ∀ (l : List Value) (W : World) (i j : Nat) (v : Value), Rw W C n → j < i → At W C j v → At (sets W C i l) C j v
 | [], _, _, _, _, _, _, h => h
 | v :: r, W, i, j, _, hr, hj, h => sets_old r _ _ _ _ (hr.set _ _) (by omega) (set_other h (.inr (by omega)))
theorem sets_at {C n : Nat} : ∀ (l : List Value) (W : World) (i : Nat), Rw W C n → i + l.length ≤ n → ∀ j (hj : j < l.length), At (sets W C i l) C (i + j) l[j]
 | [], _, _, _, _, j, hj => by simp at hj
 | v :: r, W, i, hr, hl, j, hj => by
  cases j with
  | zero => exact sets_old r _ _ _ _ (hr.set _ _) (by omega) (set_same hr (by simp at hl; omega) v)
  | succ j => 
   have := sets_at r (W.setCell ⟨C, i, none⟩ v) (i + 1) (hr.set _ _) (by simp at hl; omega) j (by simpa using hj)
   rw [show i + (j + 1) = i + 1 + j by omega]
   exact this
theorem sets_bel {C H : Nat} {w : World} (hC : H ≤ C) : ∀ (l : List Value) (W : World) (i : Nat), Below H w W → Below H w (sets W C i l)
 | [], _, _, h => h
 | v :: r, W, i, h => sets_bel hC r _ _ (h.setCell (p := ⟨C, i, none⟩) hC v)
theorem Nmg.sets {L : List (ByteArray × Int)} {b C : Nat} (hb : b ≠ C) : ∀ (l : List Value) (W : World) (i : Nat), Nmg W L b → Nmg (sets W C i l) L b
 | [], _, _, h => h
 | v :: r, W, i, h => Nmg.sets hb r _ _ (h.set hb i v)
theorem rw_lst {W : World} {C : Nat} {xs : List Value} {T : TypeId} (h : W.heap[C]? = some (Go.Obj.cells ⟨xs⟩ T (0, 0))) : Rw W C xs.length :=
 ⟨T, fun j => xs.getD j undef, ⟨xs⟩, h, by simp, fun i hi => by simp [hi]⟩
structure Voc (w : World) (vs : List Value) : Prop where
 ex : ∃ a1 b1 a2 b2 a3 b3 a4 b4 a5 b5, vs = [.map (some a1), .map (some b1), .map (some a2), .map (some b2), .map (some a3), .map (some b3), .map (some a4), .map (some b4), .map (some a5), .map (some b5)] ∧
  Nmg w typesL b1 ∧ Nmg w opsL b2 ∧ Nmg w predsL b3 ∧ Nmg w linksL b4 ∧ Nmg w flagsL b5
theorem Voc.keep {w w' : World} {vs : List Value} (h : Voc w vs) (hb : Below w.heap.size w w') : Voc w' vs := by
 obtain ⟨a1, b1, a2, b2, a3, b3, a4, b4, a5, b5, e, h1, h2, h3, h4, h5⟩ := h.ex
 exact ⟨a1, b1, a2, b2, a3, b3, a4, b4, a5, b5, e, h1.keep hb, h2.keep hb, h3.keep hb, h4.keep hb, h5.keep hb⟩
set_option maxRecDepth 100000 in
set_option maxHeartbeats 1000000 in
theorem vocI (w : World) :
  Calls Tryz.prog 32 #[] w fun e w' => ∃ vs, e = .returned (.agg ⟨vs⟩) ∧ Voc w' vs ∧ Below w.heap.size w w' := by
 have C1 := Kp.mk (fun W => typeNaming_c (H := Unit) W)
 have C2 := Kp.mk (fun W => opNaming_c (H := Unit) W)
 have C3 := Kp.mk (fun W => predNaming_c (H := Unit) W)
 have C4 := Kp.mk (fun W => linkNaming_c (H := Unit) W)
 have C5 := Kp.mk (fun W => flagNaming_c (H := Unit) W)
 go_enter Tryz.func32, Tryz.ntmps32
 go_wp2_with fail
 refine (C1.out _).mono ?_
 rintro e w1 ⟨a1, -, b1, n1, D1, rfl, -, hN1, hF1, -, -, B1⟩
 go_wp2_with fail
 refine (C2.out _).mono ?_
 rintro e w2 ⟨a2, -, b2, n2, D2, rfl, -, hN2, hF2, -, -, B2⟩
 go_wp2_with fail
 refine (C3.out _).mono ?_
 rintro e w3 ⟨a3, -, b3, n3, D3, rfl, -, hN3, hF3, -, -, B3⟩
 go_wp2_with fail
 refine (C4.out _).mono ?_
 rintro e w4 ⟨a4, -, b4, n4, D4, rfl, -, hN4, hF4, -, -, B4⟩
 go_wp2_with fail
 refine (C5.out _).mono ?_
 rintro e w5 ⟨a5, -, b5, n5, D5, rfl, -, hN5, hF5, -, -, B5⟩
 have hr : w5.heap[w.heap.size]? = some (Go.Obj.cells #[Go.Value.map none, Go.Value.map none, Go.Value.map none, Go.Value.map none, Go.Value.map none, Go.Value.map none, Go.Value.map none, Go.Value.map none, Go.Value.map none, Go.Value.map none] 65 (0, 0)) := by
  have q := (MapKept.heap_alloc w (Go.Obj.cells #[Go.Value.map none, Go.Value.map none, Go.Value.map none, Go.Value.map none, Go.Value.map none, Go.Value.map none, Go.Value.map none, Go.Value.map none, Go.Value.map none, Go.Value.map none] 65)).1
  have l : w.heap.size < (w.alloc (Go.Obj.cells #[Go.Value.map none, Go.Value.map none, Go.Value.map none, Go.Value.map none, Go.Value.map none, Go.Value.map none, Go.Value.map none, Go.Value.map none, Go.Value.map none, Go.Value.map none] 65)).heap.size := by simp
  rw [B5.block _ (by have := B1.size; have := B2.size; have := B3.size; have := B4.size; omega), B4.block _ (by have := B1.size; have := B2.size; have := B3.size; omega), B3.block _ (by have := B1.size; have := B2.size; omega), B2.block _ (by have := B1.size; omega), B1.block _ l]
  exact q
 have B0 : Below w.heap.size w w5 := (((((bel_alloc w _).trans (B1.mono (by simp))).trans (B2.mono (by have := B1.size; simp at this; omega))).trans (B3.mono (by have := B1.size; have := B2.size; simp at *; omega))).trans (B4.mono (by have := B1.size; have := B2.size; have := B3.size; simp at *; omega))).trans (B5.mono (by have := B1.size; have := B2.size; have := B3.size; have := B4.size; simp at *; omega))
 have R : Rw w5 w.heap.size 10 := rw_lst hr
 have hne : ∀ b L, Nmg w5 L b → b ≠ w.heap.size := fun b L h e => by
  exact tl128
 have N1 := ((((⟨n1, D1, hN1, hF1⟩ : Nmg w1 typesL b1).keep B2).keep B3).keep B4).keep B5
 have N2 := (((⟨n2, D2, hN2, hF2⟩ : Nmg w2 opsL b2).keep B3).keep B4).keep B5
 have N3 := ((⟨n3, D3, hN3, hF3⟩ : Nmg w3 predsL b3).keep B4).keep B5
 have N4 := (⟨n4, D4, hN4, hF4⟩ : Nmg w4 linksL b4).keep B5
 have N5 : Nmg w5 flagsL b5 := ⟨n5, D5, hN5, hF5⟩
 obtain ⟨l, hl⟩ : ∃ l : List Value, l = [.map (some a1), .map (some b1), .map (some a2), .map (some b2), .map (some a3), .map (some b3), .map (some a4), .map (some b4), .map (some a5), .map (some b5)] := ⟨_, rfl⟩
 have V : Kp (Voc (sets w5 w.heap.size 0 l) l) := ⟨⟨a1, b1, a2, b2, a3, b3, a4, b4, a5, b5, hl, N1.sets (hne _ _ N1) _ _ _, N2.sets (hne _ _ N2) _ _ _, N3.sets (hne _ _ N3) _ _ _, N4.sets (hne _ _ N4) _ _ _, N5.sets (hne _ _ N5) _ _ _⟩⟩
 have BL := Kp.mk (sets_bel (Nat.le_refl _) l w5 0 B0)
 have AT := sets_at l w5 0 R (by rw [hl]; simp)
 have fz := rw_cells hr
 subst hl
 have q0 := AT 0 (by simp)
 have q1 := AT 1 (by simp)
 have q2 := AT 2 (by simp)
 have q3 := AT 3 (by simp)
 have q4 := AT 4 (by simp)
 have q5 := AT 5 (by simp)
 have q6 := AT 6 (by simp)
 have q7 := AT 7 (by simp)
 have q8 := AT 8 (by simp)
 have q9 := AT 9 (by simp)
 have z0 : At w5 w.heap.size 0 _ := at_cells hr rfl
 have z1 : At w5 w.heap.size 1 _ := at_cells hr rfl
 have z2 : At w5 w.heap.size 2 _ := at_cells hr rfl
 have z3 : At w5 w.heap.size 3 _ := at_cells hr rfl
 have z4 : At w5 w.heap.size 4 _ := at_cells hr rfl
 have z5 : At w5 w.heap.size 5 _ := at_cells hr rfl
 have z6 : At w5 w.heap.size 6 _ := at_cells hr rfl
 have z7 : At w5 w.heap.size 7 _ := at_cells hr rfl
 have z8 : At w5 w.heap.size 8 _ := at_cells hr rfl
 have z9 : At w5 w.heap.size 9 _ := at_cells hr rfl
 clear N1 N2 N3 N4 N5 hne AT R B0 B1 B2 B3 B4 B5 hN1 hN2 hN3 hN4 hN5 hF1 hF2 hF3 hF4 hF5 C1 C2 C3 C4 C5 hr
 simp only [sets, List.getElem_cons_zero, List.getElem_cons_succ, Nat.zero_add] at V BL q0 q1 q2 q3 q4 q5 q6 q7 q8 q9
 go_wp2_with fail
 generalize ((((((((((w5.setCell ⟨w.heap.size, 0, none⟩ (.map (some a1))).setCell ⟨w.heap.size, 1, none⟩ (.map (some b1))).setCell ⟨w.heap.size, 2, none⟩ (.map (some a2))).setCell ⟨w.heap.size, 3, none⟩ (.map (some b2))).setCell ⟨w.heap.size, 4, none⟩ (.map (some a3))).setCell ⟨w.heap.size, 5, none⟩ (.map (some b3))).setCell ⟨w.heap.size, 6, none⟩ (.map (some a4))).setCell ⟨w.heap.size, 7, none⟩ (.map (some b4))).setCell ⟨w.heap.size, 8, none⟩ (.map (some a5))).setCell ⟨w.heap.size, 9, none⟩ (.map (some b5))) = Y at *
 refine bodyPost_ret (v := .agg #[.map (some a1), .map (some b1), .map (some a2), .map (some b2), .map (some a3), .map (some b3), .map (some a4), .map (some b4), .map (some a5), .map (some b5)]) ?_ rfl ⟨_, rfl, V.out, BL.out⟩
 simp [results, Tryz.results32, go_sem, q0, q1, q2, q3, q4, q5, q6, q7, q8, q9]
end Go.Proofs.YtgdcgjlmkmdklaaGreatDoor

namespace Go.Proofs.YtgdcgjlmkmdklaaGreatDoor
open Go.Lib
theorem dig_byte {u : Nat} (h : u < 10) : (UInt8.ofNat (48 + u)).toNat = 48 + u := by
 simp; omega
theorem parse_dec (u : Nat) : ∀ r : List UInt8, u < 18446744073709551616 → parseUint10 0 (decDigits u ++ r) = parseUint10 u r := by
 induction u using Nat.strongRecOn with
 | _ u ih =>
  intro r hu
  by_cases h : u < 10
  ·rw [decDigits, dif_pos h]
   show parseUint10 0 (UInt8.ofNat (48 + u) :: r) = _
   rw [parseUint10, dig_byte h, if_pos (by omega), if_neg (by omega), if_neg (by omega)]
   rw [show 0 * 10 + (48 + u - 48) = u by omega]
  ·rw [decDigits, dif_neg h, List.append_assoc, ih (u / 10) (by omega) _ (by omega)]
   show parseUint10 (u / 10) (UInt8.ofNat (48 + u % 10) :: r) = _
   rw [parseUint10, dig_byte (by omega), if_pos (by omega), if_neg (by omega), if_neg (by omega)]
   rw [show u / 10 * 10 + (48 + u % 10 - 48) = u by omega]
theorem dec_head (u : Nat) : ∃ c r, decDigits u = c :: r ∧ 48 ≤ c.toNat ∧ c.toNat ≤ 57 := by
 induction u using Nat.strongRecOn with
 | _ u ih =>
  by_cases h : u < 10
  ·rw [decDigits, dif_pos h]
   exact ⟨_, _, rfl, by rw [dig_byte h]; omega, by rw [dig_byte h]; omega⟩
  ·obtain ⟨c, r, e, h1, h2⟩ := ih (u / 10) (by omega)
   rw [decDigits, dif_neg h, e]
   exact ⟨c, _, rfl, h1, h2⟩
theorem parseMag_dec (u : Nat) (h : u < 18446744073709551616) : parseMag (decDigits u) = .ok u := by
 obtain ⟨c, r, e, _, _⟩ := dec_head u
 have p := parse_dec u [] h
 rw [List.append_nil] at p
 rw [parseMag, if_neg (by rw [e]; simp), p, parseUint10]
theorem atoi_itoa (n : Int) (h0 : -9223372036854775808 ≤ n) (h1 : n ≤ 9223372036854775807) : atoiAll (itoa n) = .ok n := by
 unfold itoa
 by_cases h : n < 0
 ·rw [if_pos h]
  have p := parseMag_dec n.natAbs (by omega)
  simp only [atoiAll]
  rw [show (45 : UInt8).toNat = 45 by rfl, if_pos (by omega), p]
  simp only
  rw [if_neg (by simp), if_neg (by rintro ⟨_, q⟩; omega), if_pos trivial]
  congr 1; omega
 ·rw [if_neg h]
  have p := parseMag_dec n.toNat (by omega)
  obtain ⟨c, r, e, g1, g2⟩ := dec_head n.toNat
  rw [e] at p ⊢
  simp only [atoiAll]
  rw [if_neg (by omega), p]
  simp only
  rw [if_neg (by omega), if_neg (by omega), if_neg (by omega)]
  congr 1; omega
def addUp (v : Int) : List UInt8 → Int
 | [] => v
 | c :: r => addUp (if c.toNat = 45 then v else (v * 10 + (c.toNat : Int) - 48) % 18446744073709551616) r
theorem addUp_append (v : Int) (a b : List UInt8) : addUp v (a ++ b) = addUp (addUp v a) b := by
 induction a generalizing v with
 | nil => rfl
 | cons c r ih => exact ih _
theorem addUp_bd (l : List UInt8) : ∀ v, 0 ≤ v → v ≤ 18446744073709551615 → 0 ≤ addUp v l ∧ addUp v l ≤ 18446744073709551615 := by
 induction l with
 | nil => intro v h0 h1; exact ⟨h0, h1⟩
 | cons c r ih =>
  intro v h0 h1
  refine ih _ ?_ ?_ <;> split <;> omega
theorem addUp_dec (u : Nat) : ∀ r : List UInt8, addUp 0 (decDigits u ++ r) = addUp ((u : Int) % 18446744073709551616) r := by
 induction u using Nat.strongRecOn with
 | _ u ih =>
  intro r
  by_cases h : u < 10
  ·rw [decDigits, dif_pos h]
   show addUp 0 (UInt8.ofNat (48 + u) :: r) = _
   rw [addUp, dig_byte h, if_neg (by omega)]
   congr 1; omega
  ·rw [decDigits, dif_neg h, List.append_assoc, ih (u / 10) (by omega) _]
   show addUp _ (UInt8.ofNat (48 + u % 10) :: r) = _
   rw [addUp, dig_byte (by omega), if_neg (by omega)]
   congr 1; omega
def readUp (l : List UInt8) : Int := if l.head?.map (·.toNat) = some 45 then (- addUp 0 l) % 18446744073709551616 else addUp 0 l
theorem readUp_itoa (n : Int) : readUp (itoa n) = n % 18446744073709551616 := by
 unfold itoa
 by_cases h : n < 0
 ·rw [if_pos h]
  have p := addUp_dec n.natAbs []
  rw [List.append_nil] at p
  unfold readUp
  rw [if_pos (by rfl), addUp, if_pos (by rfl), p]
  simp only [addUp]
  omega
 ·rw [if_neg h]
  have p := addUp_dec n.toNat []
  rw [List.append_nil] at p
  obtain ⟨c, r, e, g1, g2⟩ := dec_head n.toNat
  unfold readUp
  rw [if_neg (by rw [e]; simp; omega), p]
  simp only [addUp]
  omega
theorem atoi_bounds {l : List UInt8} {n : Int} (h : atoiAll l = .ok n) : -9223372036854775808 ≤ n ∧ n ≤ 9223372036854775807 := by
 cases l with
 | nil => simp [atoiAll] at h
 | cons c r =>
  simp only [atoiAll] at h
  split at h
  ·cases h
  ·cases h
  ·split at h
   ·cases h
   ·split at h
    ·cases h
    ·injection h with h
     split at h <;> omega
theorem atoi_ne_nil {l : List UInt8} {n : Int} (h : atoiAll l = .ok n) : l ≠ [] := by
 rintro rfl; simp [atoiAll] at h
theorem itoa_ne_nil (n : Int) : itoa n ≠ [] := by
 unfold itoa
 split
 ·simp
 ·obtain ⟨c, r, e, _, _⟩ := dec_head n.toNat
  rw [e]; simp
end Go.Proofs.YtgdcgjlmkmdklaaGreatDoor

namespace Go.Proofs.YtgdcgjlmkmdklaaGreatDoor
open Go.ChangeShapes Go.WideShapes Go.ChangeAt Go.RowKit
open Go.Lib
set_option linter.unusedVariables false
set_option linter.unusedSimpArgs false
theorem below_grow (w : World) (d : Nat) (os : Array Obj) : Below w.heap.size w (Sort.grow (w.drewN d) os) :=
 ⟨rfl, rfl, rfl, by simp [Sort.grow, World.drewN], fun k hk => by simp [Sort.grow, World.drewN, Array.getElem?_append, hk]⟩
def dgc (n : Nat) : UInt8 := UInt8.ofNat (48 + n)
theorem conv_one (W : World) (b : Nat) (z : Int) (h : W.cell? ⟨b, 0, none⟩ = some (.int .u8 z)) :
  (convert 74 9 (.slice (some ⟨b, 0, none⟩) 1 1)).run Tryz.prog W = .ok (.string ⟨#[UInt8.ofNat z.toNat]⟩) W := by
 have k := run_convert_bytes_arg (P := Tryz.prog) W 74 5 Tryz.underlying74 Tryz.underlying5 b 0 1 1 [z] rfl (fun i hi => by
  obtain rfl : i = 0 := by omega
  simpa using h) 9 Tryz.underlying9
 simpa [strOfNums] using k
set_option maxRecDepth 100000 in
set_option maxHeartbeats 1000000 in
theorem decS_small (v : Int) (w : World) (h0 : 0 ≤ v) (h : v < 10) :
  Calls Tryz.prog 75 #[.int .u64 v] w fun e w' => e = .returned (.string ⟨(decDigits v.toNat).toArray⟩) ∧ Below w.heap.size w w' := by
 have hd : Hid (decDigits v.toNat = [dgc v.toNat]) := show decDigits v.toNat = [dgc v.toNat] by rw [decDigits, dif_pos (by omega)]; rfl
 have k := conv_one (w.alloc (Obj.cells #[Value.int IntKind.u8 (48 + v)] 5)) w.heap.size (48 + v) (by simp)
 have e : UInt8.ofNat (48 + v).toNat = dgc v.toNat := by unfold dgc; congr 1; omega
 rw [e] at k
 clear e
 go_enter Tryz.func75, Tryz.ntmps75
 go_wp2
 go_ret
 exact ⟨by rw [hd.out]; rfl, bel_alloc _ _⟩
theorem cell_after {W w1 : World} {b : Nat} {v : Value} (hb : Below W.heap.size W w1) (h : W.cell? ⟨b, 0, none⟩ = some v) : w1.cell? ⟨b, 0, none⟩ = some v := by
 have lt : b < W.heap.size := lt_of_cell h
 rw [hb.cell (p := ⟨b, 0, none⟩) lt]; exact h
theorem cell_new1 (w : World) (z : Int) : ((w.alloc (Obj.cells #[Value.int IntKind.u8 z] 5)).drew).cell? ⟨w.heap.size, 0, none⟩ = some (.int .u8 z) := by simp [go_sem]
theorem ba_app (a : List UInt8) (c : UInt8) : ((⟨a.toArray⟩ : ByteArray) ++ ⟨#[c]⟩) = ⟨(a ++ [c]).toArray⟩ := by
 apply ByteArray.ext
 simp
theorem ba_cons (a : List UInt8) (c : UInt8) : ((⟨#[c]⟩ : ByteArray) ++ ⟨a.toArray⟩) = ⟨(c :: a).toArray⟩ := by
 apply ByteArray.ext
 simp
theorem digit_u8 (v : Int) (h0 : 0 ≤ v) : UInt8.ofNat (IntKind.u8.wrap (IntKind.u64.wrap (48 + v.tmod 10))).toNat = dgc (v.toNat % 10) := by
 unfold dgc
 rw [Int.tmod_eq_emod_of_nonneg h0, IntKind.wrap_u64, IntKind.wrap_u8]
 congr 1; omega
set_option maxRecDepth 100000 in
set_option maxHeartbeats 1000000 in
theorem decS_big (v : Int) (w : World) (h0 : 0 ≤ v) (h : 10 ≤ v) (h1 : v ≤ 18446744073709551615) (l : List UInt8) (hl : l.length ≤ 100)
  (ih : ∀ w, Calls Tryz.prog 75 #[.int .u64 (IntKind.u64.wrap (v.tdiv 10))] w fun e w' => e = .returned (.string ⟨l.toArray⟩) ∧ Below w.heap.size w w') :
  Calls Tryz.prog 75 #[.int .u64 v] w fun e w' => e = .returned (.string ⟨(l ++ [dgc (v.toNat % 10)]).toArray⟩) ∧ Below w.heap.size w w' := by
 have IH : Hid (∀ w, Calls Tryz.prog 75 #[.int .u64 (IntKind.u64.wrap (v.tdiv 10))] w fun e w' => e = .returned (.string ⟨l.toArray⟩) ∧ Below w.heap.size w w') := ih
 clear ih
 have D := digit_u8 v h0
 have K : ∀ (W : World) (b : Nat), W.cell? ⟨b, 0, none⟩ = some (.int .u8 (IntKind.u8.wrap (IntKind.u64.wrap (48 + v.tmod 10)))) → (convert 74 9 (.slice (some ⟨b, 0, none⟩) 1 1)).run Tryz.prog W = .ok (.string ⟨#[dgc (v.toNat % 10)]⟩) W := fun W b hh => by
  rw [conv_one W b _ hh, D]
 clear D
 go_enter Tryz.func75, Tryz.ntmps75
 go_wp2_with fail
 go_region_with (go_at_call 75; refine (IH.out _).mono ?_; rintro e w1 ⟨rfl, hb1⟩; first | (have c2 := cell_after hb1 (cell_new1 w (IntKind.u8.wrap (IntKind.u64.wrap (48 + v.tmod 10))))) | skip)
 all_goals
  go_wp2_with fail
  go_ret
  refine ⟨by rw [ba_app]; rfl, ?_⟩
  first | exact (bel_trans (Below.refl _ _).drew hb1).alloc hb1.size _ | exact bel_trans ((Below.refl _ _).alloc (Nat.le_refl _) _).drew hb1
theorem dec_spec_n (n : Nat) : ∀ (v : Int) (w : World), v.toNat = n → 0 ≤ v → v ≤ 18446744073709551615 →
  Calls Tryz.prog 75 #[.int .u64 v] w fun e w' => e = .returned (.string ⟨(decDigits v.toNat).toArray⟩) ∧ Below w.heap.size w w' := by
 induction n using Nat.strongRecOn with
 | _ n ih =>
  intro v w hn h0 h1
  by_cases h : v < 10
  ·exact decS_small v w h0 h
  ·have e : IntKind.u64.wrap (v.tdiv 10) = v / 10 := by
    rw [Int.tdiv_eq_ediv_of_nonneg h0, IntKind.wrap_u64]; omega
   have e2 : decDigits v.toNat = decDigits (v / 10).toNat ++ [dgc (v.toNat % 10)] := by
    rw [decDigits, dif_neg (by omega), show v.toNat / 10 = (v / 10).toNat by omega]; rfl
   rw [e2]
   refine decS_big v w h0 (by omega) h1 _ ?_ fun w => ?_
   ·rw [decDigits_length]
    have := nDigits_le20 (v / 10).toNat (by omega)
    omega
   ·rw [e]
    exact ih (v / 10).toNat (by omega) (v / 10) w rfl (by omega) (by omega)
theorem dec_spec (v : Int) (w : World) (h0 : 0 ≤ v) (h1 : v ≤ 18446744073709551615) :
  Calls Tryz.prog 75 #[.int .u64 v] w fun e w' => e = .returned (.string ⟨(decDigits v.toNat).toArray⟩) ∧ Below w.heap.size w w' :=
 dec_spec_n _ v w rfl h0 h1
def numW (x v : Int) : Int := if x = 1 then v else sgnI x v
set_option maxHeartbeats 1000000 in
theorem sizeF (v : Int) (w : World) (h0 : -9223372036854775808 ≤ v) (h1 : v < 0) :
  Calls Tryz.prog 76 #[.int .i64 v] w fun e w' => e = .returned (.int .u64 (-v)) ∧ w' = w := by
 go_enter Tryz.func76, Tryz.ntmps76
 go_wp2
 go_ret
 refine ⟨ret_int ?_, rfl⟩
 first | omega | (simp only [IntKind.wrap_u64]; omega)
theorem sgnF_bd {x v : Int} (h : isW x v = true) : -9223372036854775808 ≤ sgnI x v ∧ sgnI x v ≤ 9223372036854775807 := by
 have bd := isW_bd h
 rcases vw_cases (isW_vw h) with rfl | rfl | rfl | rfl | rfl <;> simp [sgnI] at * <;> split <;> omega
theorem word_u64 {x v : Int} (h : isW x v = true) : 0 ≤ v ∧ v ≤ 18446744073709551615 := by
 have bd := isW_bd h
 rcases vw_cases (isW_vw h) with rfl | rfl | rfl | rfl | rfl <;> simp at bd <;> omega
set_option maxRecDepth 100000 in
set_option maxHeartbeats 2000000 in
theorem fmtS_no (x v : Int) (w : World) (h0 : 0 ≤ v) (h1 : v ≤ 18446744073709551615) (h : isW x v = false) :
  Calls Tryz.prog 145 #[.int .i64 x, .int .u64 v] w fun e w' => e = .returned (.string ⟨#[]⟩) ∧ Below w.heap.size w w' := by
 have H : Hid (isW x v = false) := h
 clear h
 go_enter Tryz.func145, Tryz.ntmps145
 go_wp2_with (go_at_call 92; refine (isS_no _ _ _ h0 h1 H.out).mono ?_; rintro e w' ⟨rfl, rfl⟩)
 go_ret
 exact ⟨rfl, Below.refl _ _⟩
set_option maxRecDepth 100000 in
set_option maxHeartbeats 2000000 in
theorem fmtS_yes (x v : Int) (w : World) (h : isW x v = true) :
  Calls Tryz.prog 145 #[.int .i64 x, .int .u64 v] w fun e w' => e = .returned (.string ⟨(itoa (numW x v)).toArray⟩) ∧ Below w.heap.size w w' := by
 have H : Hid (isW x v = true) := h
 have bd := word_u64 h
 have sb := sgnF_bd h
 have xp : 1 ≤ x := by rcases vw_cases (isW_vw h) with rfl | rfl | rfl | rfl | rfl <;> omega
 have S : sgnI x v < 0 ∨ sgnI x v = v := by unfold sgnI; have b2 := (isW_bd h).2; split <;> omega
 by_cases hx : x = 1
 ·subst hx
  have E : Hid (itoa (numW 1 v) = decDigits v.toNat) := show itoa (numW 1 v) = decDigits v.toNat by unfold numW itoa; rw [if_pos rfl, if_neg (by omega)]
  clear h S
  exact tl68
 ·by_cases hn : sgnI x v < 0
  ·have E : Hid (itoa (numW x v) = 45 :: decDigits (- sgnI x v).toNat) := show itoa (numW x v) = 45 :: decDigits (- sgnI x v).toNat by unfold numW itoa; rw [if_neg hx, if_pos hn, show (sgnI x v).natAbs = (- sgnI x v).toNat by omega]
   have L : (decDigits (- sgnI x v).toNat).length ≤ 100 := by
    rw [decDigits_length]
    have := nDigits_le20 (- sgnI x v).toNat (by omega)
    omega
   have hx2 : 1 < x := by omega
   clear h S hx
   go_enter Tryz.func145, Tryz.ntmps145
   go_wp2_with (first | (go_at_call 92; refine (isS_yes _ _ _ bd.1 bd.2 H.out).mono ?_; rintro e w' ⟨rfl, rfl⟩) | (go_at_call 157; refine (signed_spec _ _ _ bd.1 bd.2 H.out).mono ?_; rintro e w' ⟨rfl, rfl⟩) | (go_at_call 76; refine (sizeF _ _ sb.1 hn).mono ?_; rintro e w' ⟨rfl, rfl⟩) | (go_at_call 75; refine (dec_spec _ _ (by omega) (by omega)).mono ?_; rintro e w1 ⟨rfl, hb1⟩))
   go_wp2_with fail
   go_ret
   exact ⟨by rw [E.out, ba_cons]; rfl, hb1⟩
  ·have E : Hid (itoa (numW x v) = decDigits v.toNat) := show itoa (numW x v) = decDigits v.toNat by unfold numW itoa; rw [if_neg hx, if_neg hn]; congr 2; omega
   have hx2 : 1 < x := by omega
   have hn2 : 0 ≤ sgnI x v := by omega
   clear h S hx hn
   exact tl68
end Go.Proofs.YtgdcgjlmkmdklaaGreatDoor
