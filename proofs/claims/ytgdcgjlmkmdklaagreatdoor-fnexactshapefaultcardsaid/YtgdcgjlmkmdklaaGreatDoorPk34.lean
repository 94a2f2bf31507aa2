/- Texts of one claim. -/
import Derived.Test.YtgdcgjlmkmdklaaGreatDoorPk29
import Derived.Test.YtgdcgjlmkmdklaaGreatDoorPk30
import Derived.Test.YtgdcgjlmkmdklaaGreatDoorPk31
import Derived.Test.YtgdcgjlmkmdklaaGreatDoorPk32
import Derived.Test.YtgdcgjlmkmdklaaGreatDoorPk33
import Derived.Test.YtgdcgjlmkmdklaaGreatDoorPk19
namespace Go.Proofs.YtgdcgjlmkmdklaaGreatDoor
open Go.ChangeShapes Go.WideShapes Go.ChangeAt Go.RowKit
set_option linter.unusedVariables false
set_option linter.unusedSimpArgs false
theorem insV_Hd (op ty fl pr ca sz : Int) (va vl vs : Value) (ho : op = 15 ∨ op = 16 ∨ op = 17 ∨ op = 18 ∨ op = 22 ∨ op = 23 ∨ op = 24 ∨ op = 26 ∨ op = 30 ∨ op = 31) : insV op ty fl pr ca sz va vl vs = kHd op ty va := by
 rcases ho with rfl | rfl | rfl | rfl | rfl | rfl | rfl | rfl | rfl | rfl <;> simp [insV]
theorem insV_Ar (op ty fl pr ca sz : Int) (va vl vs : Value) (ho : 1 ≤ op ∧ op ≤ 13) : insV op ty fl pr ca sz va vl vs = kAr op ty va fl := by
 unfold insV
 rw [if_neg (by omega), if_neg (by omega), if_neg (by omega), if_neg (by omega), if_neg (by omega), if_neg (by omega), if_pos ho]
theorem insV_Jn (op ty fl pr ca sz : Int) (va vl vs : Value) (ho : op = 20 ∨ op = 27 ∨ op = 28) : insV op ty fl pr ca sz va vl vs = kJn op ty va vl := by
 rcases ho with rfl | rfl | rfl <;> simp [insV]
theorem insV_some (op ty fl pr ca sz : Int) (va vl vs : Value) (ht : tabB op = true) : ∃ T v, insV op ty fl pr ca sz va vl vs = .iface T v := by
 have h : (1 ≤ op ∧ op ≤ 13) ∨ op = 14 ∨ (op = 15 ∨ op = 16 ∨ op = 17 ∨ op = 18 ∨ op = 22 ∨ op = 23 ∨ op = 24 ∨ op = 26 ∨ op = 30 ∨ op = 31) ∨ (op = 20 ∨ op = 27 ∨ op = 28) ∨ op = 21 ∨ op = 25 ∨ op = 29 := by simp [tabB] at ht; omega
 rcases h with h | rfl | h | h | rfl | rfl | rfl
 ·exact ⟨_, _, insV_Ar op ty fl pr ca sz va vl vs h⟩
 ·exact ⟨_, _, rfl⟩
 ·exact ⟨_, _, insV_Hd op ty fl pr ca sz va vl vs h⟩
 ·exact ⟨_, _, insV_Jn op ty fl pr ca sz va vl vs h⟩
 ·exact ⟨_, _, rfl⟩
 ·exact ⟨_, _, rfl⟩
 ·exact ⟨_, _, rfl⟩
theorem insV_none (op ty fl pr ca sz : Int) (va vl vs : Value) (ht : tabB op = false) : insV op ty fl pr ca sz va vl vs = .nilIface := by
 have h : ¬ (1 ≤ op ∧ op ≤ 18) ∧ ¬ (20 ≤ op ∧ op ≤ 31) := by simp [tabB] at ht; omega
 unfold insV
 rw [if_neg (by omega), if_neg (by omega), if_neg (by omega), if_neg (by omega), if_neg (by omega), if_neg (by omega), if_neg (by omega)]
theorem insU (op ty fl pr ca sz : Int) (a1 a2 a3 : Option Addr) (n1 n2 n3 c1 c2 c3 : Nat) (w : World) :
  Calls Tryz.prog 106 #[.agg #[.int .i64 op, .int .i64 ty, .int .i64 fl, .int .i64 pr, .int .i64 ca, .int .i64 sz, .slice a1 n1 c1, .slice a2 n2 c2, .slice a3 n3 c3]] w fun e w' => e = .returned (insV op ty fl pr ca sz (.slice a1 n1 c1) (.slice a2 n2 c2) (.slice a3 n3 c3)) ∧ Below w.heap.size w w' := by
 cases ht : tabB op with
 | false => rw [insV_none _ _ _ _ _ _ _ _ _ ht]; exact insINo op ty fl pr ca sz a1 a2 a3 n1 n2 n3 c1 c2 c3 w ht
 | true =>
  by_cases h13 : op ≤ 13
  ·have h1 : 1 ≤ op := by simp [tabB] at ht; omega
   rw [insV_Ar _ _ _ _ _ _ _ _ _ ⟨h1, h13⟩]
   exact insIAr op ty fl pr ca sz a1 a2 a3 n1 n2 n3 c1 c2 c3 w h1 h13
  ·have h : op = 14 ∨ op = 15 ∨ op = 16 ∨ op = 17 ∨ op = 18 ∨ op = 20 ∨ op = 21 ∨ op = 22 ∨ op = 23 ∨ op = 24 ∨ op = 25 ∨ op = 26 ∨ op = 27 ∨ op = 28 ∨ op = 29 ∨ op = 30 ∨ op = 31 := by simp [tabB] at ht; omega
   rcases h with rfl | rfl | rfl | rfl | rfl | rfl | rfl | rfl | rfl | rfl | rfl | rfl | rfl | rfl | rfl | rfl | rfl
   ·exact insI14 ty fl pr ca sz a1 a2 a3 n1 n2 n3 c1 c2 c3 w
   ·exact insI15 ty fl pr ca sz a1 a2 a3 n1 n2 n3 c1 c2 c3 w
   ·exact insI16 ty fl pr ca sz a1 a2 a3 n1 n2 n3 c1 c2 c3 w
   ·exact insI17 ty fl pr ca sz a1 a2 a3 n1 n2 n3 c1 c2 c3 w
   ·exact insI18 ty fl pr ca sz a1 a2 a3 n1 n2 n3 c1 c2 c3 w
   ·exact insI20 ty fl pr ca sz a1 a2 a3 n1 n2 n3 c1 c2 c3 w
   ·exact insI21 ty fl pr ca sz a1 a2 a3 n1 n2 n3 c1 c2 c3 w
   ·exact insI22 ty fl pr ca sz a1 a2 a3 n1 n2 n3 c1 c2 c3 w
   ·exact insI23 ty fl pr ca sz a1 a2 a3 n1 n2 n3 c1 c2 c3 w
   ·exact insI24 ty fl pr ca sz a1 a2 a3 n1 n2 n3 c1 c2 c3 w
   ·exact insI25 ty fl pr ca sz a1 a2 a3 n1 n2 n3 c1 c2 c3 w
   ·exact insI26 ty fl pr ca sz a1 a2 a3 n1 n2 n3 c1 c2 c3 w
   ·exact insI27 ty fl pr ca sz a1 a2 a3 n1 n2 n3 c1 c2 c3 w
   ·exact insI28 ty fl pr ca sz a1 a2 a3 n1 n2 n3 c1 c2 c3 w
   ·exact insI29 ty fl pr ca sz a1 a2 a3 n1 n2 n3 c1 c2 c3 w
   ·exact insI30 ty fl pr ca sz a1 a2 a3 n1 n2 n3 c1 c2 c3 w
   ·exact insI31 ty fl pr ca sz a1 a2 a3 n1 n2 n3 c1 c2 c3 w
theorem tab_parts {op : Int} (ht : tabB op = true) : (1 ≤ op ∧ op ≤ 13) ∨ op = 14 ∨ (op = 15 ∨ op = 16 ∨ op = 17 ∨ op = 18 ∨ op = 22 ∨ op = 23 ∨ op = 24 ∨ op = 26 ∨ op = 30 ∨ op = 31) ∨ (op = 20 ∨ op = 27 ∨ op = 28) ∨ op = 21 ∨ op = 25 ∨ op = 29 := by simp [tabB] at ht; omega
theorem fieldsU (gs : List GlD) (fs : List FnD) (ts : List Int) (a1 a2 a3 a4 a5 : Option Addr) (params : List Int) (blocks : List (List InD)) (c1 c2 c3 c4 c5 : Nat) (name : ByteArray) (link res bk : Int) (op ty fl pr ca sz : Int) (aa al as' : Option Addr) (args : List OpD) (bl ws : List Int) (ca' cl cs : Nat) (w : World) {lo : Nat} (hm : MoAt lo w gs fs (.slice a1 gs.length c1) (.slice a2 fs.length c2)) (ha : Ops lo w (.slice aa args.length ca') args) (hl : Ints lo .i64 w (.slice al bl.length cl) bl) (hs : Ints lo .u64 w (.slice as' ws.length cs) ws) (hw : Wid w) (hn : args.length ≤ 1048576) (hnl : bl.length ≤ 1048576) (hns : ws.length ≤ 1048576) (hfl : I64 fl) (ht : tabB op = true) :
  Calls Tryz.prog 107 #[scV (.slice a1 gs.length c1) (.slice a2 fs.length c2) name link (.slice a3 params.length c3) res (.slice a4 blocks.length c4) (.slice a5 ts.length c5) bk, .agg #[.int .i64 op, .int .i64 ty, .int .i64 fl, .int .i64 pr, .int .i64 ca, .int .i64 sz, .slice aa args.length ca', .slice al bl.length cl, .slice as' ws.length cs], insV op ty fl pr ca sz (.slice aa args.length ca') (.slice al bl.length cl) (.slice as' ws.length cs)] w fun e w' => e = .returned (.bool (hdB fs bk ⟨op, ty, fl, pr, ca, sz, args, bl, ws⟩ && cntB fs ⟨name, link, params, res, blocks⟩ ⟨op, ty, fl, pr, ca, sz, args, bl, ws⟩)) ∧ Below w.heap.size w w' := by
 rcases tab_parts ht with h | rfl | h | h | rfl | rfl | rfl
 ·rw [insV_Ar _ _ _ _ _ _ _ _ _ h, ← eqAr fs ⟨name, link, params, res, blocks⟩ bk op ty fl pr ca sz args bl ws hfl h]
  exact fldAr gs fs ts a1 a2 a3 a4 a5 params blocks c1 c2 c3 c4 c5 name link res bk op ty fl pr ca sz aa al as' args bl ws ca' cl cs w hm ha hl hs hw hn hnl hns
 ·rw [← eqCm fs ⟨name, link, params, res, blocks⟩ bk 14 ty fl pr ca sz args bl ws hfl rfl]
  exact fldCm gs fs ts a1 a2 a3 a4 a5 params blocks c1 c2 c3 c4 c5 name link res bk 14 ty fl pr ca sz aa al as' args bl ws ca' cl cs w hm ha hl hs hw hn hnl hns
 ·rw [insV_Hd _ _ _ _ _ _ _ _ _ h, ← eqHd fs ⟨name, link, params, res, blocks⟩ bk op ty fl pr ca sz args bl ws hfl h]
  exact fldHd gs fs ts a1 a2 a3 a4 a5 params blocks c1 c2 c3 c4 c5 name link res bk op ty fl pr ca sz aa al as' args bl ws ca' cl cs w hm ha hl hs hw hn hnl hns
 ·rw [insV_Jn _ _ _ _ _ _ _ _ _ h, ← eqJn fs ⟨name, link, params, res, blocks⟩ bk op ty fl pr ca sz args bl ws hfl h]
  exact fldJn gs fs ts a1 a2 a3 a4 a5 params blocks c1 c2 c3 c4 c5 name link res bk op ty fl pr ca sz aa al as' args bl ws ca' cl cs w hm ha hl hs hw hn hnl hns
 ·rw [← eqAl fs ⟨name, link, params, res, blocks⟩ bk 21 ty fl pr ca sz args bl ws hfl rfl]
  exact fldAl gs fs ts a1 a2 a3 a4 a5 params blocks c1 c2 c3 c4 c5 name link res bk 21 ty fl pr ca sz aa al as' args bl ws ca' cl cs w hm ha hl hs hw hn hnl hns
 ·rw [← eqInv fs ⟨name, link, params, res, blocks⟩ bk 25 ty fl pr ca sz args bl ws hfl rfl]
  exact fldIn gs fs ts a1 a2 a3 a4 a5 params blocks c1 c2 c3 c4 c5 name link res bk 25 ty fl pr ca sz aa al as' args bl ws ca' cl cs w hm ha hl hs hw hn hnl hns
 ·rw [← eqDi fs ⟨name, link, params, res, blocks⟩ bk 29 ty fl pr ca sz args bl ws hfl rfl]
  exact fldDi gs fs ts a1 a2 a3 a4 a5 params blocks c1 c2 c3 c4 c5 name link res bk 29 ty fl pr ca sz aa al as' args bl ws ca' cl cs w hm ha hl hs hw hn hnl hns
theorem bl_none {fs : List FnD} {f : FnD} {op ty fl pr ca sz : Int} {args : List OpD} {bl ws : List Int} (hc : cntB fs f ⟨op, ty, fl, pr, ca, sz, args, bl, ws⟩ = true) (ho : ¬ op = 20 ∧ ¬ op = 27 ∧ ¬ op = 28 ∧ ¬ op = 29) : bl = [] := by
 unfold cntB at hc
 rw [if_neg ho.1] at hc
 simp only [Bool.and_eq_true, decide_eq_true_eq] at hc
 have := hc.2
 unfold cntT at this
 rw [if_neg ho.1, if_neg ho.2.1, if_neg ho.2.2.1, if_neg ho.2.2.2] at this
 exact List.length_eq_zero_iff.1 (by simpa using this)
theorem targetsU (gs : List GlD) (fs : List FnD) (ts : List Int) (a1 a2 a3 a4 a5 : Option Addr) (params : List Int) (blocks : List (List InD)) (c1 c2 c3 c4 c5 : Nat) (name : ByteArray) (link res bk : Int) (op ty fl pr ca sz : Int) (aa al as' : Option Addr) (args : List OpD) (bl ws : List Int) (ca' cl cs : Nat) (w : World) {lo : Nat} (hl : Ints lo .i64 w (.slice al bl.length cl) bl) (hb4 : blocks.length ≤ 140737488355328) (ht : tabB op = true) (hc : cntB fs ⟨name, link, params, res, blocks⟩ ⟨op, ty, fl, pr, ca, sz, args, bl, ws⟩ = true) :
  Calls Tryz.prog 108 #[scV (.slice a1 gs.length c1) (.slice a2 fs.length c2) name link (.slice a3 params.length c3) res (.slice a4 blocks.length c4) (.slice a5 ts.length c5) bk, insV op ty fl pr ca sz (.slice aa args.length ca') (.slice al bl.length cl) (.slice as' ws.length cs)] w fun e w' => e = .returned (.bool (tgtB ⟨name, link, params, res, blocks⟩ ⟨op, ty, fl, pr, ca, sz, args, bl, ws⟩)) ∧ Below w.heap.size w w' := by
 rcases tab_parts ht with h | rfl | h | h | rfl | rfl | rfl
 ·obtain rfl := bl_none hc (by omega)
  rw [insV_Ar _ _ _ _ _ _ _ _ _ h]
  exact tgtAr a1 a2 a3 a4 a5 gs.length fs.length params.length blocks.length ts.length c1 c2 c3 c4 c5 name link res bk op ty fl aa args.length ca' w
 ·obtain rfl := bl_none hc (by omega)
  exact tgtCm a1 a2 a3 a4 a5 gs.length fs.length params.length blocks.length ts.length c1 c2 c3 c4 c5 name link res bk 14 ty pr aa args.length ca' w
 ·obtain rfl := bl_none hc (by omega)
  rw [insV_Hd _ _ _ _ _ _ _ _ _ h]
  exact tgtHd a1 a2 a3 a4 a5 gs.length fs.length params.length blocks.length ts.length c1 c2 c3 c4 c5 name link res bk op ty aa args.length ca' w
 ·rw [insV_Jn _ _ _ _ _ _ _ _ _ h]
  exact tgtJn a1 a2 a3 a4 a5 gs.length fs.length params.length blocks.length ts.length c1 c2 c3 c4 c5 name link res bk op ty aa args.length ca' _ bl w hl hb4
 ·obtain rfl := bl_none hc (by omega)
  exact tgtAl a1 a2 a3 a4 a5 gs.length fs.length params.length blocks.length ts.length c1 c2 c3 c4 c5 name link res bk 21 ty sz aa args.length ca' w
 ·obtain rfl := bl_none hc (by omega)
  exact tgtIn a1 a2 a3 a4 a5 gs.length fs.length params.length blocks.length ts.length c1 c2 c3 c4 c5 name link res bk 25 ty ca aa args.length ca' w
 ·exact tgtDi a1 a2 a3 a4 a5 gs.length fs.length params.length blocks.length ts.length c1 c2 c3 c4 c5 name link res bk 29 ty aa args.length ca' _ bl _ w hl hb4
theorem casB_none {op ty fl pr ca sz : Int} {args : List OpD} {bl ws : List Int} {fs : List FnD} {bk : Int} (hh : hdB fs bk ⟨op, ty, fl, pr, ca, sz, args, bl, ws⟩ = true) (ho : ¬ op = 29) : casB ⟨op, ty, fl, pr, ca, sz, args, bl, ws⟩ = true := by
 have : ws = [] := by
  cases ws with
  | nil => rfl
  | cons x r => exact absurd (hd_words hh (by simp)) ho
 subst this
 rfl
theorem cnt_len {fs : List FnD} {f : FnD} {op ty fl pr ca sz : Int} {args : List OpD} {bl ws : List Int} (hc : cntB fs f ⟨op, ty, fl, pr, ca, sz, args, bl, ws⟩ = true) (ho : ¬ op = 20) : (args.length : Int) = cntA fs f ⟨op, ty, fl, pr, ca, sz, args, bl, ws⟩ := by
 unfold cntB at hc
 rw [if_neg ho] at hc
 simp only [Bool.and_eq_true, decide_eq_true_eq] at hc
 exact hc.1
theorem argsU (gs : List GlD) (fs : List FnD) (ts : List Int) (a1 a2 a3 a4 a5 : Option Addr) (params : List Int) (blocks : List (List InD)) (c1 c2 c3 c4 c5 : Nat) (name : ByteArray) (link res bk : Int) (op ty fl pr ca sz : Int) (aa al as' : Option Addr) (args : List OpD) (bl ws : List Int) (ca' cl cs : Nat) (w : World) {lo : Nat} {l2 : Nat} (hm : MoAt lo w gs fs (.slice a1 gs.length c1) (.slice a2 fs.length c2)) (htt : Ints l2 .i64 w (.slice a5 ts.length c5) ts) (ha : Ops lo w (.slice aa args.length ca') args) (hs : Ints lo .u64 w (.slice as' ws.length cs) ws) (hsb : ∀ z ∈ ws, 0 ≤ z ∧ z ≤ 18446744073709551615) (hw : Wid w) (hn : args.length ≤ 1048576) (hab : ∀ q ∈ args, OpB q) (hfl : I64 fl) (hts : ∀ t ∈ ts, t ≠ 0) (ht : tabB op = true) (hh : hdB fs bk ⟨op, ty, fl, pr, ca, sz, args, bl, ws⟩ = true) (hc : cntB fs ⟨name, link, params, res, blocks⟩ ⟨op, ty, fl, pr, ca, sz, args, bl, ws⟩ = true) :
  Calls Tryz.prog 109 #[scV (.slice a1 gs.length c1) (.slice a2 fs.length c2) name link (.slice a3 params.length c3) res (.slice a4 blocks.length c4) (.slice a5 ts.length c5) bk, insV op ty fl pr ca sz (.slice aa args.length ca') (.slice al bl.length cl) (.slice as' ws.length cs)] w fun e w' => e = .returned (.bool (argB gs.length ts fs ⟨name, link, params, res, blocks⟩ ⟨op, ty, fl, pr, ca, sz, args, bl, ws⟩ && casB ⟨op, ty, fl, pr, ca, sz, args, bl, ws⟩)) ∧ Below w.heap.size w w' := by
 rcases tab_parts ht with h | rfl | h | h | rfl | rfl | rfl
 ·have q := eqAr fs ⟨name, link, params, res, blocks⟩ bk op ty fl pr ca sz args bl ws hfl h
  rw [hh, hc] at q
  simp only [Bool.and_true, Bool.and_eq_true, decide_eq_true_eq] at q
  have hlen : ([ty, ty] : List Int).length = args.length := q.2.2.2
  rw [insV_Ar _ _ _ _ _ _ _ _ _ h, casB_none hh (by omega), ← same_args (x := ⟨op, ty, fl, pr, ca, sz, args, bl, ws⟩) (wan := [ty, ty]) hts (fun k hk _ => pwAr fs ⟨name, link, params, res, blocks⟩ op ty fl pr ca sz args bl ws h hlen.symm k hk)]
  exact argAr gs fs ts a1 a2 a3 a4 a5 params blocks c1 c2 c3 c4 c5 name link res bk op ty fl aa al as' args bl ws ca' cl cs w hm htt ha hw hab hlen
 ·have q := eqCm fs ⟨name, link, params, res, blocks⟩ bk 14 ty fl pr ca sz args bl ws hfl rfl
  rw [hh, hc] at q
  simp only [Bool.and_true, Bool.and_eq_true, decide_eq_true_eq] at q
  have hlen : ([cmF pr args, cmF pr args] : List Int).length = args.length := q.2.2.2
  have hp : 1 ≤ pr := by
   have := swpN_ne pr
   rw [show decide (swpN pr ≠ 0) = true from decide_eq_true q.2.1] at this
   simp at this
   omega
  rw [casB_none hh (by omega), ← same_args (x := ⟨14, ty, fl, pr, ca, sz, args, bl, ws⟩) (wan := [cmF pr args, cmF pr args]) hts (fun k hk hz => pwCm fs ⟨name, link, params, res, blocks⟩ ty fl pr ca sz args bl ws hp hlen.symm k hk hz)]
  exact argCm gs fs ts a1 a2 a3 a4 a5 params blocks c1 c2 c3 c4 c5 name link res bk 14 ty pr aa al as' args bl ws ca' cl cs w hm htt ha hw hab hlen
 ·have q := eqHd fs ⟨name, link, params, res, blocks⟩ bk op ty fl pr ca sz args bl ws hfl h
  rw [hh, hc] at q
  simp only [Bool.and_true, Bool.and_eq_true, decide_eq_true_eq] at q
  have hlen : (wanH op ty args res).length = args.length := q.2.2.2
  rw [insV_Hd _ _ _ _ _ _ _ _ _ h, casB_none hh (by omega), ← same_args (x := ⟨op, ty, fl, pr, ca, sz, args, bl, ws⟩) (wan := wanH op ty args res) hts (fun k hk hz => pwHd fs ⟨name, link, params, res, blocks⟩ op ty fl pr ca sz args bl ws h (cnt_len hc (by omega)) k hk hz)]
  exact argHd gs fs ts a1 a2 a3 a4 a5 params blocks c1 c2 c3 c4 c5 name link res bk op ty aa al as' args bl ws ca' cl cs w hm htt ha hw hab hlen
 ·have q := eqJn fs ⟨name, link, params, res, blocks⟩ bk op ty fl pr ca sz args bl ws hfl h
  rw [hh, hc] at q
  simp only [Bool.and_true, Bool.and_eq_true, decide_eq_true_eq] at q
  have hlen : (wanJ op ty args.length).length = args.length := q.2.2.2
  rw [insV_Jn _ _ _ _ _ _ _ _ _ h, casB_none hh (by omega), ← same_args (x := ⟨op, ty, fl, pr, ca, sz, args, bl, ws⟩) (wan := wanJ op ty args.length) hts (fun k hk _ => pwJn fs ⟨name, link, params, res, blocks⟩ op ty fl pr ca sz args bl ws h (fun e => cnt_len hc e) k hk)]
  exact argJn gs fs ts a1 a2 a3 a4 a5 params blocks c1 c2 c3 c4 c5 name link res bk op ty aa al as' args bl ws ca' cl cs w hm htt ha (jnB_pos q.2.1) hn hw hab hlen
 ·have q := eqAl fs ⟨name, link, params, res, blocks⟩ bk 21 ty fl pr ca sz args bl ws hfl rfl
  rw [hh, hc] at q
  simp only [Bool.and_true, Bool.and_eq_true, decide_eq_true_eq] at q
  have hlen : (wanH 21 ty args res).length = args.length := q.2.2.2
  have h0 : args.length = 0 := by rw [← hlen]; simp [wanH]
  rw [casB_none hh (by omega), ← same_args (x := ⟨21, ty, fl, pr, ca, sz, args, bl, ws⟩) (wan := wanH 21 ty args res) hts (fun k hk hz => by
   have hk' : k < args.length := hk
   omega)]
  exact argAl gs fs ts a1 a2 a3 a4 a5 params blocks c1 c2 c3 c4 c5 name link res bk 21 ty sz aa al as' args bl ws ca' cl cs w hm htt ha hw hab hlen
 ·have q := eqInv fs ⟨name, link, params, res, blocks⟩ bk 25 ty fl pr ca sz args bl ws hfl rfl
  rw [hh, hc] at q
  simp only [Bool.and_true, Bool.and_eq_true, decide_eq_true_eq] at q
  have hi : isIx ca fs.length = true := q.2.1
  have hlen : (if isIx ca fs.length = true then (calD fs ca).params else []).length = args.length := q.2.2.2
  rw [casB_none hh (by omega), ← same_args (x := ⟨25, ty, fl, pr, ca, sz, args, bl, ws⟩) (wan := if isIx ca fs.length = true then (calD fs ca).params else []) hts (fun k hk hz => pwIn fs ⟨name, link, params, res, blocks⟩ ty fl pr ca sz args bl ws hi k)]
  exact argIn gs fs ts a1 a2 a3 a4 a5 params blocks c1 c2 c3 c4 c5 name link res bk 25 ty ca aa al as' args bl ws ca' cl cs w hm htt ha hw hab hlen
 ·have q := eqDi fs ⟨name, link, params, res, blocks⟩ bk 29 ty fl pr ca sz args bl ws hfl rfl
  rw [hh, hc] at q
  simp only [Bool.and_true, Bool.and_eq_true, decide_eq_true_eq] at q
  have hlen : ([fwd args] : List Int).length = args.length := q.2.2.2
  have e := same_args (ng := gs.length) (fs := fs) (f := ⟨name, link, params, res, blocks⟩) (x := ⟨29, ty, fl, pr, ca, sz, args, bl, ws⟩) (wan := [fwd args]) hts (fun k hk hz => pwDi fs ⟨name, link, params, res, blocks⟩ ty fl pr ca sz args bl ws hlen.symm k hk hz)
  have r := argDi gs fs ts a1 a2 a3 a4 a5 params blocks c1 c2 c3 c4 c5 name link res bk 29 ty aa al as' args bl ws ca' cl cs w hm htt ha hs hsb hw hab hlen
  rw [show (⟨29, ty, fl, pr, ca, sz, args, bl, ws⟩ : InD).args = args from rfl] at e
  rw [e] at r
  refine r.mono ?_
  rintro e' w' ⟨rfl, hb⟩
  refine ⟨ret_bool ?_, hb⟩
  cases hA : argB gs.length ts fs ⟨name, link, params, res, blocks⟩ ⟨29, ty, fl, pr, ca, sz, args, bl, ws⟩ with
  | false => rfl
  | true =>
   have h0 := (argB_iff _ _ _ _ _).1 hA 0 (show 0 < args.length by rw [← hlen]; simp)
   have hvw : vw (args.getD 0 default).t = true := by
    have := h0.2
    simpa [wanB] using this
   have hf : fty args = (args.getD 0 default).t := by
    unfold fty
    rw [if_pos (by simp only [vtB, Bool.or_eq_true]; exact .inr hvw)]
   rw [hf]
   rfl
end Go.Proofs.YtgdcgjlmkmdklaaGreatDoor

namespace Go.Proofs.YtgdcgjlmkmdklaaGreatDoor
open Go.ChangeShapes Go.WideShapes Go.ChangeAt Go.RowKit
set_option linter.unusedVariables false
set_option linter.unusedSimpArgs false
abbrev ftV (t : FtD) : Value := .agg #[.int .i64 t.1, .int .i64 t.2.1, .int .i64 t.2.2.1, .int .i64 t.2.2.2]
theorem rw_four {W : World} {C : Nat} {x y z u : Value} {T : TypeId} (h : W.heap[C]? = some (Go.Obj.cells #[x, y, z, u] T (0, 0))) : Rw W C 4 :=
 ⟨T, fun j => (#[x, y, z, u] : Array Value).getD j undef, #[x, y, z, u], h, rfl, fun i hi => by
  rcases (show i = 0 ∨ i = 1 ∨ i = 2 ∨ i = 3 by omega) with rfl | rfl | rfl | rfl <;> rfl⟩
theorem putFour {W : World} {C : Nat} (r : Rw W C 4) (a b c d : Value) :
  At ((((W.setCell ⟨C, 0, none⟩ a).setCell ⟨C, 1, none⟩ b).setCell ⟨C, 2, none⟩ c).setCell ⟨C, 3, none⟩ d) C 0 a ∧ At ((((W.setCell ⟨C, 0, none⟩ a).setCell ⟨C, 1, none⟩ b).setCell ⟨C, 2, none⟩ c).setCell ⟨C, 3, none⟩ d) C 1 b ∧ At ((((W.setCell ⟨C, 0, none⟩ a).setCell ⟨C, 1, none⟩ b).setCell ⟨C, 2, none⟩ c).setCell ⟨C, 3, none⟩ d) C 2 c ∧ At ((((W.setCell ⟨C, 0, none⟩ a).setCell ⟨C, 1, none⟩ b).setCell ⟨C, 2, none⟩ c).setCell ⟨C, 3, none⟩ d) C 3 d :=
 ⟨set_other (set_other (set_other (set_same r (by omega) a) (.inr (by omega))) (.inr (by omega))) (.inr (by omega)),
  set_other (set_other (set_same (r.set _ _) (by omega) b) (.inr (by omega))) (.inr (by omega)),
  set_other (set_same ((r.set _ _).set _ _) (by omega) c) (.inr (by omega)),
  set_same (((r.set _ _).set _ _).set _ _) (by omega) d⟩
theorem belFour {w W : World} {C : Nat} (h : Below w.heap.size w W) (l : w.heap.size ≤ C) (a b c d : Value) :
  Below w.heap.size w ((((W.setCell ⟨C, 0, none⟩ a).setCell ⟨C, 1, none⟩ b).setCell ⟨C, 2, none⟩ c).setCell ⟨C, 3, none⟩ d) := bel_set (bel_set (bel_set (bel_set h l _) l _) l _) l _
structure Four (w : World) (C : Nat) (W : World) : Prop where
 r : Rw W C 4
 b : Below w.heap.size w W
 l : w.heap.size ≤ C
 fz : ∀ j, W.frozen? ⟨C, j, none⟩ = false
 c : ∃ x y z u, At W C 0 x ∧ At W C 1 y ∧ At W C 2 z ∧ At W C 3 u
theorem four_of {w W : World} {C : Nat} {x y z u : Value} {T : TypeId} (h : W.heap[C]? = some (Go.Obj.cells #[x, y, z, u] T (0, 0))) (b : Below w.heap.size w W) (l : w.heap.size ≤ C) : Four w C W := by
 have q0 : At W C 0 _ := cells_at h rfl
 have q1 : At W C 1 _ := cells_at h rfl
 have q2 : At W C 2 _ := cells_at h rfl
 have q3 : At W C 3 _ := cells_at h rfl
 exact ⟨rw_four h, b, l, rw_cells h, _, _, _, _, q0, q1, q2, q3⟩
theorem tysD_len (f : FnD) (h : fnN f ≤ 1048576) : (tysD f).length ≤ 1048576 := by
 unfold tysD
 have h1 := tysOf_len (blPl 0 f.blocks)
 have h2 := blPl_len 0 f.blocks
 have h3 := blsN_nn f.blocks
 unfold fnN at h
 rw [List.length_append]
 omega
end Go.Proofs.YtgdcgjlmkmdklaaGreatDoor
