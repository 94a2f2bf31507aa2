/- Texts of one claim. -/
import Derived.Test.YtgdcgjlmkmdklaaGreatDoorPk0
import Derived.Test.YtgdcgjlmkmdklaaGreatDoorPk9
namespace Go.Proofs.YtgdcgjlmkmdklaaGreatDoor
open Go.ChangeShapes Go.WideShapes Go.ChangeAt Go.RowKit
set_option linter.unusedVariables false
set_option linter.unusedSimpArgs false
abbrev kHd (op ty : Int) (va : Value) : Value := .iface 179 (.agg #[.int .i64 op, .int .i64 ty, va])
abbrev kAr (op ty : Int) (va : Value) (fl : Int) : Value := .iface 191 (.agg #[.int .i64 op, .int .i64 ty, va, .int .i64 fl])
abbrev kCm (op ty : Int) (va : Value) (pr : Int) : Value := .iface 181 (.agg #[.int .i64 op, .int .i64 ty, va, .int .i64 pr])
abbrev kAl (op ty : Int) (va : Value) (sz : Int) : Value := .iface 183 (.agg #[.int .i64 op, .int .i64 ty, va, .int .i64 sz])
abbrev kIn (op ty : Int) (va : Value) (ca : Int) : Value := .iface 185 (.agg #[.int .i64 op, .int .i64 ty, va, .int .i64 ca])
abbrev kJn (op ty : Int) (va vl : Value) : Value := .iface 187 (.agg #[.int .i64 op, .int .i64 ty, va, vl])
abbrev kDi (op ty : Int) (va vl vs : Value) : Value := .iface 189 (.agg #[.int .i64 op, .int .i64 ty, va, vl, vs])
theorem famN_yes {x : Int} (h1 : 1 ≤ x) (h2 : x ≤ 13) : (famN x == 0) = false := by
 have h' : x = 1 ∨ x = 2 ∨ x = 3 ∨ x = 4 ∨ x = 5 ∨ x = 6 ∨ x = 7 ∨ x = 8 ∨ x = 9 ∨ x = 10 ∨ x = 11 ∨ x = 12 ∨ x = 13 := by omega
 rcases h' with rfl | rfl | rfl | rfl | rfl | rfl | rfl | rfl | rfl | rfl | rfl | rfl | rfl <;> decide
theorem famN_no {x : Int} (h : ¬ (1 ≤ x ∧ x ≤ 13)) : famN x = 0 := by
 unfold famN
 repeat rw [if_neg (by omega)]
def insV (op ty fl pr ca sz : Int) (va vl vs : Value) : Value :=
 if op = 14 then kCm op ty va pr else if op = 21 then kAl op ty va sz else if op = 25 then kIn op ty va ca
 else if op = 20 ∨ op = 27 ∨ op = 28 then kJn op ty va vl else if op = 29 then kDi op ty va vl vs
 else if op = 15 ∨ op = 16 ∨ op = 17 ∨ op = 18 ∨ op = 22 ∨ op = 23 ∨ op = 24 ∨ op = 26 ∨ op = 30 ∨ op = 31 then kHd op ty va
 else if 1 ≤ op ∧ op ≤ 13 then kAr op ty va fl else .nilIface
set_option maxRecDepth 100000 in
set_option maxHeartbeats 4000000 in
theorem insI14 (ty fl pr ca sz : Int) (a1 a2 a3 : Option Addr) (n1 n2 n3 c1 c2 c3 : Nat) (w : World) :
  Calls Tryz.prog 106 #[.agg #[.int .i64 14, .int .i64 ty, .int .i64 fl, .int .i64 pr, .int .i64 ca, .int .i64 sz, .slice a1 n1 c1, .slice a2 n2 c2, .slice a3 n3 c3]] w fun e w' => e = .returned (.iface 181 (.agg #[.int .i64 14, .int .i64 ty, .slice a1 n1 c1, .int .i64 pr])) ∧ Below w.heap.size w w' := by
 go_enter Tryz.func106, Tryz.ntmps106
 exact tl11
set_option maxRecDepth 100000 in
set_option maxHeartbeats 4000000 in
theorem insI15 (ty fl pr ca sz : Int) (a1 a2 a3 : Option Addr) (n1 n2 n3 c1 c2 c3 : Nat) (w : World) :
  Calls Tryz.prog 106 #[.agg #[.int .i64 15, .int .i64 ty, .int .i64 fl, .int .i64 pr, .int .i64 ca, .int .i64 sz, .slice a1 n1 c1, .slice a2 n2 c2, .slice a3 n3 c3]] w fun e w' => e = .returned (.iface 179 (.agg #[.int .i64 15, .int .i64 ty, .slice a1 n1 c1])) ∧ Below w.heap.size w w' := by
 go_enter Tryz.func106, Tryz.ntmps106
 exact tl11
set_option maxRecDepth 100000 in
set_option maxHeartbeats 4000000 in
theorem insI16 (ty fl pr ca sz : Int) (a1 a2 a3 : Option Addr) (n1 n2 n3 c1 c2 c3 : Nat) (w : World) :
  Calls Tryz.prog 106 #[.agg #[.int .i64 16, .int .i64 ty, .int .i64 fl, .int .i64 pr, .int .i64 ca, .int .i64 sz, .slice a1 n1 c1, .slice a2 n2 c2, .slice a3 n3 c3]] w fun e w' => e = .returned (.iface 179 (.agg #[.int .i64 16, .int .i64 ty, .slice a1 n1 c1])) ∧ Below w.heap.size w w' := by
 go_enter Tryz.func106, Tryz.ntmps106
 exact tl11
set_option maxRecDepth 100000 in
set_option maxHeartbeats 4000000 in
theorem insI17 (ty fl pr ca sz : Int) (a1 a2 a3 : Option Addr) (n1 n2 n3 c1 c2 c3 : Nat) (w : World) :
  Calls Tryz.prog 106 #[.agg #[.int .i64 17, .int .i64 ty, .int .i64 fl, .int .i64 pr, .int .i64 ca, .int .i64 sz, .slice a1 n1 c1, .slice a2 n2 c2, .slice a3 n3 c3]] w fun e w' => e = .returned (.iface 179 (.agg #[.int .i64 17, .int .i64 ty, .slice a1 n1 c1])) ∧ Below w.heap.size w w' := by
 go_enter Tryz.func106, Tryz.ntmps106
 exact tl11
set_option maxRecDepth 100000 in
set_option maxHeartbeats 4000000 in
theorem insI18 (ty fl pr ca sz : Int) (a1 a2 a3 : Option Addr) (n1 n2 n3 c1 c2 c3 : Nat) (w : World) :
  Calls Tryz.prog 106 #[.agg #[.int .i64 18, .int .i64 ty, .int .i64 fl, .int .i64 pr, .int .i64 ca, .int .i64 sz, .slice a1 n1 c1, .slice a2 n2 c2, .slice a3 n3 c3]] w fun e w' => e = .returned (.iface 179 (.agg #[.int .i64 18, .int .i64 ty, .slice a1 n1 c1])) ∧ Below w.heap.size w w' := by
 go_enter Tryz.func106, Tryz.ntmps106
 exact tl11
set_option maxRecDepth 100000 in
set_option maxHeartbeats 4000000 in
theorem insI20 (ty fl pr ca sz : Int) (a1 a2 a3 : Option Addr) (n1 n2 n3 c1 c2 c3 : Nat) (w : World) :
  Calls Tryz.prog 106 #[.agg #[.int .i64 20, .int .i64 ty, .int .i64 fl, .int .i64 pr, .int .i64 ca, .int .i64 sz, .slice a1 n1 c1, .slice a2 n2 c2, .slice a3 n3 c3]] w fun e w' => e = .returned (.iface 187 (.agg #[.int .i64 20, .int .i64 ty, .slice a1 n1 c1, .slice a2 n2 c2])) ∧ Below w.heap.size w w' := by
 go_enter Tryz.func106, Tryz.ntmps106
 exact tl11
set_option maxRecDepth 100000 in
set_option maxHeartbeats 4000000 in
theorem insI21 (ty fl pr ca sz : Int) (a1 a2 a3 : Option Addr) (n1 n2 n3 c1 c2 c3 : Nat) (w : World) :
  Calls Tryz.prog 106 #[.agg #[.int .i64 21, .int .i64 ty, .int .i64 fl, .int .i64 pr, .int .i64 ca, .int .i64 sz, .slice a1 n1 c1, .slice a2 n2 c2, .slice a3 n3 c3]] w fun e w' => e = .returned (.iface 183 (.agg #[.int .i64 21, .int .i64 ty, .slice a1 n1 c1, .int .i64 sz])) ∧ Below w.heap.size w w' := by
 go_enter Tryz.func106, Tryz.ntmps106
 exact tl11
set_option maxRecDepth 100000 in
set_option maxHeartbeats 4000000 in
theorem insI22 (ty fl pr ca sz : Int) (a1 a2 a3 : Option Addr) (n1 n2 n3 c1 c2 c3 : Nat) (w : World) :
  Calls Tryz.prog 106 #[.agg #[.int .i64 22, .int .i64 ty, .int .i64 fl, .int .i64 pr, .int .i64 ca, .int .i64 sz, .slice a1 n1 c1, .slice a2 n2 c2, .slice a3 n3 c3]] w fun e w' => e = .returned (.iface 179 (.agg #[.int .i64 22, .int .i64 ty, .slice a1 n1 c1])) ∧ Below w.heap.size w w' := by
 go_enter Tryz.func106, Tryz.ntmps106
 exact tl11
set_option maxRecDepth 100000 in
set_option maxHeartbeats 4000000 in
theorem insI23 (ty fl pr ca sz : Int) (a1 a2 a3 : Option Addr) (n1 n2 n3 c1 c2 c3 : Nat) (w : World) :
  Calls Tryz.prog 106 #[.agg #[.int .i64 23, .int .i64 ty, .int .i64 fl, .int .i64 pr, .int .i64 ca, .int .i64 sz, .slice a1 n1 c1, .slice a2 n2 c2, .slice a3 n3 c3]] w fun e w' => e = .returned (.iface 179 (.agg #[.int .i64 23, .int .i64 ty, .slice a1 n1 c1])) ∧ Below w.heap.size w w' := by
 go_enter Tryz.func106, Tryz.ntmps106
 exact tl11
set_option maxRecDepth 100000 in
set_option maxHeartbeats 4000000 in
theorem insI24 (ty fl pr ca sz : Int) (a1 a2 a3 : Option Addr) (n1 n2 n3 c1 c2 c3 : Nat) (w : World) :
  Calls Tryz.prog 106 #[.agg #[.int .i64 24, .int .i64 ty, .int .i64 fl, .int .i64 pr, .int .i64 ca, .int .i64 sz, .slice a1 n1 c1, .slice a2 n2 c2, .slice a3 n3 c3]] w fun e w' => e = .returned (.iface 179 (.agg #[.int .i64 24, .int .i64 ty, .slice a1 n1 c1])) ∧ Below w.heap.size w w' := by
 go_enter Tryz.func106, Tryz.ntmps106
 exact tl11
set_option maxRecDepth 100000 in
set_option maxHeartbeats 4000000 in
theorem insI25 (ty fl pr ca sz : Int) (a1 a2 a3 : Option Addr) (n1 n2 n3 c1 c2 c3 : Nat) (w : World) :
  Calls Tryz.prog 106 #[.agg #[.int .i64 25, .int .i64 ty, .int .i64 fl, .int .i64 pr, .int .i64 ca, .int .i64 sz, .slice a1 n1 c1, .slice a2 n2 c2, .slice a3 n3 c3]] w fun e w' => e = .returned (.iface 185 (.agg #[.int .i64 25, .int .i64 ty, .slice a1 n1 c1, .int .i64 ca])) ∧ Below w.heap.size w w' := by
 go_enter Tryz.func106, Tryz.ntmps106
 exact tl11
set_option maxRecDepth 100000 in
set_option maxHeartbeats 4000000 in
theorem insI26 (ty fl pr ca sz : Int) (a1 a2 a3 : Option Addr) (n1 n2 n3 c1 c2 c3 : Nat) (w : World) :
  Calls Tryz.prog 106 #[.agg #[.int .i64 26, .int .i64 ty, .int .i64 fl, .int .i64 pr, .int .i64 ca, .int .i64 sz, .slice a1 n1 c1, .slice a2 n2 c2, .slice a3 n3 c3]] w fun e w' => e = .returned (.iface 179 (.agg #[.int .i64 26, .int .i64 ty, .slice a1 n1 c1])) ∧ Below w.heap.size w w' := by
 go_enter Tryz.func106, Tryz.ntmps106
 exact tl11
set_option maxRecDepth 100000 in
set_option maxHeartbeats 4000000 in
theorem insI27 (ty fl pr ca sz : Int) (a1 a2 a3 : Option Addr) (n1 n2 n3 c1 c2 c3 : Nat) (w : World) :
  Calls Tryz.prog 106 #[.agg #[.int .i64 27, .int .i64 ty, .int .i64 fl, .int .i64 pr, .int .i64 ca, .int .i64 sz, .slice a1 n1 c1, .slice a2 n2 c2, .slice a3 n3 c3]] w fun e w' => e = .returned (.iface 187 (.agg #[.int .i64 27, .int .i64 ty, .slice a1 n1 c1, .slice a2 n2 c2])) ∧ Below w.heap.size w w' := by
 go_enter Tryz.func106, Tryz.ntmps106
 exact tl11
set_option maxRecDepth 100000 in
set_option maxHeartbeats 4000000 in
theorem insI28 (ty fl pr ca sz : Int) (a1 a2 a3 : Option Addr) (n1 n2 n3 c1 c2 c3 : Nat) (w : World) :
  Calls Tryz.prog 106 #[.agg #[.int .i64 28, .int .i64 ty, .int .i64 fl, .int .i64 pr, .int .i64 ca, .int .i64 sz, .slice a1 n1 c1, .slice a2 n2 c2, .slice a3 n3 c3]] w fun e w' => e = .returned (.iface 187 (.agg #[.int .i64 28, .int .i64 ty, .slice a1 n1 c1, .slice a2 n2 c2])) ∧ Below w.heap.size w w' := by
 go_enter Tryz.func106, Tryz.ntmps106
 exact tl11
set_option maxRecDepth 100000 in
set_option maxHeartbeats 4000000 in
theorem insI29 (ty fl pr ca sz : Int) (a1 a2 a3 : Option Addr) (n1 n2 n3 c1 c2 c3 : Nat) (w : World) :
  Calls Tryz.prog 106 #[.agg #[.int .i64 29, .int .i64 ty, .int .i64 fl, .int .i64 pr, .int .i64 ca, .int .i64 sz, .slice a1 n1 c1, .slice a2 n2 c2, .slice a3 n3 c3]] w fun e w' => e = .returned (.iface 189 (.agg #[.int .i64 29, .int .i64 ty, .slice a1 n1 c1, .slice a2 n2 c2, .slice a3 n3 c3])) ∧ Below w.heap.size w w' := by
 go_enter Tryz.func106, Tryz.ntmps106
 exact tl11
set_option maxRecDepth 100000 in
set_option maxHeartbeats 4000000 in
theorem insI30 (ty fl pr ca sz : Int) (a1 a2 a3 : Option Addr) (n1 n2 n3 c1 c2 c3 : Nat) (w : World) :
  Calls Tryz.prog 106 #[.agg #[.int .i64 30, .int .i64 ty, .int .i64 fl, .int .i64 pr, .int .i64 ca, .int .i64 sz, .slice a1 n1 c1, .slice a2 n2 c2, .slice a3 n3 c3]] w fun e w' => e = .returned (.iface 179 (.agg #[.int .i64 30, .int .i64 ty, .slice a1 n1 c1])) ∧ Below w.heap.size w w' := by
 go_enter Tryz.func106, Tryz.ntmps106
 exact tl11
set_option maxRecDepth 100000 in
set_option maxHeartbeats 4000000 in
theorem insI31 (ty fl pr ca sz : Int) (a1 a2 a3 : Option Addr) (n1 n2 n3 c1 c2 c3 : Nat) (w : World) :
  Calls Tryz.prog 106 #[.agg #[.int .i64 31, .int .i64 ty, .int .i64 fl, .int .i64 pr, .int .i64 ca, .int .i64 sz, .slice a1 n1 c1, .slice a2 n2 c2, .slice a3 n3 c3]] w fun e w' => e = .returned (.iface 179 (.agg #[.int .i64 31, .int .i64 ty, .slice a1 n1 c1])) ∧ Below w.heap.size w w' := by
 go_enter Tryz.func106, Tryz.ntmps106
 exact tl11
theorem isOprI (x : Int) (w : World) :
  Calls Tryz.prog 139 #[.int .i64 x] w fun e w' => e = .returned (.bool (decide (famN x ≠ 0))) ∧ w' = w := by
 have F := Kp.mk (famI x w)
 obtain ⟨n, hn⟩ : ∃ n, famN x = n := ⟨_, rfl⟩
 rw [hn] at F ⊢
 go_enter Tryz.func139, Tryz.ntmps139
 go_wp2_with (go_at_call 153; refine F.out.mono ?_; rintro e w1 ⟨rfl, rfl⟩)
 go_ret
 exact ⟨ret_bool (by by_cases h : n = 0 <;> simp [h]), rfl⟩
set_option maxRecDepth 100000 in
set_option maxHeartbeats 4000000 in
theorem insIAr (op ty fl pr ca sz : Int) (a1 a2 a3 : Option Addr) (n1 n2 n3 c1 c2 c3 : Nat) (w : World) (h1 : 1 ≤ op) (h2 : op ≤ 13) :
  Calls Tryz.prog 106 #[.agg #[.int .i64 op, .int .i64 ty, .int .i64 fl, .int .i64 pr, .int .i64 ca, .int .i64 sz, .slice a1 n1 c1, .slice a2 n2 c2, .slice a3 n3 c3]] w fun e w' => e = .returned (.iface 191 (.agg #[.int .i64 op, .int .i64 ty, .slice a1 n1 c1, .int .i64 fl])) ∧ Below w.heap.size w w' := by
 have n14 := nb (x := op) (k := 14) (by omega)
 have n15 := nb (x := op) (k := 15) (by omega)
 have n16 := nb (x := op) (k := 16) (by omega)
 have n17 := nb (x := op) (k := 17) (by omega)
 have n18 := nb (x := op) (k := 18) (by omega)
 have n20 := nb (x := op) (k := 20) (by omega)
 have n21 := nb (x := op) (k := 21) (by omega)
 have n22 := nb (x := op) (k := 22) (by omega)
 have n23 := nb (x := op) (k := 23) (by omega)
 have n24 := nb (x := op) (k := 24) (by omega)
 have n25 := nb (x := op) (k := 25) (by omega)
 have n26 := nb (x := op) (k := 26) (by omega)
 have n27 := nb (x := op) (k := 27) (by omega)
 have n28 := nb (x := op) (k := 28) (by omega)
 have n29 := nb (x := op) (k := 29) (by omega)
 have n30 := nb (x := op) (k := 30) (by omega)
 have n31 := nb (x := op) (k := 31) (by omega)
 have FA : Kp (∀ w, Calls Tryz.prog 139 #[.int .i64 op] w fun e w' => e = .returned (.bool true) ∧ w' = w) := ⟨fun w => by have := isOprI op w; rwa [show decide (famN op ≠ 0) = true by have q := famN_yes h1 h2; simpa using q] at this⟩
 clear h1 h2
 exact tl104
set_option maxRecDepth 100000 in
set_option maxHeartbeats 4000000 in
theorem insINo (op ty fl pr ca sz : Int) (a1 a2 a3 : Option Addr) (n1 n2 n3 c1 c2 c3 : Nat) (w : World) (h : tabB op = false) :
  Calls Tryz.prog 106 #[.agg #[.int .i64 op, .int .i64 ty, .int .i64 fl, .int .i64 pr, .int .i64 ca, .int .i64 sz, .slice a1 n1 c1, .slice a2 n2 c2, .slice a3 n3 c3]] w fun e w' => e = .returned (.nilIface) ∧ Below w.heap.size w w' := by
 have h1 : ¬ (1 ≤ op ∧ op ≤ 18) ∧ ¬ (20 ≤ op ∧ op ≤ 31) := by simp [tabB] at h; omega
 have n14 := nb (x := op) (k := 14) (by omega)
 have n15 := nb (x := op) (k := 15) (by omega)
 have n16 := nb (x := op) (k := 16) (by omega)
 have n17 := nb (x := op) (k := 17) (by omega)
 have n18 := nb (x := op) (k := 18) (by omega)
 have n20 := nb (x := op) (k := 20) (by omega)
 have n21 := nb (x := op) (k := 21) (by omega)
 have n22 := nb (x := op) (k := 22) (by omega)
 have n23 := nb (x := op) (k := 23) (by omega)
 have n24 := nb (x := op) (k := 24) (by omega)
 have n25 := nb (x := op) (k := 25) (by omega)
 have n26 := nb (x := op) (k := 26) (by omega)
 have n27 := nb (x := op) (k := 27) (by omega)
 have n28 := nb (x := op) (k := 28) (by omega)
 have n29 := nb (x := op) (k := 29) (by omega)
 have n30 := nb (x := op) (k := 30) (by omega)
 have n31 := nb (x := op) (k := 31) (by omega)
 have FA : Kp (∀ w, Calls Tryz.prog 139 #[.int .i64 op] w fun e w' => e = .returned (.bool false) ∧ w' = w) := ⟨fun w => by have := isOprI op w; rwa [famN_no (by omega), show decide ((0 : Int) ≠ 0) = false from rfl] at this⟩
 clear h1 h
 exact tl104
end Go.Proofs.YtgdcgjlmkmdklaaGreatDoor
