/- Texts of one claim. -/
import Derived.Test.YtgdcgjlmkmdklaaGreatDoorPk26
import Derived.Test.YtgdcgjlmkmdklaaGreatDoorPk0
import Derived.Test.YtgdcgjlmkmdklaaGreatDoorPk12
import Derived.Test.YtgdcgjlmkmdklaaGreatDoorPk22
import Derived.Test.YtgdcgjlmkmdklaaGreatDoorPk19
namespace Go.Proofs.YtgdcgjlmkmdklaaGreatDoor
open Go.ChangeShapes Go.WideShapes Go.ChangeAt Go.RowKit
set_option linter.unusedVariables false
set_option linter.unusedSimpArgs false
@[go_sem] theorem mtHd_face (op ty : Int) (va : Value) (w : World) : (method 368 179 (.agg #[.int .i64 op, .int .i64 ty, va]) "loop.example/g00010/impl.face").run Tryz.prog w = .ok (205, .agg #[.int .i64 op, .int .i64 ty, va]) w := by kernel_rfl
@[go_sem] theorem mtHd_arguments (op ty : Int) (va : Value) (w : World) : (method 368 179 (.agg #[.int .i64 op, .int .i64 ty, va]) "loop.example/g00010/impl.arguments").run Tryz.prog w = .ok (203, .agg #[.int .i64 op, .int .i64 ty, va]) w := by kernel_rfl
@[go_sem] theorem mtHd_targets (op ty : Int) (va : Value) (w : World) : (method 368 179 (.agg #[.int .i64 op, .int .i64 ty, va]) "loop.example/g00010/impl.targets").run Tryz.prog w = .ok (208, .agg #[.int .i64 op, .int .i64 ty, va]) w := by kernel_rfl
@[go_sem] theorem mtHd_ownFit (op ty : Int) (va : Value) (w : World) : (method 368 179 (.agg #[.int .i64 op, .int .i64 ty, va]) "loop.example/g00010/impl.ownFit").run Tryz.prog w = .ok (206, .agg #[.int .i64 op, .int .i64 ty, va]) w := by kernel_rfl
@[go_sem] theorem mtHd_resultFits (op ty : Int) (va : Value) (w : World) : (method 368 179 (.agg #[.int .i64 op, .int .i64 ty, va]) "loop.example/g00010/impl.resultFits").run Tryz.prog w = .ok (207, .agg #[.int .i64 op, .int .i64 ty, va]) w := by kernel_rfl
@[go_sem] theorem mtHd_wanted (op ty : Int) (va : Value) (w : World) : (method 368 179 (.agg #[.int .i64 op, .int .i64 ty, va]) "loop.example/g00010/impl.wanted").run Tryz.prog w = .ok (209, .agg #[.int .i64 op, .int .i64 ty, va]) w := by kernel_rfl
@[go_sem] theorem mtHd_casesFit (op ty : Int) (va : Value) (w : World) : (method 368 179 (.agg #[.int .i64 op, .int .i64 ty, va]) "loop.example/g00010/impl.casesFit").run Tryz.prog w = .ok (204, .agg #[.int .i64 op, .int .i64 ty, va]) w := by kernel_rfl
@[go_sem] theorem mtAr_face (op ty fl : Int) (va : Value) (w : World) : (method 368 191 (.agg #[.int .i64 op, .int .i64 ty, va, .int .i64 fl]) "loop.example/g00010/impl.face").run Tryz.prog w = .ok (205, .agg #[.int .i64 op, .int .i64 ty, va]) w := by kernel_rfl
@[go_sem] theorem mtAr_arguments (op ty fl : Int) (va : Value) (w : World) : (method 368 191 (.agg #[.int .i64 op, .int .i64 ty, va, .int .i64 fl]) "loop.example/g00010/impl.arguments").run Tryz.prog w = .ok (203, .agg #[.int .i64 op, .int .i64 ty, va]) w := by kernel_rfl
@[go_sem] theorem mtAr_targets (op ty fl : Int) (va : Value) (w : World) : (method 368 191 (.agg #[.int .i64 op, .int .i64 ty, va, .int .i64 fl]) "loop.example/g00010/impl.targets").run Tryz.prog w = .ok (208, .agg #[.int .i64 op, .int .i64 ty, va]) w := by kernel_rfl
@[go_sem] theorem mtAr_ownFit (op ty fl : Int) (va : Value) (w : World) : (method 368 191 (.agg #[.int .i64 op, .int .i64 ty, va, .int .i64 fl]) "loop.example/g00010/impl.ownFit").run Tryz.prog w = .ok (234, .agg #[.int .i64 op, .int .i64 ty, va, .int .i64 fl]) w := by kernel_rfl
@[go_sem] theorem mtAr_resultFits (op ty fl : Int) (va : Value) (w : World) : (method 368 191 (.agg #[.int .i64 op, .int .i64 ty, va, .int .i64 fl]) "loop.example/g00010/impl.resultFits").run Tryz.prog w = .ok (235, .agg #[.int .i64 op, .int .i64 ty, va, .int .i64 fl]) w := by kernel_rfl
@[go_sem] theorem mtAr_wanted (op ty fl : Int) (va : Value) (w : World) : (method 368 191 (.agg #[.int .i64 op, .int .i64 ty, va, .int .i64 fl]) "loop.example/g00010/impl.wanted").run Tryz.prog w = .ok (236, .agg #[.int .i64 op, .int .i64 ty, va, .int .i64 fl]) w := by kernel_rfl
@[go_sem] theorem mtAr_casesFit (op ty fl : Int) (va : Value) (w : World) : (method 368 191 (.agg #[.int .i64 op, .int .i64 ty, va, .int .i64 fl]) "loop.example/g00010/impl.casesFit").run Tryz.prog w = .ok (204, .agg #[.int .i64 op, .int .i64 ty, va]) w := by kernel_rfl
@[go_sem] theorem mtCm_face (op ty pr : Int) (va : Value) (w : World) : (method 368 181 (.agg #[.int .i64 op, .int .i64 ty, va, .int .i64 pr]) "loop.example/g00010/impl.face").run Tryz.prog w = .ok (205, .agg #[.int .i64 op, .int .i64 ty, va]) w := by kernel_rfl
@[go_sem] theorem mtCm_arguments (op ty pr : Int) (va : Value) (w : World) : (method 368 181 (.agg #[.int .i64 op, .int .i64 ty, va, .int .i64 pr]) "loop.example/g00010/impl.arguments").run Tryz.prog w = .ok (203, .agg #[.int .i64 op, .int .i64 ty, va]) w := by kernel_rfl
@[go_sem] theorem mtCm_targets (op ty pr : Int) (va : Value) (w : World) : (method 368 181 (.agg #[.int .i64 op, .int .i64 ty, va, .int .i64 pr]) "loop.example/g00010/impl.targets").run Tryz.prog w = .ok (208, .agg #[.int .i64 op, .int .i64 ty, va]) w := by kernel_rfl
@[go_sem] theorem mtCm_ownFit (op ty pr : Int) (va : Value) (w : World) : (method 368 181 (.agg #[.int .i64 op, .int .i64 ty, va, .int .i64 pr]) "loop.example/g00010/impl.ownFit").run Tryz.prog w = .ok (214, .agg #[.int .i64 op, .int .i64 ty, va, .int .i64 pr]) w := by kernel_rfl
@[go_sem] theorem mtCm_resultFits (op ty pr : Int) (va : Value) (w : World) : (method 368 181 (.agg #[.int .i64 op, .int .i64 ty, va, .int .i64 pr]) "loop.example/g00010/impl.resultFits").run Tryz.prog w = .ok (215, .agg #[.int .i64 op, .int .i64 ty, va, .int .i64 pr]) w := by kernel_rfl
@[go_sem] theorem mtCm_wanted (op ty pr : Int) (va : Value) (w : World) : (method 368 181 (.agg #[.int .i64 op, .int .i64 ty, va, .int .i64 pr]) "loop.example/g00010/impl.wanted").run Tryz.prog w = .ok (216, .agg #[.int .i64 op, .int .i64 ty, va, .int .i64 pr]) w := by kernel_rfl
@[go_sem] theorem mtCm_casesFit (op ty pr : Int) (va : Value) (w : World) : (method 368 181 (.agg #[.int .i64 op, .int .i64 ty, va, .int .i64 pr]) "loop.example/g00010/impl.casesFit").run Tryz.prog w = .ok (204, .agg #[.int .i64 op, .int .i64 ty, va]) w := by kernel_rfl
@[go_sem] theorem mtAl_face (op ty sz : Int) (va : Value) (w : World) : (method 368 183 (.agg #[.int .i64 op, .int .i64 ty, va, .int .i64 sz]) "loop.example/g00010/impl.face").run Tryz.prog w = .ok (205, .agg #[.int .i64 op, .int .i64 ty, va]) w := by kernel_rfl
@[go_sem] theorem mtAl_arguments (op ty sz : Int) (va : Value) (w : World) : (method 368 183 (.agg #[.int .i64 op, .int .i64 ty, va, .int .i64 sz]) "loop.example/g00010/impl.arguments").run Tryz.prog w = .ok (203, .agg #[.int .i64 op, .int .i64 ty, va]) w := by kernel_rfl
@[go_sem] theorem mtAl_targets (op ty sz : Int) (va : Value) (w : World) : (method 368 183 (.agg #[.int .i64 op, .int .i64 ty, va, .int .i64 sz]) "loop.example/g00010/impl.targets").run Tryz.prog w = .ok (208, .agg #[.int .i64 op, .int .i64 ty, va]) w := by kernel_rfl
@[go_sem] theorem mtAl_ownFit (op ty sz : Int) (va : Value) (w : World) : (method 368 183 (.agg #[.int .i64 op, .int .i64 ty, va, .int .i64 sz]) "loop.example/g00010/impl.ownFit").run Tryz.prog w = .ok (218, .agg #[.int .i64 op, .int .i64 ty, va, .int .i64 sz]) w := by kernel_rfl
@[go_sem] theorem mtAl_resultFits (op ty sz : Int) (va : Value) (w : World) : (method 368 183 (.agg #[.int .i64 op, .int .i64 ty, va, .int .i64 sz]) "loop.example/g00010/impl.resultFits").run Tryz.prog w = .ok (207, .agg #[.int .i64 op, .int .i64 ty, va]) w := by kernel_rfl
@[go_sem] theorem mtAl_wanted (op ty sz : Int) (va : Value) (w : World) : (method 368 183 (.agg #[.int .i64 op, .int .i64 ty, va, .int .i64 sz]) "loop.example/g00010/impl.wanted").run Tryz.prog w = .ok (209, .agg #[.int .i64 op, .int .i64 ty, va]) w := by kernel_rfl
@[go_sem] theorem mtAl_casesFit (op ty sz : Int) (va : Value) (w : World) : (method 368 183 (.agg #[.int .i64 op, .int .i64 ty, va, .int .i64 sz]) "loop.example/g00010/impl.casesFit").run Tryz.prog w = .ok (204, .agg #[.int .i64 op, .int .i64 ty, va]) w := by kernel_rfl
@[go_sem] theorem mtIn_face (op ty ca : Int) (va : Value) (w : World) : (method 368 185 (.agg #[.int .i64 op, .int .i64 ty, va, .int .i64 ca]) "loop.example/g00010/impl.face").run Tryz.prog w = .ok (205, .agg #[.int .i64 op, .int .i64 ty, va]) w := by kernel_rfl
@[go_sem] theorem mtIn_arguments (op ty ca : Int) (va : Value) (w : World) : (method 368 185 (.agg #[.int .i64 op, .int .i64 ty, va, .int .i64 ca]) "loop.example/g00010/impl.arguments").run Tryz.prog w = .ok (203, .agg #[.int .i64 op, .int .i64 ty, va]) w := by kernel_rfl
@[go_sem] theorem mtIn_targets (op ty ca : Int) (va : Value) (w : World) : (method 368 185 (.agg #[.int .i64 op, .int .i64 ty, va, .int .i64 ca]) "loop.example/g00010/impl.targets").run Tryz.prog w = .ok (208, .agg #[.int .i64 op, .int .i64 ty, va]) w := by kernel_rfl
@[go_sem] theorem mtIn_ownFit (op ty ca : Int) (va : Value) (w : World) : (method 368 185 (.agg #[.int .i64 op, .int .i64 ty, va, .int .i64 ca]) "loop.example/g00010/impl.ownFit").run Tryz.prog w = .ok (219, .agg #[.int .i64 op, .int .i64 ty, va, .int .i64 ca]) w := by kernel_rfl
@[go_sem] theorem mtIn_resultFits (op ty ca : Int) (va : Value) (w : World) : (method 368 185 (.agg #[.int .i64 op, .int .i64 ty, va, .int .i64 ca]) "loop.example/g00010/impl.resultFits").run Tryz.prog w = .ok (220, .agg #[.int .i64 op, .int .i64 ty, va, .int .i64 ca]) w := by kernel_rfl
@[go_sem] theorem mtIn_wanted (op ty ca : Int) (va : Value) (w : World) : (method 368 185 (.agg #[.int .i64 op, .int .i64 ty, va, .int .i64 ca]) "loop.example/g00010/impl.wanted").run Tryz.prog w = .ok (221, .agg #[.int .i64 op, .int .i64 ty, va, .int .i64 ca]) w := by kernel_rfl
@[go_sem] theorem mtIn_casesFit (op ty ca : Int) (va : Value) (w : World) : (method 368 185 (.agg #[.int .i64 op, .int .i64 ty, va, .int .i64 ca]) "loop.example/g00010/impl.casesFit").run Tryz.prog w = .ok (204, .agg #[.int .i64 op, .int .i64 ty, va]) w := by kernel_rfl
@[go_sem] theorem mtJn_face (op ty : Int) (va vl : Value) (w : World) : (method 368 187 (.agg #[.int .i64 op, .int .i64 ty, va, vl]) "loop.example/g00010/impl.face").run Tryz.prog w = .ok (205, .agg #[.int .i64 op, .int .i64 ty, va]) w := by kernel_rfl
@[go_sem] theorem mtJn_arguments (op ty : Int) (va vl : Value) (w : World) : (method 368 187 (.agg #[.int .i64 op, .int .i64 ty, va, vl]) "loop.example/g00010/impl.arguments").run Tryz.prog w = .ok (203, .agg #[.int .i64 op, .int .i64 ty, va]) w := by kernel_rfl
@[go_sem] theorem mtJn_targets (op ty : Int) (va vl : Value) (w : World) : (method 368 187 (.agg #[.int .i64 op, .int .i64 ty, va, vl]) "loop.example/g00010/impl.targets").run Tryz.prog w = .ok (223, .agg #[.int .i64 op, .int .i64 ty, va, vl]) w := by kernel_rfl
@[go_sem] theorem mtJn_ownFit (op ty : Int) (va vl : Value) (w : World) : (method 368 187 (.agg #[.int .i64 op, .int .i64 ty, va, vl]) "loop.example/g00010/impl.ownFit").run Tryz.prog w = .ok (222, .agg #[.int .i64 op, .int .i64 ty, va, vl]) w := by kernel_rfl
@[go_sem] theorem mtJn_resultFits (op ty : Int) (va vl : Value) (w : World) : (method 368 187 (.agg #[.int .i64 op, .int .i64 ty, va, vl]) "loop.example/g00010/impl.resultFits").run Tryz.prog w = .ok (207, .agg #[.int .i64 op, .int .i64 ty, va]) w := by kernel_rfl
@[go_sem] theorem mtJn_wanted (op ty : Int) (va vl : Value) (w : World) : (method 368 187 (.agg #[.int .i64 op, .int .i64 ty, va, vl]) "loop.example/g00010/impl.wanted").run Tryz.prog w = .ok (224, .agg #[.int .i64 op, .int .i64 ty, va, vl]) w := by kernel_rfl
@[go_sem] theorem mtJn_casesFit (op ty : Int) (va vl : Value) (w : World) : (method 368 187 (.agg #[.int .i64 op, .int .i64 ty, va, vl]) "loop.example/g00010/impl.casesFit").run Tryz.prog w = .ok (204, .agg #[.int .i64 op, .int .i64 ty, va]) w := by kernel_rfl
@[go_sem] theorem mtDi_face (op ty : Int) (va vl vs : Value) (w : World) : (method 368 189 (.agg #[.int .i64 op, .int .i64 ty, va, vl, vs]) "loop.example/g00010/impl.face").run Tryz.prog w = .ok (205, .agg #[.int .i64 op, .int .i64 ty, va]) w := by kernel_rfl
@[go_sem] theorem mtDi_arguments (op ty : Int) (va vl vs : Value) (w : World) : (method 368 189 (.agg #[.int .i64 op, .int .i64 ty, va, vl, vs]) "loop.example/g00010/impl.arguments").run Tryz.prog w = .ok (203, .agg #[.int .i64 op, .int .i64 ty, va]) w := by kernel_rfl
@[go_sem] theorem mtDi_targets (op ty : Int) (va vl vs : Value) (w : World) : (method 368 189 (.agg #[.int .i64 op, .int .i64 ty, va, vl, vs]) "loop.example/g00010/impl.targets").run Tryz.prog w = .ok (223, .agg #[.int .i64 op, .int .i64 ty, va, vl]) w := by kernel_rfl
@[go_sem] theorem mtDi_ownFit (op ty : Int) (va vl vs : Value) (w : World) : (method 368 189 (.agg #[.int .i64 op, .int .i64 ty, va, vl, vs]) "loop.example/g00010/impl.ownFit").run Tryz.prog w = .ok (230, .agg #[.int .i64 op, .int .i64 ty, va, vl, vs]) w := by kernel_rfl
@[go_sem] theorem mtDi_resultFits (op ty : Int) (va vl vs : Value) (w : World) : (method 368 189 (.agg #[.int .i64 op, .int .i64 ty, va, vl, vs]) "loop.example/g00010/impl.resultFits").run Tryz.prog w = .ok (207, .agg #[.int .i64 op, .int .i64 ty, va]) w := by kernel_rfl
@[go_sem] theorem mtDi_wanted (op ty : Int) (va vl vs : Value) (w : World) : (method 368 189 (.agg #[.int .i64 op, .int .i64 ty, va, vl, vs]) "loop.example/g00010/impl.wanted").run Tryz.prog w = .ok (231, .agg #[.int .i64 op, .int .i64 ty, va, vl, vs]) w := by kernel_rfl
@[go_sem] theorem mtDi_casesFit (op ty : Int) (va vl vs : Value) (w : World) : (method 368 189 (.agg #[.int .i64 op, .int .i64 ty, va, vl, vs]) "loop.example/g00010/impl.casesFit").run Tryz.prog w = .ok (229, .agg #[.int .i64 op, .int .i64 ty, va, vl, vs]) w := by kernel_rfl
end Go.Proofs.YtgdcgjlmkmdklaaGreatDoor

namespace Go.Proofs.YtgdcgjlmkmdklaaGreatDoor
open Go.ChangeShapes Go.WideShapes Go.ChangeAt Go.RowKit
set_option linter.unusedVariables false
set_option linter.unusedSimpArgs false
set_option maxRecDepth 100000 in
set_option maxHeartbeats 4000000 in
theorem tgtHd (a1 a2 a3 a4 a5 : Option Addr) (n1 n2 n3 n4 n5 c1 c2 c3 c4 c5 : Nat) (name : ByteArray) (link res bk : Int) (op ty : Int) (a : Option Addr) (n c : Nat) (w : World) :
  Calls Tryz.prog 108 #[scV (.slice a1 n1 c1) (.slice a2 n2 c2) name link (.slice a3 n3 c3) res (.slice a4 n4 c4) (.slice a5 n5 c5) bk, kHd op ty (.slice a n c)] w fun e w' => e = .returned (.bool true) ∧ Below w.heap.size w w' := by
 exact tl9
set_option maxRecDepth 100000 in
set_option maxHeartbeats 4000000 in
theorem tgtAr (a1 a2 a3 a4 a5 : Option Addr) (n1 n2 n3 n4 n5 c1 c2 c3 c4 c5 : Nat) (name : ByteArray) (link res bk : Int) (op ty fl : Int) (a : Option Addr) (n c : Nat) (w : World) :
  Calls Tryz.prog 108 #[scV (.slice a1 n1 c1) (.slice a2 n2 c2) name link (.slice a3 n3 c3) res (.slice a4 n4 c4) (.slice a5 n5 c5) bk, kAr op ty (.slice a n c) fl] w fun e w' => e = .returned (.bool true) ∧ Below w.heap.size w w' := by
 exact tl9
set_option maxRecDepth 100000 in
set_option maxHeartbeats 4000000 in
theorem tgtCm (a1 a2 a3 a4 a5 : Option Addr) (n1 n2 n3 n4 n5 c1 c2 c3 c4 c5 : Nat) (name : ByteArray) (link res bk : Int) (op ty pr : Int) (a : Option Addr) (n c : Nat) (w : World) :
  Calls Tryz.prog 108 #[scV (.slice a1 n1 c1) (.slice a2 n2 c2) name link (.slice a3 n3 c3) res (.slice a4 n4 c4) (.slice a5 n5 c5) bk, kCm op ty (.slice a n c) pr] w fun e w' => e = .returned (.bool true) ∧ Below w.heap.size w w' := by
 exact tl9
set_option maxRecDepth 100000 in
set_option maxHeartbeats 4000000 in
theorem tgtAl (a1 a2 a3 a4 a5 : Option Addr) (n1 n2 n3 n4 n5 c1 c2 c3 c4 c5 : Nat) (name : ByteArray) (link res bk : Int) (op ty sz : Int) (a : Option Addr) (n c : Nat) (w : World) :
  Calls Tryz.prog 108 #[scV (.slice a1 n1 c1) (.slice a2 n2 c2) name link (.slice a3 n3 c3) res (.slice a4 n4 c4) (.slice a5 n5 c5) bk, kAl op ty (.slice a n c) sz] w fun e w' => e = .returned (.bool true) ∧ Below w.heap.size w w' := by
 exact tl9
set_option maxRecDepth 100000 in
set_option maxHeartbeats 4000000 in
theorem tgtIn (a1 a2 a3 a4 a5 : Option Addr) (n1 n2 n3 n4 n5 c1 c2 c3 c4 c5 : Nat) (name : ByteArray) (link res bk : Int) (op ty ca : Int) (a : Option Addr) (n c : Nat) (w : World) :
  Calls Tryz.prog 108 #[scV (.slice a1 n1 c1) (.slice a2 n2 c2) name link (.slice a3 n3 c3) res (.slice a4 n4 c4) (.slice a5 n5 c5) bk, kIn op ty (.slice a n c) ca] w fun e w' => e = .returned (.bool true) ∧ Below w.heap.size w w' := by
 exact tl9
set_option maxRecDepth 100000 in
set_option maxHeartbeats 4000000 in
theorem tgtJn (a1 a2 a3 a4 a5 : Option Addr) (n1 n2 n3 n4 n5 c1 c2 c3 c4 c5 : Nat) (name : ByteArray) (link res bk : Int) (op ty : Int) (a : Option Addr) (n c : Nat) (vl : Value) (bl : List Int) (w : World) {lo : Nat} (h : Ints lo .i64 w vl bl) (hn : n4 ≤ 140737488355328) :
  Calls Tryz.prog 108 #[scV (.slice a1 n1 c1) (.slice a2 n2 c2) name link (.slice a3 n3 c3) res (.slice a4 n4 c4) (.slice a5 n5 c5) bk, kJn op ty (.slice a n c) vl] w fun e w' => e = .returned (.bool (bl.all fun b => decide (0 ≤ b) && decide (b < n4))) ∧ Below w.heap.size w w' := by
 exact tl5
set_option maxRecDepth 100000 in
set_option maxHeartbeats 4000000 in
theorem tgtDi (a1 a2 a3 a4 a5 : Option Addr) (n1 n2 n3 n4 n5 c1 c2 c3 c4 c5 : Nat) (name : ByteArray) (link res bk : Int) (op ty : Int) (a : Option Addr) (n c : Nat) (vl : Value) (bl : List Int) (vs : Value) (w : World) {lo : Nat} (h : Ints lo .i64 w vl bl) (hn : n4 ≤ 140737488355328) :
  Calls Tryz.prog 108 #[scV (.slice a1 n1 c1) (.slice a2 n2 c2) name link (.slice a3 n3 c3) res (.slice a4 n4 c4) (.slice a5 n5 c5) bk, kDi op ty (.slice a n c) vl vs] w fun e w' => e = .returned (.bool (bl.all fun b => decide (0 ≤ b) && decide (b < n4))) ∧ Below w.heap.size w w' := by
 exact tl5
end Go.Proofs.YtgdcgjlmkmdklaaGreatDoor

namespace Go.Proofs.YtgdcgjlmkmdklaaGreatDoor
open Go.ChangeShapes Go.WideShapes Go.ChangeAt Go.RowKit
set_option linter.unusedVariables false
set_option linter.unusedSimpArgs false
def agB (ng : Nat) (ts : List Int) (args : List OpD) (wan : List Int) : Bool := (List.range args.length).all fun k => decide ((args.getD k default).t = wan.getD k 0) && opB ng ts (args.getD k default)
theorem agB_iff (ng : Nat) (ts : List Int) (args : List OpD) (wan : List Int) : agB ng ts args wan = true ↔ ∀ k, k < args.length → (args.getD k default).t = wan.getD k 0 ∧ opB ng ts (args.getD k default) = true := by
 unfold agB
 exact tl101
set_option maxRecDepth 100000 in
set_option maxHeartbeats 4000000 in
theorem argHd (gs : List GlD) (fs : List FnD) (ts : List Int) (a1 a2 a3 a4 a5 : Option Addr) (params : List Int) (blocks : List (List InD)) (c1 c2 c3 c4 c5 : Nat) (name : ByteArray) (link res bk : Int) (op ty : Int) (aa al as' : Option Addr) (args : List OpD) (bl ws : List Int) (ca' cl cs : Nat) (w : World) {lo l2 : Nat} (hm : MoAt lo w gs fs (.slice a1 gs.length c1) (.slice a2 fs.length c2)) (ht : Ints l2 .i64 w (.slice a5 ts.length c5) ts) (ha : Ops lo w (.slice aa args.length ca') args) (hw : Wid w) (hab : ∀ q ∈ args, OpB q) (hlen : (wanH op ty args res).length = args.length) :
  Calls Tryz.prog 109 #[scV (.slice a1 gs.length c1) (.slice a2 fs.length c2) name link (.slice a3 params.length c3) res (.slice a4 blocks.length c4) (.slice a5 ts.length c5) bk, kHd op ty (.slice aa args.length ca')] w fun e w' => e = .returned (.bool (agB gs.length ts args (wanH op ty args res) && true)) ∧ Below w.heap.size w w' := by
 exact tl136
set_option maxRecDepth 100000 in
set_option maxHeartbeats 4000000 in
theorem argAr (gs : List GlD) (fs : List FnD) (ts : List Int) (a1 a2 a3 a4 a5 : Option Addr) (params : List Int) (blocks : List (List InD)) (c1 c2 c3 c4 c5 : Nat) (name : ByteArray) (link res bk : Int) (op ty fl : Int) (aa al as' : Option Addr) (args : List OpD) (bl ws : List Int) (ca' cl cs : Nat) (w : World) {lo l2 : Nat} (hm : MoAt lo w gs fs (.slice a1 gs.length c1) (.slice a2 fs.length c2)) (ht : Ints l2 .i64 w (.slice a5 ts.length c5) ts) (ha : Ops lo w (.slice aa args.length ca') args) (hw : Wid w) (hab : ∀ q ∈ args, OpB q) (hlen : ([ty, ty]).length = args.length) :
  Calls Tryz.prog 109 #[scV (.slice a1 gs.length c1) (.slice a2 fs.length c2) name link (.slice a3 params.length c3) res (.slice a4 blocks.length c4) (.slice a5 ts.length c5) bk, kAr op ty (.slice aa args.length ca') fl] w fun e w' => e = .returned (.bool (agB gs.length ts args ([ty, ty]) && true)) ∧ Below w.heap.size w w' := by
 have hng : gs.length ≤ 140737488355328 := by obtain ⟨_, _, q, _⟩ := hm.g.ex; exact q.le
 obtain ⟨ba, oa, ⟨⟨_, _, hve, k1, k2⟩, k3⟩, -, hac⟩ := ha.ex
 injection hve with e1 e2 e3
 subst e1 e3
 clear e2
 have g1 : (args.length : Int) ≤ 140737488355328 := by omega
 obtain ⟨W0, hW⟩ : ∃ W0, W0 = w.alloc (scC (.slice a1 gs.length c1) (.slice a2 fs.length c2) name link (.slice a3 params.length c3) res (.slice a4 blocks.length c4) (.slice a5 ts.length c5) bk) := ⟨_, rfl⟩
 have BB : Below w.heap.size w W0 := by rw [hW]; exact bel_alloc w _
 have sC0 : W0.heap[w.heap.size]? = some (scC (.slice a1 gs.length c1) (.slice a2 fs.length c2) name link (.slice a3 params.length c3) res (.slice a4 blocks.length c4) (.slice a5 ts.length c5) bk) := by rw [hW]; exact new_at w _
 have WA : Kp (∀ W, Below w.heap.size w W → Calls Tryz.prog 236 #[.agg #[.int .i64 op, .int .i64 ty, (.slice aa args.length ca'), .int .i64 fl], scV (.slice a1 gs.length c1) (.slice a2 fs.length c2) name link (.slice a3 params.length c3) res (.slice a4 blocks.length c4) (.slice a5 ts.length c5) bk] W fun e w' => ∃ v, e = .returned v ∧ Ints 0 .i64 w' v ([ty, ty]) ∧ Below W.heap.size W w') := ⟨fun W hB => arWan op ty fl aa args.length ca' a1 a2 a3 a4 a5 gs.length fs.length params.length blocks.length ts.length c1 c2 c3 c4 c5 name link res bk W⟩
 have CA : Kp (∀ W, Calls Tryz.prog 203 #[hdV op ty (.slice aa args.length ca')] W fun e w' => e = .returned (.slice aa args.length ca') ∧ Below W.heap.size W w') := ⟨fun W => hdArgs op ty aa args.length ca' W⟩
 have CC : Kp (∀ W, Below w.heap.size w W → Calls Tryz.prog 204 #[.agg #[.int .i64 op, .int .i64 ty, (.slice aa args.length ca')]] W fun e w' => e = .returned (.bool (true)) ∧ Below W.heap.size W w') := ⟨fun W hB => hdCases op ty aa args.length ca' W⟩
 have CO : Kp (∀ W, Below w.heap.size w W → ∀ i, i < args.length → Calls Tryz.prog 142 #[scV (.slice a1 gs.length c1) (.slice a2 fs.length c2) name link (.slice a3 params.length c3) res (.slice a4 blocks.length c4) (.slice a5 ts.length c5) bk, opV4 (args.getD i default)] W fun e w' => e = .returned (.bool (opB gs.length ts (args.getD i default))) ∧ Below W.heap.size W w') := ⟨fun W hB i hi => by
  exact tl16⟩
 have AC : Kp (∀ W, Below w.heap.size w W → ∀ i, i < args.length → OpAt W ba (oa + i * 4) (args.getD i default)) := ⟨fun W hB i hi => by
  rw [inD_get hi]
  exact (hac i hi).keep hB⟩
 have XS : Kp (∀ W, Below W0.heap.size W0 W → W.heap[w.heap.size]? = some (scC (.slice a1 gs.length c1) (.slice a2 fs.length c2) name link (.slice a3 params.length c3) res (.slice a4 blocks.length c4) (.slice a5 ts.length c5) bk)) := ⟨fun W hB => kept_at sC0 hB⟩
 have IFF := Kp.mk (agB_iff gs.length ts args ([ty, ty]))
 obtain ⟨wan, hwan⟩ : ∃ wan, wan = ([ty, ty]) := ⟨_, rfl⟩
 exact tl163
set_option maxRecDepth 100000 in
set_option maxHeartbeats 4000000 in
theorem argCm (gs : List GlD) (fs : List FnD) (ts : List Int) (a1 a2 a3 a4 a5 : Option Addr) (params : List Int) (blocks : List (List InD)) (c1 c2 c3 c4 c5 : Nat) (name : ByteArray) (link res bk : Int) (op ty pr : Int) (aa al as' : Option Addr) (args : List OpD) (bl ws : List Int) (ca' cl cs : Nat) (w : World) {lo l2 : Nat} (hm : MoAt lo w gs fs (.slice a1 gs.length c1) (.slice a2 fs.length c2)) (ht : Ints l2 .i64 w (.slice a5 ts.length c5) ts) (ha : Ops lo w (.slice aa args.length ca') args) (hw : Wid w) (hab : ∀ q ∈ args, OpB q) (hlen : ([cmF pr args, cmF pr args]).length = args.length) :
  Calls Tryz.prog 109 #[scV (.slice a1 gs.length c1) (.slice a2 fs.length c2) name link (.slice a3 params.length c3) res (.slice a4 blocks.length c4) (.slice a5 ts.length c5) bk, kCm op ty (.slice aa args.length ca') pr] w fun e w' => e = .returned (.bool (agB gs.length ts args ([cmF pr args, cmF pr args]) && true)) ∧ Below w.heap.size w w' := by
 have hng : gs.length ≤ 140737488355328 := by obtain ⟨_, _, q, _⟩ := hm.g.ex; exact q.le
 obtain ⟨ba, oa, ⟨⟨_, _, hve, k1, k2⟩, k3⟩, -, hac⟩ := ha.ex
 injection hve with e1 e2 e3
 subst e1 e3
 clear e2
 have g1 : (args.length : Int) ≤ 140737488355328 := by omega
 obtain ⟨W0, hW⟩ : ∃ W0, W0 = w.alloc (scC (.slice a1 gs.length c1) (.slice a2 fs.length c2) name link (.slice a3 params.length c3) res (.slice a4 blocks.length c4) (.slice a5 ts.length c5) bk) := ⟨_, rfl⟩
 have BB : Below w.heap.size w W0 := by rw [hW]; exact bel_alloc w _
 have sC0 : W0.heap[w.heap.size]? = some (scC (.slice a1 gs.length c1) (.slice a2 fs.length c2) name link (.slice a3 params.length c3) res (.slice a4 blocks.length c4) (.slice a5 ts.length c5) bk) := by rw [hW]; exact new_at w _
 have WA : Kp (∀ W, Below w.heap.size w W → Calls Tryz.prog 216 #[.agg #[.int .i64 op, .int .i64 ty, (.slice aa args.length ca'), .int .i64 pr], scV (.slice a1 gs.length c1) (.slice a2 fs.length c2) name link (.slice a3 params.length c3) res (.slice a4 blocks.length c4) (.slice a5 ts.length c5) bk] W fun e w' => ∃ v, e = .returned v ∧ Ints 0 .i64 w' v ([cmF pr args, cmF pr args]) ∧ Below W.heap.size W w') := ⟨fun W hB => cmWan op ty pr (.slice aa args.length ca') args a1 a2 a3 a4 a5 gs.length fs.length params.length blocks.length ts.length c1 c2 c3 c4 c5 name link res bk W (ha.keep hB) (hw.below hB)⟩
 have CA : Kp (∀ W, Calls Tryz.prog 203 #[hdV op ty (.slice aa args.length ca')] W fun e w' => e = .returned (.slice aa args.length ca') ∧ Below W.heap.size W w') := ⟨fun W => hdArgs op ty aa args.length ca' W⟩
 have CC : Kp (∀ W, Below w.heap.size w W → Calls Tryz.prog 204 #[.agg #[.int .i64 op, .int .i64 ty, (.slice aa args.length ca')]] W fun e w' => e = .returned (.bool (true)) ∧ Below W.heap.size W w') := ⟨fun W hB => hdCases op ty aa args.length ca' W⟩
 have CO : Kp (∀ W, Below w.heap.size w W → ∀ i, i < args.length → Calls Tryz.prog 142 #[scV (.slice a1 gs.length c1) (.slice a2 fs.length c2) name link (.slice a3 params.length c3) res (.slice a4 blocks.length c4) (.slice a5 ts.length c5) bk, opV4 (args.getD i default)] W fun e w' => e = .returned (.bool (opB gs.length ts (args.getD i default))) ∧ Below W.heap.size W w') := ⟨fun W hB i hi => by
  exact tl16⟩
 have AC : Kp (∀ W, Below w.heap.size w W → ∀ i, i < args.length → OpAt W ba (oa + i * 4) (args.getD i default)) := ⟨fun W hB i hi => by
  rw [inD_get hi]
  exact (hac i hi).keep hB⟩
 have XS : Kp (∀ W, Below W0.heap.size W0 W → W.heap[w.heap.size]? = some (scC (.slice a1 gs.length c1) (.slice a2 fs.length c2) name link (.slice a3 params.length c3) res (.slice a4 blocks.length c4) (.slice a5 ts.length c5) bk)) := ⟨fun W hB => kept_at sC0 hB⟩
 have IFF := Kp.mk (agB_iff gs.length ts args ([cmF pr args, cmF pr args]))
 obtain ⟨wan, hwan⟩ : ∃ wan, wan = ([cmF pr args, cmF pr args]) := ⟨_, rfl⟩
 exact tl163
set_option maxRecDepth 100000 in
set_option maxHeartbeats 4000000 in
theorem argAl (gs : List GlD) (fs : List FnD) (ts : List Int) (a1 a2 a3 a4 a5 : Option Addr) (params : List Int) (blocks : List (List InD)) (c1 c2 c3 c4 c5 : Nat) (name : ByteArray) (link res bk : Int) (op ty sz : Int) (aa al as' : Option Addr) (args : List OpD) (bl ws : List Int) (ca' cl cs : Nat) (w : World) {lo l2 : Nat} (hm : MoAt lo w gs fs (.slice a1 gs.length c1) (.slice a2 fs.length c2)) (ht : Ints l2 .i64 w (.slice a5 ts.length c5) ts) (ha : Ops lo w (.slice aa args.length ca') args) (hw : Wid w) (hab : ∀ q ∈ args, OpB q) (hlen : (wanH op ty args res).length = args.length) :
  Calls Tryz.prog 109 #[scV (.slice a1 gs.length c1) (.slice a2 fs.length c2) name link (.slice a3 params.length c3) res (.slice a4 blocks.length c4) (.slice a5 ts.length c5) bk, kAl op ty (.slice aa args.length ca') sz] w fun e w' => e = .returned (.bool (agB gs.length ts args (wanH op ty args res) && true)) ∧ Below w.heap.size w w' := by
 exact tl136
set_option maxRecDepth 100000 in
set_option maxHeartbeats 4000000 in
theorem argIn (gs : List GlD) (fs : List FnD) (ts : List Int) (a1 a2 a3 a4 a5 : Option Addr) (params : List Int) (blocks : List (List InD)) (c1 c2 c3 c4 c5 : Nat) (name : ByteArray) (link res bk : Int) (op ty ca : Int) (aa al as' : Option Addr) (args : List OpD) (bl ws : List Int) (ca' cl cs : Nat) (w : World) {lo l2 : Nat} (hm : MoAt lo w gs fs (.slice a1 gs.length c1) (.slice a2 fs.length c2)) (ht : Ints l2 .i64 w (.slice a5 ts.length c5) ts) (ha : Ops lo w (.slice aa args.length ca') args) (hw : Wid w) (hab : ∀ q ∈ args, OpB q) (hlen : ((if isIx ca fs.length = true then (calD fs ca).params else [])).length = args.length) :
  Calls Tryz.prog 109 #[scV (.slice a1 gs.length c1) (.slice a2 fs.length c2) name link (.slice a3 params.length c3) res (.slice a4 blocks.length c4) (.slice a5 ts.length c5) bk, kIn op ty (.slice aa args.length ca') ca] w fun e w' => e = .returned (.bool (agB gs.length ts args ((if isIx ca fs.length = true then (calD fs ca).params else [])) && true)) ∧ Below w.heap.size w w' := by
 have hng : gs.length ≤ 140737488355328 := by obtain ⟨_, _, q, _⟩ := hm.g.ex; exact q.le
 obtain ⟨ba, oa, ⟨⟨_, _, hve, k1, k2⟩, k3⟩, -, hac⟩ := ha.ex
 injection hve with e1 e2 e3
 subst e1 e3
 clear e2
 have g1 : (args.length : Int) ≤ 140737488355328 := by omega
 obtain ⟨W0, hW⟩ : ∃ W0, W0 = w.alloc (scC (.slice a1 gs.length c1) (.slice a2 fs.length c2) name link (.slice a3 params.length c3) res (.slice a4 blocks.length c4) (.slice a5 ts.length c5) bk) := ⟨_, rfl⟩
 have BB : Below w.heap.size w W0 := by rw [hW]; exact bel_alloc w _
 have sC0 : W0.heap[w.heap.size]? = some (scC (.slice a1 gs.length c1) (.slice a2 fs.length c2) name link (.slice a3 params.length c3) res (.slice a4 blocks.length c4) (.slice a5 ts.length c5) bk) := by rw [hW]; exact new_at w _
 have WA : Kp (∀ W, Below w.heap.size w W → Calls Tryz.prog 221 #[.agg #[.int .i64 op, .int .i64 ty, (.slice aa args.length ca'), .int .i64 ca], scV (.slice a1 gs.length c1) (.slice a2 fs.length c2) name link (.slice a3 params.length c3) res (.slice a4 blocks.length c4) (.slice a5 ts.length c5) bk] W fun e w' => ∃ v, e = .returned v ∧ Ints 0 .i64 w' v ((if isIx ca fs.length = true then (calD fs ca).params else [])) ∧ Below W.heap.size W w') := ⟨fun W hB => inWan op ty ca aa args.length ca' a1 a2 a3 a4 a5 gs.length params.length blocks.length ts.length c1 c2 c3 c4 c5 fs name link res bk W (hm.f.keep hB)⟩
 have CA : Kp (∀ W, Calls Tryz.prog 203 #[hdV op ty (.slice aa args.length ca')] W fun e w' => e = .returned (.slice aa args.length ca') ∧ Below W.heap.size W w') := ⟨fun W => hdArgs op ty aa args.length ca' W⟩
 have CC : Kp (∀ W, Below w.heap.size w W → Calls Tryz.prog 204 #[.agg #[.int .i64 op, .int .i64 ty, (.slice aa args.length ca')]] W fun e w' => e = .returned (.bool (true)) ∧ Below W.heap.size W w') := ⟨fun W hB => hdCases op ty aa args.length ca' W⟩
 have CO : Kp (∀ W, Below w.heap.size w W → ∀ i, i < args.length → Calls Tryz.prog 142 #[scV (.slice a1 gs.length c1) (.slice a2 fs.length c2) name link (.slice a3 params.length c3) res (.slice a4 blocks.length c4) (.slice a5 ts.length c5) bk, opV4 (args.getD i default)] W fun e w' => e = .returned (.bool (opB gs.length ts (args.getD i default))) ∧ Below W.heap.size W w') := ⟨fun W hB i hi => by
  exact tl16⟩
 have AC : Kp (∀ W, Below w.heap.size w W → ∀ i, i < args.length → OpAt W ba (oa + i * 4) (args.getD i default)) := ⟨fun W hB i hi => by
  rw [inD_get hi]
  exact (hac i hi).keep hB⟩
 have XS : Kp (∀ W, Below W0.heap.size W0 W → W.heap[w.heap.size]? = some (scC (.slice a1 gs.length c1) (.slice a2 fs.length c2) name link (.slice a3 params.length c3) res (.slice a4 blocks.length c4) (.slice a5 ts.length c5) bk)) := ⟨fun W hB => kept_at sC0 hB⟩
 have IFF := Kp.mk (agB_iff gs.length ts args ((if isIx ca fs.length = true then (calD fs ca).params else [])))
 obtain ⟨wan, hwan⟩ : ∃ wan, wan = ((if isIx ca fs.length = true then (calD fs ca).params else [])) := ⟨_, rfl⟩
 exact tl163
set_option maxRecDepth 100000 in
set_option maxHeartbeats 4000000 in
theorem argJn (gs : List GlD) (fs : List FnD) (ts : List Int) (a1 a2 a3 a4 a5 : Option Addr) (params : List Int) (blocks : List (List InD)) (c1 c2 c3 c4 c5 : Nat) (name : ByteArray) (link res bk : Int) (op ty : Int) (aa al as' : Option Addr) (args : List OpD) (bl ws : List Int) (ca' cl cs : Nat) (w : World) {lo l2 : Nat} (hm : MoAt lo w gs fs (.slice a1 gs.length c1) (.slice a2 fs.length c2)) (ht : Ints l2 .i64 w (.slice a5 ts.length c5) ts) (ha : Ops lo w (.slice aa args.length ca') args) (hj : op = 20 → 1 ≤ args.length) (hn : args.length ≤ 1048576) (hw : Wid w) (hab : ∀ q ∈ args, OpB q) (hlen : (wanJ op ty args.length).length = args.length) :
  Calls Tryz.prog 109 #[scV (.slice a1 gs.length c1) (.slice a2 fs.length c2) name link (.slice a3 params.length c3) res (.slice a4 blocks.length c4) (.slice a5 ts.length c5) bk, kJn op ty (.slice aa args.length ca') (.slice al bl.length cl)] w fun e w' => e = .returned (.bool (agB gs.length ts args (wanJ op ty args.length) && true)) ∧ Below w.heap.size w w' := by
 have hng : gs.length ≤ 140737488355328 := by obtain ⟨_, _, q, _⟩ := hm.g.ex; exact q.le
 obtain ⟨ba, oa, ⟨⟨_, _, hve, k1, k2⟩, k3⟩, -, hac⟩ := ha.ex
 injection hve with e1 e2 e3
 subst e1 e3
 clear e2
 have g1 : (args.length : Int) ≤ 140737488355328 := by omega
 obtain ⟨W0, hW⟩ : ∃ W0, W0 = w.alloc (scC (.slice a1 gs.length c1) (.slice a2 fs.length c2) name link (.slice a3 params.length c3) res (.slice a4 blocks.length c4) (.slice a5 ts.length c5) bk) := ⟨_, rfl⟩
 have BB : Below w.heap.size w W0 := by rw [hW]; exact bel_alloc w _
 have sC0 : W0.heap[w.heap.size]? = some (scC (.slice a1 gs.length c1) (.slice a2 fs.length c2) name link (.slice a3 params.length c3) res (.slice a4 blocks.length c4) (.slice a5 ts.length c5) bk) := by rw [hW]; exact new_at w _
 have WA : Kp (∀ W, Below w.heap.size w W → Calls Tryz.prog 224 #[.agg #[.int .i64 op, .int .i64 ty, (.slice aa args.length ca'), (.slice al bl.length cl)], scV (.slice a1 gs.length c1) (.slice a2 fs.length c2) name link (.slice a3 params.length c3) res (.slice a4 blocks.length c4) (.slice a5 ts.length c5) bk] W fun e w' => ∃ v, e = .returned v ∧ Ints 0 .i64 w' v (wanJ op ty args.length) ∧ Below W.heap.size W w') := ⟨fun W hB => jnWan op ty aa al args.length ca' bl.length cl a1 a2 a3 a4 a5 gs.length fs.length params.length blocks.length ts.length c1 c2 c3 c4 c5 name link res bk W hj hn⟩
 have CA : Kp (∀ W, Calls Tryz.prog 203 #[hdV op ty (.slice aa args.length ca')] W fun e w' => e = .returned (.slice aa args.length ca') ∧ Below W.heap.size W w') := ⟨fun W => hdArgs op ty aa args.length ca' W⟩
 have CC : Kp (∀ W, Below w.heap.size w W → Calls Tryz.prog 204 #[.agg #[.int .i64 op, .int .i64 ty, (.slice aa args.length ca')]] W fun e w' => e = .returned (.bool (true)) ∧ Below W.heap.size W w') := ⟨fun W hB => hdCases op ty aa args.length ca' W⟩
 have CO : Kp (∀ W, Below w.heap.size w W → ∀ i, i < args.length → Calls Tryz.prog 142 #[scV (.slice a1 gs.length c1) (.slice a2 fs.length c2) name link (.slice a3 params.length c3) res (.slice a4 blocks.length c4) (.slice a5 ts.length c5) bk, opV4 (args.getD i default)] W fun e w' => e = .returned (.bool (opB gs.length ts (args.getD i default))) ∧ Below W.heap.size W w') := ⟨fun W hB i hi => by
  exact tl16⟩
 have AC : Kp (∀ W, Below w.heap.size w W → ∀ i, i < args.length → OpAt W ba (oa + i * 4) (args.getD i default)) := ⟨fun W hB i hi => by
  rw [inD_get hi]
  exact (hac i hi).keep hB⟩
 have XS : Kp (∀ W, Below W0.heap.size W0 W → W.heap[w.heap.size]? = some (scC (.slice a1 gs.length c1) (.slice a2 fs.length c2) name link (.slice a3 params.length c3) res (.slice a4 blocks.length c4) (.slice a5 ts.length c5) bk)) := ⟨fun W hB => kept_at sC0 hB⟩
 have IFF := Kp.mk (agB_iff gs.length ts args (wanJ op ty args.length))
 obtain ⟨wan, hwan⟩ : ∃ wan, wan = (wanJ op ty args.length) := ⟨_, rfl⟩
 exact tl163
set_option maxRecDepth 100000 in
set_option maxHeartbeats 4000000 in
theorem argDi (gs : List GlD) (fs : List FnD) (ts : List Int) (a1 a2 a3 a4 a5 : Option Addr) (params : List Int) (blocks : List (List InD)) (c1 c2 c3 c4 c5 : Nat) (name : ByteArray) (link res bk : Int) (op ty : Int) (aa al as' : Option Addr) (args : List OpD) (bl ws : List Int) (ca' cl cs : Nat) (w : World) {lo l2 : Nat} (hm : MoAt lo w gs fs (.slice a1 gs.length c1) (.slice a2 fs.length c2)) (ht : Ints l2 .i64 w (.slice a5 ts.length c5) ts) (ha : Ops lo w (.slice aa args.length ca') args) (hs : Ints lo .u64 w (.slice as' ws.length cs) ws) (hsb : ∀ z ∈ ws, 0 ≤ z ∧ z ≤ 18446744073709551615) (hw : Wid w) (hab : ∀ q ∈ args, OpB q) (hlen : ([fwd args]).length = args.length) :
  Calls Tryz.prog 109 #[scV (.slice a1 gs.length c1) (.slice a2 fs.length c2) name link (.slice a3 params.length c3) res (.slice a4 blocks.length c4) (.slice a5 ts.length c5) bk, kDi op ty (.slice aa args.length ca') (.slice al bl.length cl) (.slice as' ws.length cs)] w fun e w' => e = .returned (.bool (agB gs.length ts args ([fwd args]) && (ws.all fun v => isW (fty args) v))) ∧ Below w.heap.size w w' := by
 have hng : gs.length ≤ 140737488355328 := by obtain ⟨_, _, q, _⟩ := hm.g.ex; exact q.le
 obtain ⟨ba, oa, ⟨⟨_, _, hve, k1, k2⟩, k3⟩, -, hac⟩ := ha.ex
 injection hve with e1 e2 e3
 subst e1 e3
 clear e2
 have g1 : (args.length : Int) ≤ 140737488355328 := by omega
 obtain ⟨W0, hW⟩ : ∃ W0, W0 = w.alloc (scC (.slice a1 gs.length c1) (.slice a2 fs.length c2) name link (.slice a3 params.length c3) res (.slice a4 blocks.length c4) (.slice a5 ts.length c5) bk) := ⟨_, rfl⟩
 have BB : Below w.heap.size w W0 := by rw [hW]; exact bel_alloc w _
 have sC0 : W0.heap[w.heap.size]? = some (scC (.slice a1 gs.length c1) (.slice a2 fs.length c2) name link (.slice a3 params.length c3) res (.slice a4 blocks.length c4) (.slice a5 ts.length c5) bk) := by rw [hW]; exact new_at w _
 have WA : Kp (∀ W, Below w.heap.size w W → Calls Tryz.prog 231 #[.agg #[.int .i64 op, .int .i64 ty, (.slice aa args.length ca'), (.slice al bl.length cl), (.slice as' ws.length cs)], scV (.slice a1 gs.length c1) (.slice a2 fs.length c2) name link (.slice a3 params.length c3) res (.slice a4 blocks.length c4) (.slice a5 ts.length c5) bk] W fun e w' => ∃ v, e = .returned v ∧ Ints 0 .i64 w' v ([fwd args]) ∧ Below W.heap.size W w') := ⟨fun W hB => diWan op ty (.slice aa args.length ca') args al as' bl.length cl ws.length cs a1 a2 a3 a4 a5 gs.length fs.length params.length blocks.length ts.length c1 c2 c3 c4 c5 name link res bk W (ha.keep hB) (hw.below hB)⟩
 have CA : Kp (∀ W, Calls Tryz.prog 203 #[hdV op ty (.slice aa args.length ca')] W fun e w' => e = .returned (.slice aa args.length ca') ∧ Below W.heap.size W w') := ⟨fun W => hdArgs op ty aa args.length ca' W⟩
 have CC : Kp (∀ W, Below w.heap.size w W → Calls Tryz.prog 229 #[.agg #[.int .i64 op, .int .i64 ty, (.slice aa args.length ca'), (.slice al bl.length cl), (.slice as' ws.length cs)]] W fun e w' => e = .returned (.bool ((ws.all fun v => isW (fty args) v))) ∧ Below W.heap.size W w') := ⟨fun W hB => diCas op ty (.slice aa args.length ca') args al bl.length cl (.slice as' ws.length cs) ws W (ha.keep hB) (hs.keep hB) hsb (hw.below hB)⟩
 have CO : Kp (∀ W, Below w.heap.size w W → ∀ i, i < args.length → Calls Tryz.prog 142 #[scV (.slice a1 gs.length c1) (.slice a2 fs.length c2) name link (.slice a3 params.length c3) res (.slice a4 blocks.length c4) (.slice a5 ts.length c5) bk, opV4 (args.getD i default)] W fun e w' => e = .returned (.bool (opB gs.length ts (args.getD i default))) ∧ Below W.heap.size W w') := ⟨fun W hB i hi => by
  exact tl16⟩
 have AC : Kp (∀ W, Below w.heap.size w W → ∀ i, i < args.length → OpAt W ba (oa + i * 4) (args.getD i default)) := ⟨fun W hB i hi => by
  rw [inD_get hi]
  exact (hac i hi).keep hB⟩
 have XS : Kp (∀ W, Below W0.heap.size W0 W → W.heap[w.heap.size]? = some (scC (.slice a1 gs.length c1) (.slice a2 fs.length c2) name link (.slice a3 params.length c3) res (.slice a4 blocks.length c4) (.slice a5 ts.length c5) bk)) := ⟨fun W hB => kept_at sC0 hB⟩
 have IFF := Kp.mk (agB_iff gs.length ts args ([fwd args]))
 obtain ⟨wan, hwan⟩ : ∃ wan, wan = ([fwd args]) := ⟨_, rfl⟩
 rw [← hwan] at WA IFF hlen ⊢
 obtain ⟨R, hR⟩ : ∃ R, R = agB gs.length ts args wan := ⟨_, rfl⟩
 rw [← hR] at IFF ⊢
 obtain ⟨S, hS⟩ : ∃ S, S = ((ws.all fun v => isW (fty args) v)) := ⟨_, rfl⟩
 rw [← hS] at CC ⊢
 replace hW := Kp.mk hW
 replace k2 := Kp.mk k2
 replace hlen := Kp.mk hlen
 clear hac hwan hR hS ha ht hm hw sC0 hab hs hsb
 exact tl2
end Go.Proofs.YtgdcgjlmkmdklaaGreatDoor
