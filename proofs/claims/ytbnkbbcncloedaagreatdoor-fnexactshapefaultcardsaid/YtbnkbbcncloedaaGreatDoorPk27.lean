/- The packed texts Im9. -/
import Derived.Test.YtbnkbbcncloedaaGreatDoorRows
import Derived.WalkKit
import Derived.ProofKit
import Derived.OpenShut
import Derived.WalkLawsBesides
import Derived.Below
import Derived.BigQuiet
import Derived.Lib.QuietBelow
import Derived.Lib.AtoiErrMem
import Derived.Deep.OwnRows
import Derived.Deep.DeepCutAuto
import Derived.RangeFuncNested
import Derived.RangeFuncBound
import Derived.RangeFuncCalls
import Derived.RangeFuncLeaves
import Derived.OwnWalkIn
import Derived.TacticsInMore
import Derived.LoopNIn
import Derived.LoopIn
import Derived.Shelf.Abstract
import Derived.Maps.AppendAt
import Derived.OwnWalk
import Derived.Lib.LaidTab
import Derived.Laws.BitsAllLaws
import Derived.Laws.Closers25b
import Derived.Deep.RegionWith
import Derived.Laws.MathBits
import Derived.Shelf.Spec.BitsCarry
import Derived.Laws.CopyOwn
import Derived.Deep.RegionLaw
import Derived.Lib.SliceRun
import Derived.Laws.Tables
namespace Go.Proofs.YtbnkbbcncloedaaGreatDoor
section
open Go.ChangeShapes Go.WideShapes Go.ChangeAt Go.RowKit

set_option linter.unusedVariables false

set_option linter.unusedSimpArgs false

@[go_sem] theorem mtHd_face (op ty : Int) (va : Value) (w : World) : (method 416 228 (.agg #[.int .i64 op, .int .i64 ty, va]) "loop.example/g00010/impl.face").run Tryz.prog w = .ok (258, .agg #[.int .i64 op, .int .i64 ty, va]) w := by kernel_rfl

@[go_sem] theorem mtHd_arguments (op ty : Int) (va : Value) (w : World) : (method 416 228 (.agg #[.int .i64 op, .int .i64 ty, va]) "loop.example/g00010/impl.arguments").run Tryz.prog w = .ok (256, .agg #[.int .i64 op, .int .i64 ty, va]) w := by kernel_rfl

@[go_sem] theorem mtHd_targets (op ty : Int) (va : Value) (w : World) : (method 416 228 (.agg #[.int .i64 op, .int .i64 ty, va]) "loop.example/g00010/impl.targets").run Tryz.prog w = .ok (261, .agg #[.int .i64 op, .int .i64 ty, va]) w := by kernel_rfl

@[go_sem] theorem mtHd_ownFit (op ty : Int) (va : Value) (w : World) : (method 416 228 (.agg #[.int .i64 op, .int .i64 ty, va]) "loop.example/g00010/impl.ownFit").run Tryz.prog w = .ok (259, .agg #[.int .i64 op, .int .i64 ty, va]) w := by kernel_rfl

@[go_sem] theorem mtHd_resultFits (op ty : Int) (va : Value) (w : World) : (method 416 228 (.agg #[.int .i64 op, .int .i64 ty, va]) "loop.example/g00010/impl.resultFits").run Tryz.prog w = .ok (260, .agg #[.int .i64 op, .int .i64 ty, va]) w := by kernel_rfl

@[go_sem] theorem mtHd_wanted (op ty : Int) (va : Value) (w : World) : (method 416 228 (.agg #[.int .i64 op, .int .i64 ty, va]) "loop.example/g00010/impl.wanted").run Tryz.prog w = .ok (262, .agg #[.int .i64 op, .int .i64 ty, va]) w := by kernel_rfl

@[go_sem] theorem mtHd_casesFit (op ty : Int) (va : Value) (w : World) : (method 416 228 (.agg #[.int .i64 op, .int .i64 ty, va]) "loop.example/g00010/impl.casesFit").run Tryz.prog w = .ok (257, .agg #[.int .i64 op, .int .i64 ty, va]) w := by kernel_rfl

@[go_sem] theorem mtAr_face (op ty fl : Int) (va : Value) (w : World) : (method 416 240 (.agg #[.int .i64 op, .int .i64 ty, va, .int .i64 fl]) "loop.example/g00010/impl.face").run Tryz.prog w = .ok (258, .agg #[.int .i64 op, .int .i64 ty, va]) w := by kernel_rfl

@[go_sem] theorem mtAr_arguments (op ty fl : Int) (va : Value) (w : World) : (method 416 240 (.agg #[.int .i64 op, .int .i64 ty, va, .int .i64 fl]) "loop.example/g00010/impl.arguments").run Tryz.prog w = .ok (256, .agg #[.int .i64 op, .int .i64 ty, va]) w := by kernel_rfl

@[go_sem] theorem mtAr_targets (op ty fl : Int) (va : Value) (w : World) : (method 416 240 (.agg #[.int .i64 op, .int .i64 ty, va, .int .i64 fl]) "loop.example/g00010/impl.targets").run Tryz.prog w = .ok (261, .agg #[.int .i64 op, .int .i64 ty, va]) w := by kernel_rfl

@[go_sem] theorem mtAr_ownFit (op ty fl : Int) (va : Value) (w : World) : (method 416 240 (.agg #[.int .i64 op, .int .i64 ty, va, .int .i64 fl]) "loop.example/g00010/impl.ownFit").run Tryz.prog w = .ok (287, .agg #[.int .i64 op, .int .i64 ty, va, .int .i64 fl]) w := by kernel_rfl

@[go_sem] theorem mtAr_resultFits (op ty fl : Int) (va : Value) (w : World) : (method 416 240 (.agg #[.int .i64 op, .int .i64 ty, va, .int .i64 fl]) "loop.example/g00010/impl.resultFits").run Tryz.prog w = .ok (288, .agg #[.int .i64 op, .int .i64 ty, va, .int .i64 fl]) w := by kernel_rfl

@[go_sem] theorem mtAr_wanted (op ty fl : Int) (va : Value) (w : World) : (method 416 240 (.agg #[.int .i64 op, .int .i64 ty, va, .int .i64 fl]) "loop.example/g00010/impl.wanted").run Tryz.prog w = .ok (289, .agg #[.int .i64 op, .int .i64 ty, va, .int .i64 fl]) w := by kernel_rfl

@[go_sem] theorem mtAr_casesFit (op ty fl : Int) (va : Value) (w : World) : (method 416 240 (.agg #[.int .i64 op, .int .i64 ty, va, .int .i64 fl]) "loop.example/g00010/impl.casesFit").run Tryz.prog w = .ok (257, .agg #[.int .i64 op, .int .i64 ty, va]) w := by kernel_rfl

@[go_sem] theorem mtCm_face (op ty pr : Int) (va : Value) (w : World) : (method 416 230 (.agg #[.int .i64 op, .int .i64 ty, va, .int .i64 pr]) "loop.example/g00010/impl.face").run Tryz.prog w = .ok (258, .agg #[.int .i64 op, .int .i64 ty, va]) w := by kernel_rfl

@[go_sem] theorem mtCm_arguments (op ty pr : Int) (va : Value) (w : World) : (method 416 230 (.agg #[.int .i64 op, .int .i64 ty, va, .int .i64 pr]) "loop.example/g00010/impl.arguments").run Tryz.prog w = .ok (256, .agg #[.int .i64 op, .int .i64 ty, va]) w := by kernel_rfl

@[go_sem] theorem mtCm_targets (op ty pr : Int) (va : Value) (w : World) : (method 416 230 (.agg #[.int .i64 op, .int .i64 ty, va, .int .i64 pr]) "loop.example/g00010/impl.targets").run Tryz.prog w = .ok (261, .agg #[.int .i64 op, .int .i64 ty, va]) w := by kernel_rfl

@[go_sem] theorem mtCm_ownFit (op ty pr : Int) (va : Value) (w : World) : (method 416 230 (.agg #[.int .i64 op, .int .i64 ty, va, .int .i64 pr]) "loop.example/g00010/impl.ownFit").run Tryz.prog w = .ok (267, .agg #[.int .i64 op, .int .i64 ty, va, .int .i64 pr]) w := by kernel_rfl

@[go_sem] theorem mtCm_resultFits (op ty pr : Int) (va : Value) (w : World) : (method 416 230 (.agg #[.int .i64 op, .int .i64 ty, va, .int .i64 pr]) "loop.example/g00010/impl.resultFits").run Tryz.prog w = .ok (268, .agg #[.int .i64 op, .int .i64 ty, va, .int .i64 pr]) w := by kernel_rfl

@[go_sem] theorem mtCm_wanted (op ty pr : Int) (va : Value) (w : World) : (method 416 230 (.agg #[.int .i64 op, .int .i64 ty, va, .int .i64 pr]) "loop.example/g00010/impl.wanted").run Tryz.prog w = .ok (269, .agg #[.int .i64 op, .int .i64 ty, va, .int .i64 pr]) w := by kernel_rfl

@[go_sem] theorem mtCm_casesFit (op ty pr : Int) (va : Value) (w : World) : (method 416 230 (.agg #[.int .i64 op, .int .i64 ty, va, .int .i64 pr]) "loop.example/g00010/impl.casesFit").run Tryz.prog w = .ok (257, .agg #[.int .i64 op, .int .i64 ty, va]) w := by kernel_rfl

@[go_sem] theorem mtAl_face (op ty sz : Int) (va : Value) (w : World) : (method 416 232 (.agg #[.int .i64 op, .int .i64 ty, va, .int .i64 sz]) "loop.example/g00010/impl.face").run Tryz.prog w = .ok (258, .agg #[.int .i64 op, .int .i64 ty, va]) w := by kernel_rfl

@[go_sem] theorem mtAl_arguments (op ty sz : Int) (va : Value) (w : World) : (method 416 232 (.agg #[.int .i64 op, .int .i64 ty, va, .int .i64 sz]) "loop.example/g00010/impl.arguments").run Tryz.prog w = .ok (256, .agg #[.int .i64 op, .int .i64 ty, va]) w := by kernel_rfl

@[go_sem] theorem mtAl_targets (op ty sz : Int) (va : Value) (w : World) : (method 416 232 (.agg #[.int .i64 op, .int .i64 ty, va, .int .i64 sz]) "loop.example/g00010/impl.targets").run Tryz.prog w = .ok (261, .agg #[.int .i64 op, .int .i64 ty, va]) w := by kernel_rfl

@[go_sem] theorem mtAl_ownFit (op ty sz : Int) (va : Value) (w : World) : (method 416 232 (.agg #[.int .i64 op, .int .i64 ty, va, .int .i64 sz]) "loop.example/g00010/impl.ownFit").run Tryz.prog w = .ok (271, .agg #[.int .i64 op, .int .i64 ty, va, .int .i64 sz]) w := by kernel_rfl

@[go_sem] theorem mtAl_resultFits (op ty sz : Int) (va : Value) (w : World) : (method 416 232 (.agg #[.int .i64 op, .int .i64 ty, va, .int .i64 sz]) "loop.example/g00010/impl.resultFits").run Tryz.prog w = .ok (260, .agg #[.int .i64 op, .int .i64 ty, va]) w := by kernel_rfl

@[go_sem] theorem mtAl_wanted (op ty sz : Int) (va : Value) (w : World) : (method 416 232 (.agg #[.int .i64 op, .int .i64 ty, va, .int .i64 sz]) "loop.example/g00010/impl.wanted").run Tryz.prog w = .ok (262, .agg #[.int .i64 op, .int .i64 ty, va]) w := by kernel_rfl

@[go_sem] theorem mtAl_casesFit (op ty sz : Int) (va : Value) (w : World) : (method 416 232 (.agg #[.int .i64 op, .int .i64 ty, va, .int .i64 sz]) "loop.example/g00010/impl.casesFit").run Tryz.prog w = .ok (257, .agg #[.int .i64 op, .int .i64 ty, va]) w := by kernel_rfl

@[go_sem] theorem mtIn_face (op ty ca : Int) (va : Value) (w : World) : (method 416 234 (.agg #[.int .i64 op, .int .i64 ty, va, .int .i64 ca]) "loop.example/g00010/impl.face").run Tryz.prog w = .ok (258, .agg #[.int .i64 op, .int .i64 ty, va]) w := by kernel_rfl

@[go_sem] theorem mtIn_arguments (op ty ca : Int) (va : Value) (w : World) : (method 416 234 (.agg #[.int .i64 op, .int .i64 ty, va, .int .i64 ca]) "loop.example/g00010/impl.arguments").run Tryz.prog w = .ok (256, .agg #[.int .i64 op, .int .i64 ty, va]) w := by kernel_rfl

@[go_sem] theorem mtIn_targets (op ty ca : Int) (va : Value) (w : World) : (method 416 234 (.agg #[.int .i64 op, .int .i64 ty, va, .int .i64 ca]) "loop.example/g00010/impl.targets").run Tryz.prog w = .ok (261, .agg #[.int .i64 op, .int .i64 ty, va]) w := by kernel_rfl

@[go_sem] theorem mtIn_ownFit (op ty ca : Int) (va : Value) (w : World) : (method 416 234 (.agg #[.int .i64 op, .int .i64 ty, va, .int .i64 ca]) "loop.example/g00010/impl.ownFit").run Tryz.prog w = .ok (272, .agg #[.int .i64 op, .int .i64 ty, va, .int .i64 ca]) w := by kernel_rfl

@[go_sem] theorem mtIn_resultFits (op ty ca : Int) (va : Value) (w : World) : (method 416 234 (.agg #[.int .i64 op, .int .i64 ty, va, .int .i64 ca]) "loop.example/g00010/impl.resultFits").run Tryz.prog w = .ok (273, .agg #[.int .i64 op, .int .i64 ty, va, .int .i64 ca]) w := by kernel_rfl

@[go_sem] theorem mtIn_wanted (op ty ca : Int) (va : Value) (w : World) : (method 416 234 (.agg #[.int .i64 op, .int .i64 ty, va, .int .i64 ca]) "loop.example/g00010/impl.wanted").run Tryz.prog w = .ok (274, .agg #[.int .i64 op, .int .i64 ty, va, .int .i64 ca]) w := by kernel_rfl

@[go_sem] theorem mtIn_casesFit (op ty ca : Int) (va : Value) (w : World) : (method 416 234 (.agg #[.int .i64 op, .int .i64 ty, va, .int .i64 ca]) "loop.example/g00010/impl.casesFit").run Tryz.prog w = .ok (257, .agg #[.int .i64 op, .int .i64 ty, va]) w := by kernel_rfl

@[go_sem] theorem mtJn_face (op ty : Int) (va vl : Value) (w : World) : (method 416 236 (.agg #[.int .i64 op, .int .i64 ty, va, vl]) "loop.example/g00010/impl.face").run Tryz.prog w = .ok (258, .agg #[.int .i64 op, .int .i64 ty, va]) w := by kernel_rfl

@[go_sem] theorem mtJn_arguments (op ty : Int) (va vl : Value) (w : World) : (method 416 236 (.agg #[.int .i64 op, .int .i64 ty, va, vl]) "loop.example/g00010/impl.arguments").run Tryz.prog w = .ok (256, .agg #[.int .i64 op, .int .i64 ty, va]) w := by kernel_rfl

@[go_sem] theorem mtJn_targets (op ty : Int) (va vl : Value) (w : World) : (method 416 236 (.agg #[.int .i64 op, .int .i64 ty, va, vl]) "loop.example/g00010/impl.targets").run Tryz.prog w = .ok (276, .agg #[.int .i64 op, .int .i64 ty, va, vl]) w := by kernel_rfl

@[go_sem] theorem mtJn_ownFit (op ty : Int) (va vl : Value) (w : World) : (method 416 236 (.agg #[.int .i64 op, .int .i64 ty, va, vl]) "loop.example/g00010/impl.ownFit").run Tryz.prog w = .ok (275, .agg #[.int .i64 op, .int .i64 ty, va, vl]) w := by kernel_rfl

@[go_sem] theorem mtJn_resultFits (op ty : Int) (va vl : Value) (w : World) : (method 416 236 (.agg #[.int .i64 op, .int .i64 ty, va, vl]) "loop.example/g00010/impl.resultFits").run Tryz.prog w = .ok (260, .agg #[.int .i64 op, .int .i64 ty, va]) w := by kernel_rfl

@[go_sem] theorem mtJn_wanted (op ty : Int) (va vl : Value) (w : World) : (method 416 236 (.agg #[.int .i64 op, .int .i64 ty, va, vl]) "loop.example/g00010/impl.wanted").run Tryz.prog w = .ok (277, .agg #[.int .i64 op, .int .i64 ty, va, vl]) w := by kernel_rfl

@[go_sem] theorem mtJn_casesFit (op ty : Int) (va vl : Value) (w : World) : (method 416 236 (.agg #[.int .i64 op, .int .i64 ty, va, vl]) "loop.example/g00010/impl.casesFit").run Tryz.prog w = .ok (257, .agg #[.int .i64 op, .int .i64 ty, va]) w := by kernel_rfl

@[go_sem] theorem mtDi_face (op ty : Int) (va vl vs : Value) (w : World) : (method 416 238 (.agg #[.int .i64 op, .int .i64 ty, va, vl, vs]) "loop.example/g00010/impl.face").run Tryz.prog w = .ok (258, .agg #[.int .i64 op, .int .i64 ty, va]) w := by kernel_rfl

@[go_sem] theorem mtDi_arguments (op ty : Int) (va vl vs : Value) (w : World) : (method 416 238 (.agg #[.int .i64 op, .int .i64 ty, va, vl, vs]) "loop.example/g00010/impl.arguments").run Tryz.prog w = .ok (256, .agg #[.int .i64 op, .int .i64 ty, va]) w := by kernel_rfl

@[go_sem] theorem mtDi_targets (op ty : Int) (va vl vs : Value) (w : World) : (method 416 238 (.agg #[.int .i64 op, .int .i64 ty, va, vl, vs]) "loop.example/g00010/impl.targets").run Tryz.prog w = .ok (276, .agg #[.int .i64 op, .int .i64 ty, va, vl]) w := by kernel_rfl

@[go_sem] theorem mtDi_ownFit (op ty : Int) (va vl vs : Value) (w : World) : (method 416 238 (.agg #[.int .i64 op, .int .i64 ty, va, vl, vs]) "loop.example/g00010/impl.ownFit").run Tryz.prog w = .ok (283, .agg #[.int .i64 op, .int .i64 ty, va, vl, vs]) w := by kernel_rfl

@[go_sem] theorem mtDi_resultFits (op ty : Int) (va vl vs : Value) (w : World) : (method 416 238 (.agg #[.int .i64 op, .int .i64 ty, va, vl, vs]) "loop.example/g00010/impl.resultFits").run Tryz.prog w = .ok (260, .agg #[.int .i64 op, .int .i64 ty, va]) w := by kernel_rfl

@[go_sem] theorem mtDi_wanted (op ty : Int) (va vl vs : Value) (w : World) : (method 416 238 (.agg #[.int .i64 op, .int .i64 ty, va, vl, vs]) "loop.example/g00010/impl.wanted").run Tryz.prog w = .ok (284, .agg #[.int .i64 op, .int .i64 ty, va, vl, vs]) w := by kernel_rfl

@[go_sem] theorem mtDi_casesFit (op ty : Int) (va vl vs : Value) (w : World) : (method 416 238 (.agg #[.int .i64 op, .int .i64 ty, va, vl, vs]) "loop.example/g00010/impl.casesFit").run Tryz.prog w = .ok (282, .agg #[.int .i64 op, .int .i64 ty, va, vl, vs]) w := by kernel_rfl
end
end Go.Proofs.YtbnkbbcncloedaaGreatDoor
