/- FormatOperand's law, as the shell asks for it. -/
import Derived.Test.YtikecpcgcccmoaaDoorFo3
import Derived.Test.YtikecpcgcccmoaaDoorOpnM
namespace Go.Proofs.YtikecpcgcccmoaaDoor
set_option linter.unusedVariables false
open Go.ChangeShapes Go.WideShapes Go.ChangeAt Go.RowKit
theorem fmtO_top (gs : List GlD) (fs : List FnD) (vg vf : Value) (q : OpD) (W : World) (hL : Lt W) (h : MoAt 0 W gs fs vg vf) (hB : MoB gs fs) (hb : OpB q) :
    Calls Tryd.prog 3 #[moV vg vf, opV4 q] W fun e w' => e = .returned (.bool true) ∧ Below W.heap.size W w' := fmtO_law gs fs vg vf q W h hb hL
end Go.Proofs.YtikecpcgcccmoaaDoor
