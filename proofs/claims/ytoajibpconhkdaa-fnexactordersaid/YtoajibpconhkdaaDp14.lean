/- Which value a place defines: the specification's answer. -/
import Derived.Test.YtoajibpconhkdaaDp13
namespace Go.Proofs.Ytoajibpconhkdaa
open Go.ChangeShapes Go.WideShapes Go.ChangeAt Go.RowKit
open Go.Sort (grow)
set_option linter.unusedVariables false
set_option linter.unusedSimpArgs false
end Go.Proofs.Ytoajibpconhkdaa
