/- At every code, however long, the law FnOrders answers true and turns nothing that was there. -/
import Derived.Test.YtmkhkgliipalaaaDoorLawOrders
namespace Go.Proofs.YtmkhkgliipalaaaDoor
open Go.ChangeShapes Go.WideShapes Go.ChangeAt Go.RowKit
set_option linter.unusedVariables false
set_option maxRecDepth 100000 in
set_option maxHeartbeats 1000000 in
theorem orders_all (w : World) (al : Option Addr) (len cap : Nat) (zs : List Int) (h0 : IsRow .u8 w al len cap zs) (hw : Wid w) :
    Calls Tryd.prog 5 #[.slice al len cap] w fun e w' => e = .returned (.bool true) ∧ Below w.heap.size w w' := by
  by_cases hl : len ≤ 1048576
  · exact orders_law w al len cap zs h0 hl hw
  · have hl' : 1048576 < (len : Int) := by omega
    clear hl
    go_enter Tryd.func5, Tryd.ntmps5
    go_wp2_with fail
    go_ret
    exact ⟨rfl, Below.refl _ _⟩
end Go.Proofs.YtmkhkgliipalaaaDoor
