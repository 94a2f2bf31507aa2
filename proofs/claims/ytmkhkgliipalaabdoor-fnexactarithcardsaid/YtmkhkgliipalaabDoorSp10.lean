/- Contracts over one translation: the flags that the specification lets each operation have; the plain operations on bits. -/
import Derived.Test.YtmkhkgliipalaabDoorSp9
namespace Go.Proofs.YtmkhkgliipalaabDoor
open Go.ChangeShapes Go.WideShapes Go.ChangeAt Go.RowKit
set_option linter.unusedVariables false
set_option linter.unusedSimpArgs false
set_option maxHeartbeats 1000000 in
theorem flags3_s (op : Int) (w : World) (ho : op = 1 ∨ op = 2 ∨ op = 3 ∨ op = 8) :
    Calls Tryd.prog 7 #[.int .i64 op] w fun e w' => e = .returned (.int .i64 3) ∧ w' = w := by
  rcases ho with rfl | rfl | rfl | rfl
  all_goals
    go_enter Tryd.func7, Tryd.ntmps7
    go_wp2
    go_ret
    exact ⟨rfl, rfl⟩
set_option maxHeartbeats 1000000 in
theorem flags4_s (op : Int) (w : World) (ho : op = 4 ∨ op = 5 ∨ op = 9 ∨ op = 10) :
    Calls Tryd.prog 7 #[.int .i64 op] w fun e w' => e = .returned (.int .i64 4) ∧ w' = w := by
  rcases ho with rfl | rfl | rfl | rfl
  all_goals
    go_enter Tryd.func7, Tryd.ntmps7
    go_wp2
    go_ret
    exact ⟨rfl, rfl⟩
set_option maxHeartbeats 1000000 in
theorem flags0_s (op : Int) (w : World) (ho : op = 6 ∨ op = 7 ∨ op = 11 ∨ op = 12 ∨ op = 13) :
    Calls Tryd.prog 7 #[.int .i64 op] w fun e w' => e = .returned (.int .i64 0) ∧ w' = w := by
  rcases ho with rfl | rfl | rfl | rfl | rfl
  all_goals
    go_enter Tryd.func7, Tryd.ntmps7
    go_wp2
    go_ret
    exact ⟨rfl, rfl⟩
end Go.Proofs.YtmkhkgliipalaabDoor
