/- Names of laws of lists. -/
import Derived.Deep.RegionHeld3
namespace Go.Proofs.YtbnkbbcncloedaaGreatDoor
theorem yA {α} {xs : List α} {i : Nat} (h : i < xs.toArray.size) : xs.toArray[i]'h = xs[i]'(by simpa using h) := List.getElem_toArray h
theorem yB {α} (a : α) (as : List α) (i : Nat) (h : i + 1 < (a :: as).length) : (a :: as)[i + 1]'h = as[i]'(Nat.lt_of_succ_lt_succ h) := rfl
theorem yC {α} (a : α) (as : List α) (h : 0 < (a :: as).length) : (a :: as)[0]'h = a := rfl
theorem yD {α} (l : List α) (i : Nat) (a : α) : l.toArray.setIfInBounds i a = (l.set i a).toArray := List.setIfInBounds_toArray ..
theorem yE {α} (a b : α) (as : List α) : (a :: as).set 0 b = b :: as := rfl
theorem yF {α} (a b : α) (as : List α) (n : Nat) : (a :: as).set (n + 1) b = a :: as.set n b := rfl
end Go.Proofs.YtbnkbbcncloedaaGreatDoor
