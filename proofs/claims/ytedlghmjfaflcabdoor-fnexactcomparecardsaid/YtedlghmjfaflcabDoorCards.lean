/-
  DERIVED. GIVEN WITH THE SEED: THE CARDS: each row of YtedlghmjfaflcabDoorRows.lean that lists a variable, with what it lists TIED to the program's text (the seventh form; the later family's looks); each row that meets fmt, with fmt's text TOLD by the authors' own Lean function (tested against real Go, not proved from fmt's source: count such statements apart). THE CARD IS WHAT COUNTS. Prove the row's statement (the work); the ties are given (YtedlghmjfaflcabDoorTie.lean); close each card by the builder's one call (the guide's Derived/Test/ToyasCard.lean, 'card_holds'). Laid BY PROGRAM, IN A SANDBOX (cutbox-door.mjs). By AI agents, Wed Nov 11 2026. No macro, syntax, notation, axiom, sorry.
-/
import Derived.Test.YtedlghmjfaflcabDoorRows
import GoSem.ClaimSeven
namespace Go.Proofs.YtedlghmjfaflcabDoor
namespace Rows

/-- THE TIED CARD OF 'laws.FnExactCut'. -/
def fnExactCutCard : Claim7 := { stood := { row := fnExactCutRow, standIns := [], harness := (true, "2f1997a6cf78e29baa970ca11ecea756c3f86a380d71c288a8f410227ee30be6"), looks := false }, kinds := [], alts := [], laidByText := true, laidKinds := [.data], laidTests := true, laidLooks := .later }
def FnExactCutCardSaid : Prop := Claim7.holds Tryd.pinned (.plain (OpenSpec.ofChange fnExactCutSpec)) fnExactCutCard

/-- THE TIED CARD OF 'laws.FnExactSigned'. -/
def fnExactSignedCard : Claim7 := { stood := { row := fnExactSignedRow, standIns := [], harness := (true, "2f1997a6cf78e29baa970ca11ecea756c3f86a380d71c288a8f410227ee30be6"), looks := false }, kinds := [], alts := [], laidByText := true, laidKinds := [.data], laidTests := true, laidLooks := .later }
def FnExactSignedCardSaid : Prop := Claim7.holds Tryd.pinned (.plain (OpenSpec.ofChange fnExactSignedSpec)) fnExactSignedCard

/-- THE TIED CARD OF 'laws.FnExactArith'. -/
def fnExactArithCard : Claim7 := { stood := { row := fnExactArithRow, standIns := [], harness := (true, "2f1997a6cf78e29baa970ca11ecea756c3f86a380d71c288a8f410227ee30be6"), looks := false }, kinds := [], alts := [], laidByText := true, laidKinds := [.data], laidTests := true, laidLooks := .later }
def FnExactArithCardSaid : Prop := Claim7.holds Tryd.pinned (.plain (OpenSpec.ofChange fnExactArithSpec)) fnExactArithCard

/-- THE TIED CARD OF 'laws.FnExactCompare'. -/
def fnExactCompareCard : Claim7 := { stood := { row := fnExactCompareRow, standIns := [], harness := (true, "2f1997a6cf78e29baa970ca11ecea756c3f86a380d71c288a8f410227ee30be6"), looks := false }, kinds := [], alts := [], laidByText := true, laidKinds := [.data], laidTests := true, laidLooks := .later }
def FnExactCompareCardSaid : Prop := Claim7.holds Tryd.pinned (.plain (OpenSpec.ofChange fnExactCompareSpec)) fnExactCompareCard

/-- THE SECOND FORM's CARD OF 'laws.FnExactCut'. -/
def fnExactCutUptoCard : Claim7 := { stood := { row := fnExactCutUptoRow, standIns := [], harness := (true, "2f1997a6cf78e29baa970ca11ecea756c3f86a380d71c288a8f410227ee30be6"), looks := false }, kinds := [], alts := [], laidByText := true, laidKinds := [.data], laidTests := true, laidLooks := .later }
def FnExactCutUptoCardSaid : Prop := Claim7.holds Tryd.pinned (.plain (OpenSpec.upto fnExactCutSpec)) fnExactCutUptoCard

/-- THE SECOND FORM's CARD OF 'laws.FnExactSigned'. -/
def fnExactSignedUptoCard : Claim7 := { stood := { row := fnExactSignedUptoRow, standIns := [], harness := (true, "2f1997a6cf78e29baa970ca11ecea756c3f86a380d71c288a8f410227ee30be6"), looks := false }, kinds := [], alts := [], laidByText := true, laidKinds := [.data], laidTests := true, laidLooks := .later }
def FnExactSignedUptoCardSaid : Prop := Claim7.holds Tryd.pinned (.plain (OpenSpec.upto fnExactSignedSpec)) fnExactSignedUptoCard

/-- THE SECOND FORM's CARD OF 'laws.FnExactArith'. -/
def fnExactArithUptoCard : Claim7 := { stood := { row := fnExactArithUptoRow, standIns := [], harness := (true, "2f1997a6cf78e29baa970ca11ecea756c3f86a380d71c288a8f410227ee30be6"), looks := false }, kinds := [], alts := [], laidByText := true, laidKinds := [.data], laidTests := true, laidLooks := .later }
def FnExactArithUptoCardSaid : Prop := Claim7.holds Tryd.pinned (.plain (OpenSpec.upto fnExactArithSpec)) fnExactArithUptoCard

/-- THE SECOND FORM's CARD OF 'laws.FnExactCompare'. -/
def fnExactCompareUptoCard : Claim7 := { stood := { row := fnExactCompareUptoRow, standIns := [], harness := (true, "2f1997a6cf78e29baa970ca11ecea756c3f86a380d71c288a8f410227ee30be6"), looks := false }, kinds := [], alts := [], laidByText := true, laidKinds := [.data], laidTests := true, laidLooks := .later }
def FnExactCompareUptoCardSaid : Prop := Claim7.holds Tryd.pinned (.plain (OpenSpec.upto fnExactCompareSpec)) fnExactCompareUptoCard
end Rows
end Go.Proofs.YtedlghmjfaflcabDoor
