/-
  DERIVED. GIVEN WITH THE SEED: THE CARDS: each row of YtmkhkgliipalaaaDoorRows.lean that lists a variable, with what it lists TIED to the program's text (the seventh form; the later family's looks); each row that meets fmt, with fmt's text TOLD by the authors' own Lean function (tested against real Go, not proved from fmt's source: count such statements apart). THE CARD IS WHAT COUNTS. Prove the row's statement (the work); the ties are given (YtmkhkgliipalaaaDoorTie.lean); close each card by the builder's one call (the guide's Derived/Test/ToyasCard.lean, 'card_holds'). Laid BY PROGRAM, IN A SANDBOX (cutbox-door.mjs). By AI agents, Wed Nov 11 2026. No macro, syntax, notation, axiom, sorry.
-/
import Derived.Test.YtmkhkgliipalaaaDoorRows
import GoSem.ClaimSeven
namespace Go.Proofs.YtmkhkgliipalaaaDoor
namespace Rows

/-- THE TIED CARD OF 'laws.FnDivide'. -/
def fnDivideCard : Claim7 := { stood := { row := fnDivideRow, standIns := [], harness := (true, "f3c7b356b46bb0533ff46128761878fc25f6213768190d24f11fe0893946fdc1"), looks := true }, kinds := [], alts := [], laidByText := true, laidKinds := [.data], laidTests := true, laidLooks := .later }
def FnDivideCardSaid : Prop := Claim7.holds Tryd.pinned (.plain (OpenSpec.ofChange fnDivideSpec)) fnDivideCard

/-- THE TIED CARD OF 'laws.FnShift'. -/
def fnShiftCard : Claim7 := { stood := { row := fnShiftRow, standIns := [], harness := (true, "f3c7b356b46bb0533ff46128761878fc25f6213768190d24f11fe0893946fdc1"), looks := true }, kinds := [], alts := [], laidByText := true, laidKinds := [.data], laidTests := true, laidLooks := .later }
def FnShiftCardSaid : Prop := Claim7.holds Tryd.pinned (.plain (OpenSpec.ofChange fnShiftSpec)) fnShiftCard

/-- THE TIED CARD OF 'laws.FnOrders'. -/
def fnOrdersCard : Claim7 := { stood := { row := fnOrdersRow, standIns := [], harness := (true, "f3c7b356b46bb0533ff46128761878fc25f6213768190d24f11fe0893946fdc1"), looks := true }, kinds := [], alts := [], laidByText := true, laidKinds := [.data], laidTests := true, laidLooks := .later }
def FnOrdersCardSaid : Prop := Claim7.holds Tryd.pinned (.plain (OpenSpec.ofChange fnOrdersSpec)) fnOrdersCard

/-- THE TIED CARD OF 'laws.FnCasts'. -/
def fnCastsCard : Claim7 := { stood := { row := fnCastsRow, standIns := [], harness := (true, "f3c7b356b46bb0533ff46128761878fc25f6213768190d24f11fe0893946fdc1"), looks := true }, kinds := [], alts := [], laidByText := true, laidKinds := [.data, .data, .data, .sentinel, .sentinel, .data], laidTests := true, laidLooks := .later }
def FnCastsCardSaid : Prop := Claim7.holds Tryd.pinned (.plain (OpenSpec.ofChange fnCastsSpec)) fnCastsCard

/-- THE TIED CARD OF 'laws.FnExactFormatWord'. -/
def fnExactFormatWordCard : Claim7 := { stood := { row := fnExactFormatWordRow, standIns := [], harness := (true, "f3c7b356b46bb0533ff46128761878fc25f6213768190d24f11fe0893946fdc1"), looks := true }, kinds := [], alts := [], laidByText := true, laidKinds := [.data, .data, .data, .data], laidTests := true, laidLooks := .later }
def FnExactFormatWordCardSaid : Prop := Claim7.holds Tryd.pinned (.plain (OpenSpec.ofChange fnExactFormatWordSpec)) fnExactFormatWordCard

/-- THE TIED CARD OF 'laws.FnExactParseWord'. -/
def fnExactParseWordCard : Claim7 := { stood := { row := fnExactParseWordRow, standIns := [], harness := (true, "f3c7b356b46bb0533ff46128761878fc25f6213768190d24f11fe0893946fdc1"), looks := true }, kinds := [], alts := [], laidByText := true, laidKinds := [.data, .data, .data, .sentinel, .sentinel, .data], laidTests := true, laidLooks := .later }
def FnExactParseWordCardSaid : Prop := Claim7.holds Tryd.pinned (.plain (OpenSpec.ofChange fnExactParseWordSpec)) fnExactParseWordCard

/-- THE SECOND FORM's CARD OF 'laws.FnDivide'. -/
def fnDivideUptoCard : Claim7 := { stood := { row := fnDivideUptoRow, standIns := [], harness := (true, "f3c7b356b46bb0533ff46128761878fc25f6213768190d24f11fe0893946fdc1"), looks := true }, kinds := [], alts := [], laidByText := true, laidKinds := [.data], laidTests := true, laidLooks := .later }
def FnDivideUptoCardSaid : Prop := Claim7.holds Tryd.pinned (.plain (OpenSpec.upto fnDivideSpec)) fnDivideUptoCard

/-- THE SECOND FORM's CARD OF 'laws.FnShift'. -/
def fnShiftUptoCard : Claim7 := { stood := { row := fnShiftUptoRow, standIns := [], harness := (true, "f3c7b356b46bb0533ff46128761878fc25f6213768190d24f11fe0893946fdc1"), looks := true }, kinds := [], alts := [], laidByText := true, laidKinds := [.data], laidTests := true, laidLooks := .later }
def FnShiftUptoCardSaid : Prop := Claim7.holds Tryd.pinned (.plain (OpenSpec.upto fnShiftSpec)) fnShiftUptoCard

/-- THE SECOND FORM's CARD OF 'laws.FnOrders'. -/
def fnOrdersUptoCard : Claim7 := { stood := { row := fnOrdersUptoRow, standIns := [], harness := (true, "f3c7b356b46bb0533ff46128761878fc25f6213768190d24f11fe0893946fdc1"), looks := true }, kinds := [], alts := [], laidByText := true, laidKinds := [.data], laidTests := true, laidLooks := .later }
def FnOrdersUptoCardSaid : Prop := Claim7.holds Tryd.pinned (.plain (OpenSpec.upto fnOrdersSpec)) fnOrdersUptoCard

/-- THE SECOND FORM's CARD OF 'laws.FnCasts'. -/
def fnCastsUptoCard : Claim7 := { stood := { row := fnCastsUptoRow, standIns := [], harness := (true, "f3c7b356b46bb0533ff46128761878fc25f6213768190d24f11fe0893946fdc1"), looks := true }, kinds := [], alts := [], laidByText := true, laidKinds := [.data, .data, .data, .sentinel, .sentinel, .data], laidTests := true, laidLooks := .later }
def FnCastsUptoCardSaid : Prop := Claim7.holds Tryd.pinned (.plain (OpenSpec.upto fnCastsSpec)) fnCastsUptoCard

/-- THE SECOND FORM's CARD OF 'laws.FnExactFormatWord'. -/
def fnExactFormatWordUptoCard : Claim7 := { stood := { row := fnExactFormatWordUptoRow, standIns := [], harness := (true, "f3c7b356b46bb0533ff46128761878fc25f6213768190d24f11fe0893946fdc1"), looks := true }, kinds := [], alts := [], laidByText := true, laidKinds := [.data, .data, .data, .data], laidTests := true, laidLooks := .later }
def FnExactFormatWordUptoCardSaid : Prop := Claim7.holds Tryd.pinned (.plain (OpenSpec.upto fnExactFormatWordSpec)) fnExactFormatWordUptoCard

/-- THE SECOND FORM's CARD OF 'laws.FnExactParseWord'. -/
def fnExactParseWordUptoCard : Claim7 := { stood := { row := fnExactParseWordUptoRow, standIns := [], harness := (true, "f3c7b356b46bb0533ff46128761878fc25f6213768190d24f11fe0893946fdc1"), looks := true }, kinds := [], alts := [], laidByText := true, laidKinds := [.data, .data, .data, .sentinel, .sentinel, .data], laidTests := true, laidLooks := .later }
def FnExactParseWordUptoCardSaid : Prop := Claim7.holds Tryd.pinned (.plain (OpenSpec.upto fnExactParseWordSpec)) fnExactParseWordUptoCard
end Rows
end Go.Proofs.YtmkhkgliipalaaaDoor
