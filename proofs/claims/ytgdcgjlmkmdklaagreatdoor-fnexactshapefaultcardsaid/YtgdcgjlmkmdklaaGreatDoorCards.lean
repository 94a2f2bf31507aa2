/-
  DERIVED. GIVEN WITH THE SEED: THE CARDS: each row of YtgdcgjlmkmdklaaGreatDoorRows.lean that lists a variable, with what it lists TIED to the program's text (the seventh form; the later family's looks); each row that meets fmt, with fmt's text TOLD by the authors' own Lean function (tested against real Go, not proved from fmt's source: count such statements apart). THE CARD IS WHAT COUNTS. Prove the row's statement (the work); the ties are given (YtgdcgjlmkmdklaaGreatDoorTie.lean); close each card by the builder's one call (the guide's Derived/Test/ToyasCard.lean, 'card_holds'). Laid BY PROGRAM, IN A SANDBOX (cutbox-door.mjs). By AI agents, Wed Nov 11 2026. No macro, syntax, notation, axiom, sorry.
-/
import Derived.Test.YtgdcgjlmkmdklaaGreatDoorRows
import GoSem.ClaimSeven
namespace Go.Proofs.YtgdcgjlmkmdklaaGreatDoor
namespace Rows

/-- THE TIED CARD OF 'laws.FnExactShapeFault'. -/
def fnExactShapeFaultCard : Claim7 := { stood := { row := fnExactShapeFaultRow, standIns := [], harness := (true, "db9ba0e1c8801c06b4f799ac92f9f075719e5f19fcebdde25b973659c1a1a400"), looks := true }, kinds := [], alts := [], laidByText := true, laidKinds := [.data], laidTests := true, laidLooks := .later }
def FnExactShapeFaultCardSaid : Prop := Claim7.holds Tryz.pinned (.plain (OpenSpec.ofChange fnExactShapeFaultSpec)) fnExactShapeFaultCard

/-- THE TIED CARD OF 'laws.FnExactFormatInstr'. -/
def fnExactFormatInstrCard : Claim7 := { stood := { row := fnExactFormatInstrRow, standIns := [], harness := (true, "db9ba0e1c8801c06b4f799ac92f9f075719e5f19fcebdde25b973659c1a1a400"), looks := true }, kinds := [], alts := [], laidByText := true, laidKinds := [.data, .data, .data, .data, .data], laidTests := true, laidLooks := .later }
def FnExactFormatInstrCardSaid : Prop := Claim7.holds Tryz.pinned (.plain (OpenSpec.ofChange fnExactFormatInstrSpec)) fnExactFormatInstrCard

/-- THE TIED CARD OF 'laws.FnExactFormatModule'. -/
def fnExactFormatModuleCard : Claim7 := { stood := { row := fnExactFormatModuleRow, standIns := [], harness := (true, "db9ba0e1c8801c06b4f799ac92f9f075719e5f19fcebdde25b973659c1a1a400"), looks := true }, kinds := [], alts := [], laidByText := true, laidKinds := [.data, .data, .data, .data, .data], laidTests := true, laidLooks := .later }
def FnExactFormatModuleCardSaid : Prop := Claim7.holds Tryz.pinned (.plain (OpenSpec.ofChange fnExactFormatModuleSpec)) fnExactFormatModuleCard

/-- THE SECOND FORM's CARD OF 'laws.FnExactShapeFault'. -/
def fnExactShapeFaultUptoCard : Claim7 := { stood := { row := fnExactShapeFaultUptoRow, standIns := [], harness := (true, "db9ba0e1c8801c06b4f799ac92f9f075719e5f19fcebdde25b973659c1a1a400"), looks := true }, kinds := [], alts := [], laidByText := true, laidKinds := [.data], laidTests := true, laidLooks := .later }
def FnExactShapeFaultUptoCardSaid : Prop := Claim7.holds Tryz.pinned (.plain (OpenSpec.upto fnExactShapeFaultSpec)) fnExactShapeFaultUptoCard

/-- THE SECOND FORM's CARD OF 'laws.FnExactFormatInstr'. -/
def fnExactFormatInstrUptoCard : Claim7 := { stood := { row := fnExactFormatInstrUptoRow, standIns := [], harness := (true, "db9ba0e1c8801c06b4f799ac92f9f075719e5f19fcebdde25b973659c1a1a400"), looks := true }, kinds := [], alts := [], laidByText := true, laidKinds := [.data, .data, .data, .data, .data], laidTests := true, laidLooks := .later }
def FnExactFormatInstrUptoCardSaid : Prop := Claim7.holds Tryz.pinned (.plain (OpenSpec.upto fnExactFormatInstrSpec)) fnExactFormatInstrUptoCard

/-- THE SECOND FORM's CARD OF 'laws.FnExactFormatModule'. -/
def fnExactFormatModuleUptoCard : Claim7 := { stood := { row := fnExactFormatModuleUptoRow, standIns := [], harness := (true, "db9ba0e1c8801c06b4f799ac92f9f075719e5f19fcebdde25b973659c1a1a400"), looks := true }, kinds := [], alts := [], laidByText := true, laidKinds := [.data, .data, .data, .data, .data], laidTests := true, laidLooks := .later }
def FnExactFormatModuleUptoCardSaid : Prop := Claim7.holds Tryz.pinned (.plain (OpenSpec.upto fnExactFormatModuleSpec)) fnExactFormatModuleUptoCard
end Rows
end Go.Proofs.YtgdcgjlmkmdklaaGreatDoor
