/-
  DERIVED. GIVEN WITH THE SEED: THE CARDS: each row of YtikecpcgcccmoaaDoorRows.lean that lists a variable, with what it lists TIED to the program's text (the seventh form; the later family's looks); each row that meets fmt, with fmt's text TOLD by the authors' own Lean function (tested against real Go, not proved from fmt's source: count such statements apart). THE CARD IS WHAT COUNTS. Prove the row's statement (the work); the ties are given (YtikecpcgcccmoaaDoorTie.lean); close each card by the builder's one call (the guide's Derived/Test/ToyasCard.lean, 'card_holds'). Laid BY PROGRAM, IN A SANDBOX (cutbox-door.mjs). By AI agents, Wed Nov 11 2026. No macro, syntax, notation, axiom, sorry.
-/
import Derived.Test.YtikecpcgcccmoaaDoorRows
import GoSem.ClaimSeven
namespace Go.Proofs.YtikecpcgcccmoaaDoor
namespace Rows

/-- THE TIED CARD OF 'laws.FnExactFormatOperand'. -/
def fnExactFormatOperandCard : Claim7 := { stood := { row := fnExactFormatOperandRow, standIns := [], harness := (true, "016108d558a727a5936d77937e92d85dd9f82235d80e937070b4e40606df4b7a"), looks := false }, kinds := [], alts := [], laidByText := true, laidKinds := [.data, .data, .data, .data], laidTests := true, laidLooks := .later }
def FnExactFormatOperandCardSaid : Prop := Claim7.holds Tryd.pinned (.plain (OpenSpec.ofChange fnExactFormatOperandSpec)) fnExactFormatOperandCard

/-- THE SECOND FORM's CARD OF 'laws.FnExactFormatOperand'. -/
def fnExactFormatOperandUptoCard : Claim7 := { stood := { row := fnExactFormatOperandUptoRow, standIns := [], harness := (true, "016108d558a727a5936d77937e92d85dd9f82235d80e937070b4e40606df4b7a"), looks := false }, kinds := [], alts := [], laidByText := true, laidKinds := [.data, .data, .data, .data], laidTests := true, laidLooks := .later }
def FnExactFormatOperandUptoCardSaid : Prop := Claim7.holds Tryd.pinned (.plain (OpenSpec.upto fnExactFormatOperandSpec)) fnExactFormatOperandUptoCard
end Rows
end Go.Proofs.YtikecpcgcccmoaaDoor
