/-
  DERIVED. GIVEN WITH THE SEED: THE CARDS: each row of YtmkhkgliipalaabDoorRows.lean that lists a variable, with what it lists TIED to the program's text (the seventh form; the later family's looks); each row that meets fmt, with fmt's text TOLD by the authors' own Lean function (tested against real Go, not proved from fmt's source: count such statements apart). THE CARD IS WHAT COUNTS. Prove the row's statement (the work); the ties are given (YtmkhkgliipalaabDoorTie.lean); close each card by the builder's one call (the guide's Derived/Test/ToyasCard.lean, 'card_holds'). Laid BY PROGRAM, IN A SANDBOX (cutbox-door.mjs). By AI agents, Wed Nov 11 2026. No macro, syntax, notation, axiom, sorry.
-/
import Derived.Test.YtmkhkgliipalaabDoorRows
import GoSem.ClaimSeven
namespace Go.Proofs.YtmkhkgliipalaabDoor
namespace Rows

/-- THE TIED CARD OF 'laws.FnExactArith'. -/
def fnExactArithCard : Claim7 := { stood := { row := fnExactArithRow, standIns := [], harness := (true, "e77871b41322232821071d0ccb7daf3fa2cb9ecb9cc02cfeeda6df25dd0c82b3"), looks := false }, kinds := [], alts := [], laidByText := true, laidKinds := [.data], laidTests := true, laidLooks := .later }
def FnExactArithCardSaid : Prop := Claim7.holds Tryd.pinned (.plain (OpenSpec.ofChange fnExactArithSpec)) fnExactArithCard

/-- THE SECOND FORM's CARD OF 'laws.FnExactArith'. -/
def fnExactArithUptoCard : Claim7 := { stood := { row := fnExactArithUptoRow, standIns := [], harness := (true, "e77871b41322232821071d0ccb7daf3fa2cb9ecb9cc02cfeeda6df25dd0c82b3"), looks := false }, kinds := [], alts := [], laidByText := true, laidKinds := [.data], laidTests := true, laidLooks := .later }
def FnExactArithUptoCardSaid : Prop := Claim7.holds Tryd.pinned (.plain (OpenSpec.upto fnExactArithSpec)) fnExactArithUptoCard
end Rows
end Go.Proofs.YtmkhkgliipalaabDoor
