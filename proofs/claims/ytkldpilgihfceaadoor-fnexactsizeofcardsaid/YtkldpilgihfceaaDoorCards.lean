/-
  DERIVED. GIVEN WITH THE SEED: THE CARDS: each row of YtkldpilgihfceaaDoorRows.lean that lists a variable, with what it lists TIED to the program's text (the seventh form; the later family's looks); each row that meets fmt, with fmt's text TOLD by the authors' own Lean function (tested against real Go, not proved from fmt's source: count such statements apart). THE CARD IS WHAT COUNTS. Prove the row's statement (the work); the ties are given (YtkldpilgihfceaaDoorTie.lean); close each card by the builder's one call (the guide's Derived/Test/ToyasCard.lean, 'card_holds'). Laid BY PROGRAM, IN A SANDBOX (cutbox-door.mjs). By AI agents, Wed Nov 11 2026. No macro, syntax, notation, axiom, sorry.
-/
import Derived.Test.YtkldpilgihfceaaDoorRows
import GoSem.ClaimSeven
namespace Go.Proofs.YtkldpilgihfceaaDoor
namespace Rows

/-- THE TIED CARD OF 'laws.FnExactValidType'. -/
def fnExactValidTypeCard : Claim7 := { stood := { row := fnExactValidTypeRow, standIns := [], harness := (true, "35dd7d2350638dce2d009c0bc89e391355b2fe9460b61accbc09724b9a02b8a2"), looks := false }, kinds := [], alts := [], laidByText := true, laidKinds := [.data], laidTests := true, laidLooks := .later }
def FnExactValidTypeCardSaid : Prop := Claim7.holds Tryd.pinned (.plain (OpenSpec.ofChange fnExactValidTypeSpec)) fnExactValidTypeCard

/-- THE TIED CARD OF 'laws.FnExactSizeOf'. -/
def fnExactSizeOfCard : Claim7 := { stood := { row := fnExactSizeOfRow, standIns := [], harness := (true, "35dd7d2350638dce2d009c0bc89e391355b2fe9460b61accbc09724b9a02b8a2"), looks := false }, kinds := [], alts := [], laidByText := true, laidKinds := [.data], laidTests := true, laidLooks := .later }
def FnExactSizeOfCardSaid : Prop := Claim7.holds Tryd.pinned (.plain (OpenSpec.ofChange fnExactSizeOfSpec)) fnExactSizeOfCard

/-- THE SECOND FORM's CARD OF 'laws.FnExactValidType'. -/
def fnExactValidTypeUptoCard : Claim7 := { stood := { row := fnExactValidTypeUptoRow, standIns := [], harness := (true, "35dd7d2350638dce2d009c0bc89e391355b2fe9460b61accbc09724b9a02b8a2"), looks := false }, kinds := [], alts := [], laidByText := true, laidKinds := [.data], laidTests := true, laidLooks := .later }
def FnExactValidTypeUptoCardSaid : Prop := Claim7.holds Tryd.pinned (.plain (OpenSpec.upto fnExactValidTypeSpec)) fnExactValidTypeUptoCard

/-- THE SECOND FORM's CARD OF 'laws.FnExactSizeOf'. -/
def fnExactSizeOfUptoCard : Claim7 := { stood := { row := fnExactSizeOfUptoRow, standIns := [], harness := (true, "35dd7d2350638dce2d009c0bc89e391355b2fe9460b61accbc09724b9a02b8a2"), looks := false }, kinds := [], alts := [], laidByText := true, laidKinds := [.data], laidTests := true, laidLooks := .later }
def FnExactSizeOfUptoCardSaid : Prop := Claim7.holds Tryd.pinned (.plain (OpenSpec.upto fnExactSizeOfSpec)) fnExactSizeOfUptoCard
end Rows
end Go.Proofs.YtkldpilgihfceaaDoor
