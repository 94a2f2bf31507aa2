/-
  DERIVED. GIVEN WITH THE SEED: THE CARDS: each row of YtedlghmjfaflcacDoorRows.lean that lists a variable, with what it lists TIED to the program's text (the seventh form; the later family's looks); each row that meets fmt, with fmt's text TOLD by the authors' own Lean function (tested against real Go, not proved from fmt's source: count such statements apart). THE CARD IS WHAT COUNTS. Prove the row's statement (the work); the ties are given (YtedlghmjfaflcacDoorTie.lean); close each card by the builder's one call (the guide's Derived/Test/ToyasCard.lean, 'card_holds'). Laid BY PROGRAM, IN A SANDBOX (cutbox-door.mjs). By AI agents, Wed Nov 11 2026. No macro, syntax, notation, axiom, sorry.
-/
import Derived.Test.YtedlghmjfaflcacDoorRows
import GoSem.ClaimSeven
namespace Go.Proofs.YtedlghmjfaflcacDoor
namespace Rows

/-- THE TIED CARD OF 'laws.FnExactCast'. -/
def fnExactCastCard : Claim7 := { stood := { row := fnExactCastRow, standIns := [], harness := (true, "ae511475e12c83e78f60bd975c715b22b9ec983f4ee849c096898ef6d61aeb88"), looks := true }, kinds := [], alts := [], laidByText := true, laidKinds := [.data], laidTests := true, laidLooks := .later }
def FnExactCastCardSaid : Prop := Claim7.holds Tryd.pinned (.plain (OpenSpec.ofChange fnExactCastSpec)) fnExactCastCard

/-- THE TIED CARD OF 'laws.FnExactFormatWord'. -/
def fnExactFormatWordCard : Claim7 := { stood := { row := fnExactFormatWordRow, standIns := [], harness := (true, "ae511475e12c83e78f60bd975c715b22b9ec983f4ee849c096898ef6d61aeb88"), looks := true }, kinds := [], alts := [], laidByText := true, laidKinds := [.data, .data, .data, .data], laidTests := true, laidLooks := .later }
def FnExactFormatWordCardSaid : Prop := Claim7.holds Tryd.pinned (.plain (OpenSpec.ofChange fnExactFormatWordSpec)) fnExactFormatWordCard

/-- THE TIED CARD OF 'laws.FnExactParseWord'. -/
def fnExactParseWordCard : Claim7 := { stood := { row := fnExactParseWordRow, standIns := [], harness := (true, "ae511475e12c83e78f60bd975c715b22b9ec983f4ee849c096898ef6d61aeb88"), looks := true }, kinds := [], alts := [], laidByText := true, laidKinds := [.data, .data, .data, .sentinel, .sentinel, .data], laidTests := true, laidLooks := .later }
def FnExactParseWordCardSaid : Prop := Claim7.holds Tryd.pinned (.plain (OpenSpec.ofChange fnExactParseWordSpec)) fnExactParseWordCard

/-- THE SECOND FORM's CARD OF 'laws.FnExactCast'. -/
def fnExactCastUptoCard : Claim7 := { stood := { row := fnExactCastUptoRow, standIns := [], harness := (true, "ae511475e12c83e78f60bd975c715b22b9ec983f4ee849c096898ef6d61aeb88"), looks := true }, kinds := [], alts := [], laidByText := true, laidKinds := [.data], laidTests := true, laidLooks := .later }
def FnExactCastUptoCardSaid : Prop := Claim7.holds Tryd.pinned (.plain (OpenSpec.upto fnExactCastSpec)) fnExactCastUptoCard

/-- THE SECOND FORM's CARD OF 'laws.FnExactFormatWord'. -/
def fnExactFormatWordUptoCard : Claim7 := { stood := { row := fnExactFormatWordUptoRow, standIns := [], harness := (true, "ae511475e12c83e78f60bd975c715b22b9ec983f4ee849c096898ef6d61aeb88"), looks := true }, kinds := [], alts := [], laidByText := true, laidKinds := [.data, .data, .data, .data], laidTests := true, laidLooks := .later }
def FnExactFormatWordUptoCardSaid : Prop := Claim7.holds Tryd.pinned (.plain (OpenSpec.upto fnExactFormatWordSpec)) fnExactFormatWordUptoCard

/-- THE SECOND FORM's CARD OF 'laws.FnExactParseWord'. -/
def fnExactParseWordUptoCard : Claim7 := { stood := { row := fnExactParseWordUptoRow, standIns := [], harness := (true, "ae511475e12c83e78f60bd975c715b22b9ec983f4ee849c096898ef6d61aeb88"), looks := true }, kinds := [], alts := [], laidByText := true, laidKinds := [.data, .data, .data, .sentinel, .sentinel, .data], laidTests := true, laidLooks := .later }
def FnExactParseWordUptoCardSaid : Prop := Claim7.holds Tryd.pinned (.plain (OpenSpec.upto fnExactParseWordSpec)) fnExactParseWordUptoCard
end Rows
end Go.Proofs.YtedlghmjfaflcacDoor
