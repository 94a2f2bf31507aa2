/-
  No cell of these rows narrows 'for every input' (looked for: loops, veiled, ifaces, maps, wideKeys, modest, calm, conditions, laid).
  DERIVED. THE GIVEN ROWS OF THIS SEAT. 3 by the template 'for every input the law returns true; each argument reads behind the call as it read before'; 0 by the template 'total and deterministic' (their statements: YtoajibpconhkdaaTotals.lean).
  GIVEN WITH THE SEED: the statements are not yours to turn. If you find one false, say at which input.
  Laid BY PROGRAM, IN A SANDBOX (cutbox-rows.mjs): the forced cells as the released guide's own fill.sh prints them over the translation 94c2a7b3bb722e14… (all of the seat's roots in one cut). By AI agents, Wed Nov 11 2026. No macro, syntax, notation, axiom, sorry.
-/
import Derived.Test.YtoajibpconhkdaaChecked
import GoSem.Claim
import GoSem.ClaimJoined
import GoSem.ClaimMapViews
import Derived.JoinedTies
import Derived.KernelRfl
namespace Go.Proofs.Ytoajibpconhkdaa
/- THE CELL 'sum', in the pinned program and in every row, IS THE sha256 OF THE DUMP (.gsa) THAT YtoajibpconhkdaaProg.lean LOADS. Nothing in Lean hashes anything: it is a label: what it is worth is what the hold of that sum in a sandbox is worth. -/
noncomputable def Try.pinned : Pinned := { name := "ytoajibpconhkdaa", sum := "94c2a7b3bb722e148e8e9fa866dce819b7a00cdb0067c5d06a5dfbb9cd386f54", checked := Try.checked }
namespace Rows
def none {H : Type} : Left H := { results := [], args := [] }

/-- 'laws.FnExactNextBlocks': WHATEVER THE INPUT: true; the input reads as it did. -/
def fnExactNextBlocksSpec : ChangeSpec := { name := "fnExactNextBlocks", fn := fun _ => fun
  | [d1, d2] => { results := [.lit (.bool true)], args := [d1, d2] }
  | _ => none }
def fnExactNextBlocksRow : OpenClaim := { program := "ytoajibpconhkdaa", sum := "94c2a7b3bb722e148e8e9fa866dce819b7a00cdb0067c5d06a5dfbb9cd386f54", func := "loop.example/g00010/laws.FnExactNextBlocks", spec := "fnExactNextBlocks", apart := false }
def FnExactNextBlocksSaid : Prop := fnExactNextBlocksRow.holds Try.pinned (OpenSpec.ofChange fnExactNextBlocksSpec)

/-- ITS FALSE NEIGHBOUR: 'it returns false'. Refute it at one input. -/
def fnExactNextBlocksWrong : ChangeSpec := { name := "fnExactNextBlocks", fn := fun _ => fun
  | [d1, d2] => { results := [.lit (.bool false)], args := [d1, d2] }
  | _ => none }
def FnExactNextBlocksWrongFalsely : Prop := fnExactNextBlocksRow.holds Try.pinned (OpenSpec.ofChange fnExactNextBlocksWrong)

/-- 'laws.FnExactPrevBlocks': WHATEVER THE INPUT: true; the input reads as it did. -/
def fnExactPrevBlocksSpec : ChangeSpec := { name := "fnExactPrevBlocks", fn := fun _ => fun
  | [d1, d2] => { results := [.lit (.bool true)], args := [d1, d2] }
  | _ => none }
def fnExactPrevBlocksRow : OpenClaim := { program := "ytoajibpconhkdaa", sum := "94c2a7b3bb722e148e8e9fa866dce819b7a00cdb0067c5d06a5dfbb9cd386f54", func := "loop.example/g00010/laws.FnExactPrevBlocks", spec := "fnExactPrevBlocks", apart := false }
def FnExactPrevBlocksSaid : Prop := fnExactPrevBlocksRow.holds Try.pinned (OpenSpec.ofChange fnExactPrevBlocksSpec)

/-- ITS FALSE NEIGHBOUR: 'it returns false'. Refute it at one input. -/
def fnExactPrevBlocksWrong : ChangeSpec := { name := "fnExactPrevBlocks", fn := fun _ => fun
  | [d1, d2] => { results := [.lit (.bool false)], args := [d1, d2] }
  | _ => none }
def FnExactPrevBlocksWrongFalsely : Prop := fnExactPrevBlocksRow.holds Try.pinned (OpenSpec.ofChange fnExactPrevBlocksWrong)

/-- 'laws.FnExactOrder': WHATEVER THE INPUT: true; the input reads as it did. -/
def fnExactOrderSpec : ChangeSpec := { name := "fnExactOrder", fn := fun _ => fun
  | [d] => { results := [.lit (.bool true)], args := [d] }
  | _ => none }
def fnExactOrderRow : OpenClaim := { program := "ytoajibpconhkdaa", sum := "94c2a7b3bb722e148e8e9fa866dce819b7a00cdb0067c5d06a5dfbb9cd386f54", func := "loop.example/g00010/laws.FnExactOrder", spec := "fnExactOrder", unfollowed := true, recurses := true, apart := false }
def FnExactOrderSaid : Prop := fnExactOrderRow.holds Try.pinned (OpenSpec.ofChange fnExactOrderSpec)

/-- ITS FALSE NEIGHBOUR: 'it returns false'. Refute it at one input. -/
def fnExactOrderWrong : ChangeSpec := { name := "fnExactOrder", fn := fun _ => fun
  | [d] => { results := [.lit (.bool false)], args := [d] }
  | _ => none }
def FnExactOrderWrongFalsely : Prop := fnExactOrderRow.holds Try.pinned (OpenSpec.ofChange fnExactOrderWrong)

/- THE SECOND FORM. 'bulk': how many values and letters a reading holds, each counted each time it is reached (what is shared counts as often as it is met; a slice's spare places count too). A statement '..UptoSaid' is the law's where the arguments, and the package variables that the reading takes, are together of bulk at most 1048576: NARROWER than '..Said'. Prove '..Said' where nothing that the law and all that it calls make is longer than what came in: it says more and counts as full. Else prove '..UptoSaid'. A law counts once. -/
mutual
def uptoBulk {H : Type} : DataW H → Nat
  | .lit (.string bytes) => bytes.length + 1
  | .lit _ => 1
  | .nil => 1
  | .ptr d => uptoBulk d + 1
  | .slice elems spare => uptoBulkAll elems + uptoBulkAll spare + 1
  | .agg parts => uptoBulkAll parts + 1
  | .iface _ d => uptoBulk d + 1
  | .map entries => uptoBulkEntries entries + 1
  | .held _ => 1
def uptoBulkAll {H : Type} : List (DataW H) → Nat
  | [] => 0
  | d :: r => uptoBulk d + uptoBulkAll r
def uptoBulkEntries {H : Type} : List (Lit × DataW H) → Nat
  | [] => 0
  | x :: r => uptoBulkEntry x + uptoBulkEntries r
def uptoBulkEntry {H : Type} : Lit × DataW H → Nat
  | (.string bytes, d) => bytes.length + uptoBulk d + 1
  | (_, d) => uptoBulk d + 1
 end
def uptoSmall : (H : Type) → List (DataW H) → Bool := fun _ ds => decide (uptoBulkAll ds ≤ 1048576)
def OpenSpec.upto (s : _root_.Go.ChangeSpec) : _root_.Go.OpenSpec := { _root_.Go.OpenSpec.ofChange s with cond := some uptoSmall }

/-- 'laws.FnExactNextBlocks', WHERE WHAT IT READS IS OF BULK AT MOST 1048576: true; the input reads as it did. -/
def fnExactNextBlocksUptoRow : OpenClaim := { program := "ytoajibpconhkdaa", sum := "94c2a7b3bb722e148e8e9fa866dce819b7a00cdb0067c5d06a5dfbb9cd386f54", func := "loop.example/g00010/laws.FnExactNextBlocks", spec := "fnExactNextBlocks", apart := false, narrowed := true }
def FnExactNextBlocksUptoSaid : Prop := fnExactNextBlocksUptoRow.holds Try.pinned (OpenSpec.upto fnExactNextBlocksSpec)

/-- 'laws.FnExactPrevBlocks', WHERE WHAT IT READS IS OF BULK AT MOST 1048576: true; the input reads as it did. -/
def fnExactPrevBlocksUptoRow : OpenClaim := { program := "ytoajibpconhkdaa", sum := "94c2a7b3bb722e148e8e9fa866dce819b7a00cdb0067c5d06a5dfbb9cd386f54", func := "loop.example/g00010/laws.FnExactPrevBlocks", spec := "fnExactPrevBlocks", apart := false, narrowed := true }
def FnExactPrevBlocksUptoSaid : Prop := fnExactPrevBlocksUptoRow.holds Try.pinned (OpenSpec.upto fnExactPrevBlocksSpec)

/-- 'laws.FnExactOrder', WHERE WHAT IT READS IS OF BULK AT MOST 1048576: true; the input reads as it did. -/
def fnExactOrderUptoRow : OpenClaim := { program := "ytoajibpconhkdaa", sum := "94c2a7b3bb722e148e8e9fa866dce819b7a00cdb0067c5d06a5dfbb9cd386f54", func := "loop.example/g00010/laws.FnExactOrder", spec := "fnExactOrder", unfollowed := true, recurses := true, apart := false, narrowed := true }
def FnExactOrderUptoSaid : Prop := fnExactOrderUptoRow.holds Try.pinned (OpenSpec.upto fnExactOrderSpec)

end Rows
end Go.Proofs.Ytoajibpconhkdaa
