/-
  NARROWER THAN 'FOR EVERY INPUT', by the rows' own cells (each row's printed sentence says how): FnDivide: laid · FnShift: laid · FnOrders: laid · FnCasts: laid · FnExactFormatWord: laid · FnExactParseWord: laid.
  DERIVED. THE GIVEN ROWS OF THIS SEAT. 6 by the template 'for every input the law returns true; each argument reads behind the call as it read before'; 0 by the template 'total and deterministic' (their statements: YtmkhkgliipalaaaDoorTotals.lean).
  GIVEN WITH THE SEED: the statements are not yours to turn. If you find one false, say at which input.
  Laid BY PROGRAM, IN A SANDBOX (cutbox-rows.mjs): the forced cells as the released guide's own fill.sh prints them over the translation e6a51ad5646ab2eb… (all of the seat's roots in one cut). By AI agents, Wed Nov 11 2026. No macro, syntax, notation, axiom, sorry.
-/
import Derived.Test.YtmkhkgliipalaaaDoorChecked
import GoSem.Claim
import GoSem.ClaimJoined
import GoSem.ClaimMapViews
import Derived.JoinedTies
import Derived.KernelRfl
namespace Go.Proofs.YtmkhkgliipalaaaDoor
/- THE CELL 'sum', in the pinned program and in every row, IS THE sha256 OF THE DUMP (.gsa) THAT YtmkhkgliipalaaaDoorProg.lean LOADS. Nothing in Lean hashes anything: it is a label: what it is worth is what the hold of that sum in a sandbox is worth. -/
noncomputable def Tryd.pinned : Pinned := { name := "ytmkhkgliipalaaadoor", sum := "e6a51ad5646ab2ebbe2744dc733f6a2e3aa2ae35913b126327e38e61a1db9b83", checked := Tryd.checked }
namespace Rows
def none {H : Type} : Left H := { results := [], args := [] }

/- WHAT THE LISTED PACKAGE-LEVEL VARIABLES READ AS WHEN THE CALL BEGINS. Each datum BY PROGRAM (the guide's laid-datum.mjs) off the statement by which the dump's own 'gosem.cut.vars' lays the variable. In a bare row this is a premise. The card (YtmkhkgliipalaaaDoorCards.lean) ties it to the program's text. -/
def laid_loop_example_g00010_impl_widths {H : Type} : DataW H := .agg [.lit (.int .i64 1), .lit (.int .i64 8), .lit (.int .i64 16), .lit (.int .i64 32), .lit (.int .i64 64)]
def laid_math_bits_deBruijn32tab {H : Type} : DataW H := .agg [.lit (.int .u8 0), .lit (.int .u8 1), .lit (.int .u8 28), .lit (.int .u8 2), .lit (.int .u8 29), .lit (.int .u8 14), .lit (.int .u8 24), .lit (.int .u8 3), .lit (.int .u8 30), .lit (.int .u8 22), .lit (.int .u8 20), .lit (.int .u8 15), .lit (.int .u8 25), .lit (.int .u8 17), .lit (.int .u8 4), .lit (.int .u8 8), .lit (.int .u8 31), .lit (.int .u8 27), .lit (.int .u8 13), .lit (.int .u8 23), .lit (.int .u8 21), .lit (.int .u8 19), .lit (.int .u8 16), .lit (.int .u8 7), .lit (.int .u8 26), .lit (.int .u8 12), .lit (.int .u8 18), .lit (.int .u8 6), .lit (.int .u8 11), .lit (.int .u8 5), .lit (.int .u8 10), .lit (.int .u8 9)]
def laid_math_bits_deBruijn64tab {H : Type} : DataW H := .agg [.lit (.int .u8 0), .lit (.int .u8 1), .lit (.int .u8 56), .lit (.int .u8 2), .lit (.int .u8 57), .lit (.int .u8 49), .lit (.int .u8 28), .lit (.int .u8 3), .lit (.int .u8 61), .lit (.int .u8 58), .lit (.int .u8 42), .lit (.int .u8 50), .lit (.int .u8 38), .lit (.int .u8 29), .lit (.int .u8 17), .lit (.int .u8 4), .lit (.int .u8 62), .lit (.int .u8 47), .lit (.int .u8 59), .lit (.int .u8 36), .lit (.int .u8 45), .lit (.int .u8 43), .lit (.int .u8 51), .lit (.int .u8 22), .lit (.int .u8 53), .lit (.int .u8 39), .lit (.int .u8 33), .lit (.int .u8 30), .lit (.int .u8 24), .lit (.int .u8 18), .lit (.int .u8 12), .lit (.int .u8 5), .lit (.int .u8 63), .lit (.int .u8 55), .lit (.int .u8 48), .lit (.int .u8 27), .lit (.int .u8 60), .lit (.int .u8 41), .lit (.int .u8 37), .lit (.int .u8 16), .lit (.int .u8 46), .lit (.int .u8 35), .lit (.int .u8 44), .lit (.int .u8 21), .lit (.int .u8 52), .lit (.int .u8 32), .lit (.int .u8 23), .lit (.int .u8 11), .lit (.int .u8 54), .lit (.int .u8 26), .lit (.int .u8 40), .lit (.int .u8 15), .lit (.int .u8 34), .lit (.int .u8 20), .lit (.int .u8 31), .lit (.int .u8 10), .lit (.int .u8 25), .lit (.int .u8 14), .lit (.int .u8 19), .lit (.int .u8 9), .lit (.int .u8 13), .lit (.int .u8 8), .lit (.int .u8 7), .lit (.int .u8 6)]
def laid_internal_strconv_uint64pow10 {H : Type} : DataW H := .agg [.lit (.int .u64 1), .lit (.int .u64 10), .lit (.int .u64 100), .lit (.int .u64 1000), .lit (.int .u64 10000), .lit (.int .u64 100000), .lit (.int .u64 1000000), .lit (.int .u64 10000000), .lit (.int .u64 100000000), .lit (.int .u64 1000000000), .lit (.int .u64 10000000000), .lit (.int .u64 100000000000), .lit (.int .u64 1000000000000), .lit (.int .u64 10000000000000), .lit (.int .u64 100000000000000), .lit (.int .u64 1000000000000000), .lit (.int .u64 10000000000000000), .lit (.int .u64 100000000000000000), .lit (.int .u64 1000000000000000000), .lit (.int .u64 10000000000000000000)]
def laid_strconv_ErrRange {H : Type} : DataW H := .iface "*errors.errorString" (.ptr (.agg [.lit (.string [118, 97, 108, 117, 101, 32, 111, 117, 116, 32, 111, 102, 32, 114, 97, 110, 103, 101])]))
def laid_strconv_ErrSyntax {H : Type} : DataW H := .iface "*errors.errorString" (.ptr (.agg [.lit (.string [105, 110, 118, 97, 108, 105, 100, 32, 115, 121, 110, 116, 97, 120])]))

/-- 'laws.FnDivide': WHATEVER THE INPUT: true; the input reads as it did. -/
def fnDivideSpec : ChangeSpec := { name := "fnDivide", vars := ["loop.example/g00010/impl.widths"], fn := fun _ => fun
  | [d, g1] => { results := [.lit (.bool true)], args := [d], vars := [g1] }
  | _ => none }
def fnDivideRow : OpenClaim := { program := "ytmkhkgliipalaaadoor", sum := "e6a51ad5646ab2ebbe2744dc733f6a2e3aa2ae35913b126327e38e61a1db9b83", func := "loop.example/g00010/laws.FnDivide", spec := "fnDivide", inPlace := ["math/bits.Add64", "math/bits.Sub64"], named := ["loop.example/g00010/impl.widths"], apart := false, laid := [("loop.example/g00010/impl.widths", laid_loop_example_g00010_impl_widths)] }
def FnDivideSaid : Prop := fnDivideRow.holds Tryd.pinned (OpenSpec.ofChange fnDivideSpec)

/-- ITS FALSE NEIGHBOUR: 'it returns false'. Refute it at one input. -/
def fnDivideWrong : ChangeSpec := { name := "fnDivide", vars := ["loop.example/g00010/impl.widths"], fn := fun _ => fun
  | [d, g1] => { results := [.lit (.bool false)], args := [d], vars := [g1] }
  | _ => none }
def FnDivideWrongFalsely : Prop := fnDivideRow.holds Tryd.pinned (OpenSpec.ofChange fnDivideWrong)

/-- 'laws.FnShift': WHATEVER THE INPUT: true; the input reads as it did. -/
def fnShiftSpec : ChangeSpec := { name := "fnShift", vars := ["loop.example/g00010/impl.widths"], fn := fun _ => fun
  | [d, g1] => { results := [.lit (.bool true)], args := [d], vars := [g1] }
  | _ => none }
def fnShiftRow : OpenClaim := { program := "ytmkhkgliipalaaadoor", sum := "e6a51ad5646ab2ebbe2744dc733f6a2e3aa2ae35913b126327e38e61a1db9b83", func := "loop.example/g00010/laws.FnShift", spec := "fnShift", inPlace := ["math/bits.Add64", "math/bits.Sub64"], named := ["loop.example/g00010/impl.widths"], apart := false, laid := [("loop.example/g00010/impl.widths", laid_loop_example_g00010_impl_widths)] }
def FnShiftSaid : Prop := fnShiftRow.holds Tryd.pinned (OpenSpec.ofChange fnShiftSpec)

/-- ITS FALSE NEIGHBOUR: 'it returns false'. Refute it at one input. -/
def fnShiftWrong : ChangeSpec := { name := "fnShift", vars := ["loop.example/g00010/impl.widths"], fn := fun _ => fun
  | [d, g1] => { results := [.lit (.bool false)], args := [d], vars := [g1] }
  | _ => none }
def FnShiftWrongFalsely : Prop := fnShiftRow.holds Tryd.pinned (OpenSpec.ofChange fnShiftWrong)

/-- 'laws.FnOrders': WHATEVER THE INPUT: true; the input reads as it did. -/
def fnOrdersSpec : ChangeSpec := { name := "fnOrders", vars := ["loop.example/g00010/impl.widths"], fn := fun _ => fun
  | [d, g1] => { results := [.lit (.bool true)], args := [d], vars := [g1] }
  | _ => none }
def fnOrdersRow : OpenClaim := { program := "ytmkhkgliipalaaadoor", sum := "e6a51ad5646ab2ebbe2744dc733f6a2e3aa2ae35913b126327e38e61a1db9b83", func := "loop.example/g00010/laws.FnOrders", spec := "fnOrders", inPlace := ["math/bits.Add64", "math/bits.Sub64"], named := ["loop.example/g00010/impl.widths"], apart := false, laid := [("loop.example/g00010/impl.widths", laid_loop_example_g00010_impl_widths)] }
def FnOrdersSaid : Prop := fnOrdersRow.holds Tryd.pinned (OpenSpec.ofChange fnOrdersSpec)

/-- ITS FALSE NEIGHBOUR: 'it returns false'. Refute it at one input. -/
def fnOrdersWrong : ChangeSpec := { name := "fnOrders", vars := ["loop.example/g00010/impl.widths"], fn := fun _ => fun
  | [d, g1] => { results := [.lit (.bool false)], args := [d], vars := [g1] }
  | _ => none }
def FnOrdersWrongFalsely : Prop := fnOrdersRow.holds Tryd.pinned (OpenSpec.ofChange fnOrdersWrong)

/-- 'laws.FnCasts': WHATEVER THE INPUT: true; the input reads as it did. -/
def fnCastsSpec : ChangeSpec := { name := "fnCasts", vars := ["loop.example/g00010/impl.widths"], fn := fun _ => fun
  | [d, g1] => { results := [.lit (.bool true)], args := [d], vars := [g1] }
  | _ => none }
def fnCastsRow : OpenClaim := { program := "ytmkhkgliipalaaadoor", sum := "e6a51ad5646ab2ebbe2744dc733f6a2e3aa2ae35913b126327e38e61a1db9b83", func := "loop.example/g00010/laws.FnCasts", spec := "fnCasts", recurses := true, named := ["loop.example/g00010/impl.widths", "internal/strconv.uint64pow10", "math/bits.deBruijn32tab", "math/bits.deBruijn64tab", "strconv.ErrSyntax", "strconv.ErrRange"], apart := false, laid := [("math/bits.deBruijn32tab", laid_math_bits_deBruijn32tab), ("math/bits.deBruijn64tab", laid_math_bits_deBruijn64tab), ("internal/strconv.uint64pow10", laid_internal_strconv_uint64pow10), ("strconv.ErrRange", laid_strconv_ErrRange), ("strconv.ErrSyntax", laid_strconv_ErrSyntax), ("loop.example/g00010/impl.widths", laid_loop_example_g00010_impl_widths)] }
def FnCastsSaid : Prop := fnCastsRow.holds Tryd.pinned (OpenSpec.ofChange fnCastsSpec)

/-- ITS FALSE NEIGHBOUR: 'it returns false'. Refute it at one input. -/
def fnCastsWrong : ChangeSpec := { name := "fnCasts", vars := ["loop.example/g00010/impl.widths"], fn := fun _ => fun
  | [d, g1] => { results := [.lit (.bool false)], args := [d], vars := [g1] }
  | _ => none }
def FnCastsWrongFalsely : Prop := fnCastsRow.holds Tryd.pinned (OpenSpec.ofChange fnCastsWrong)

/-- 'laws.FnExactFormatWord': WHATEVER THE INPUT: true; the input reads as it did. -/
def fnExactFormatWordSpec : ChangeSpec := { name := "fnExactFormatWord", vars := ["loop.example/g00010/impl.widths"], fn := fun _ => fun
  | [d1, d2, g1] => { results := [.lit (.bool true)], args := [d1, d2], vars := [g1] }
  | _ => none }
def fnExactFormatWordRow : OpenClaim := { program := "ytmkhkgliipalaaadoor", sum := "e6a51ad5646ab2ebbe2744dc733f6a2e3aa2ae35913b126327e38e61a1db9b83", func := "loop.example/g00010/laws.FnExactFormatWord", spec := "fnExactFormatWord", recurses := true, named := ["loop.example/g00010/impl.widths", "internal/strconv.uint64pow10", "math/bits.deBruijn32tab", "math/bits.deBruijn64tab"], apart := false, laid := [("math/bits.deBruijn32tab", laid_math_bits_deBruijn32tab), ("math/bits.deBruijn64tab", laid_math_bits_deBruijn64tab), ("internal/strconv.uint64pow10", laid_internal_strconv_uint64pow10), ("loop.example/g00010/impl.widths", laid_loop_example_g00010_impl_widths)] }
def FnExactFormatWordSaid : Prop := fnExactFormatWordRow.holds Tryd.pinned (OpenSpec.ofChange fnExactFormatWordSpec)

/-- ITS FALSE NEIGHBOUR: 'it returns false'. Refute it at one input. -/
def fnExactFormatWordWrong : ChangeSpec := { name := "fnExactFormatWord", vars := ["loop.example/g00010/impl.widths"], fn := fun _ => fun
  | [d1, d2, g1] => { results := [.lit (.bool false)], args := [d1, d2], vars := [g1] }
  | _ => none }
def FnExactFormatWordWrongFalsely : Prop := fnExactFormatWordRow.holds Tryd.pinned (OpenSpec.ofChange fnExactFormatWordWrong)

/-- 'laws.FnExactParseWord': WHATEVER THE INPUT: true; the input reads as it did. -/
def fnExactParseWordSpec : ChangeSpec := { name := "fnExactParseWord", vars := ["loop.example/g00010/impl.widths"], fn := fun _ => fun
  | [d1, d2, g1] => { results := [.lit (.bool true)], args := [d1, d2], vars := [g1] }
  | _ => none }
def fnExactParseWordRow : OpenClaim := { program := "ytmkhkgliipalaaadoor", sum := "e6a51ad5646ab2ebbe2744dc733f6a2e3aa2ae35913b126327e38e61a1db9b83", func := "loop.example/g00010/laws.FnExactParseWord", spec := "fnExactParseWord", recurses := true, named := ["strconv.ErrSyntax", "strconv.ErrRange", "internal/strconv.uint64pow10", "math/bits.deBruijn32tab", "math/bits.deBruijn64tab", "loop.example/g00010/impl.widths"], apart := false, laid := [("math/bits.deBruijn32tab", laid_math_bits_deBruijn32tab), ("math/bits.deBruijn64tab", laid_math_bits_deBruijn64tab), ("internal/strconv.uint64pow10", laid_internal_strconv_uint64pow10), ("strconv.ErrRange", laid_strconv_ErrRange), ("strconv.ErrSyntax", laid_strconv_ErrSyntax), ("loop.example/g00010/impl.widths", laid_loop_example_g00010_impl_widths)] }
def FnExactParseWordSaid : Prop := fnExactParseWordRow.holds Tryd.pinned (OpenSpec.ofChange fnExactParseWordSpec)

/-- ITS FALSE NEIGHBOUR: 'it returns false'. Refute it at one input. -/
def fnExactParseWordWrong : ChangeSpec := { name := "fnExactParseWord", vars := ["loop.example/g00010/impl.widths"], fn := fun _ => fun
  | [d1, d2, g1] => { results := [.lit (.bool false)], args := [d1, d2], vars := [g1] }
  | _ => none }
def FnExactParseWordWrongFalsely : Prop := fnExactParseWordRow.holds Tryd.pinned (OpenSpec.ofChange fnExactParseWordWrong)

/- THE SECOND FORM. 'bulk': how many values and letters a reading holds, each counted each time it is reached (what is shared counts as often as it is met; a slice's spare places count too). A statement '..UptoSaid' is the law's where the arguments, and the package variables that the reading takes, are together of bulk at most 1048576: NARROWER than '..Said'. Prove '..Said' where nothing that the law and all that it calls make is longer than what came in: it says more and counts as full. Else prove '..UptoSaid'. A law counts once. -/
mutual
def uptoBulk {H : Type} : DataW H → Nat
  | .lit (.string bytes) => bytes.length + 1
  | .lit _ => 1
  | .nil => 1
  | .ptr d => uptoBulk d + 1
  | .slice elems spare => uptoBulkAll elems + uptoBulkAll spare + 1
  | .agg parts => uptoBulkAll parts + 1
  | .iface _ d => uptoBulk d + 1
  | .map entries => uptoBulkEntries entries + 1
  | .held _ => 1
def uptoBulkAll {H : Type} : List (DataW H) → Nat
  | [] => 0
  | d :: r => uptoBulk d + uptoBulkAll r
def uptoBulkEntries {H : Type} : List (Lit × DataW H) → Nat
  | [] => 0
  | x :: r => uptoBulkEntry x + uptoBulkEntries r
def uptoBulkEntry {H : Type} : Lit × DataW H → Nat
  | (.string bytes, d) => bytes.length + uptoBulk d + 1
  | (_, d) => uptoBulk d + 1
 end
def uptoSmall : (H : Type) → List (DataW H) → Bool := fun _ ds => decide (uptoBulkAll ds ≤ 1048576)
def OpenSpec.upto (s : _root_.Go.ChangeSpec) : _root_.Go.OpenSpec := { _root_.Go.OpenSpec.ofChange s with cond := some uptoSmall }

/-- 'laws.FnDivide', WHERE WHAT IT READS IS OF BULK AT MOST 1048576: true; the input reads as it did. -/
def fnDivideUptoRow : OpenClaim := { program := "ytmkhkgliipalaaadoor", sum := "e6a51ad5646ab2ebbe2744dc733f6a2e3aa2ae35913b126327e38e61a1db9b83", func := "loop.example/g00010/laws.FnDivide", spec := "fnDivide", inPlace := ["math/bits.Add64", "math/bits.Sub64"], named := ["loop.example/g00010/impl.widths"], apart := false, laid := [("loop.example/g00010/impl.widths", laid_loop_example_g00010_impl_widths)], narrowed := true }
def FnDivideUptoSaid : Prop := fnDivideUptoRow.holds Tryd.pinned (OpenSpec.upto fnDivideSpec)

/-- 'laws.FnShift', WHERE WHAT IT READS IS OF BULK AT MOST 1048576: true; the input reads as it did. -/
def fnShiftUptoRow : OpenClaim := { program := "ytmkhkgliipalaaadoor", sum := "e6a51ad5646ab2ebbe2744dc733f6a2e3aa2ae35913b126327e38e61a1db9b83", func := "loop.example/g00010/laws.FnShift", spec := "fnShift", inPlace := ["math/bits.Add64", "math/bits.Sub64"], named := ["loop.example/g00010/impl.widths"], apart := false, laid := [("loop.example/g00010/impl.widths", laid_loop_example_g00010_impl_widths)], narrowed := true }
def FnShiftUptoSaid : Prop := fnShiftUptoRow.holds Tryd.pinned (OpenSpec.upto fnShiftSpec)

/-- 'laws.FnOrders', WHERE WHAT IT READS IS OF BULK AT MOST 1048576: true; the input reads as it did. -/
def fnOrdersUptoRow : OpenClaim := { program := "ytmkhkgliipalaaadoor", sum := "e6a51ad5646ab2ebbe2744dc733f6a2e3aa2ae35913b126327e38e61a1db9b83", func := "loop.example/g00010/laws.FnOrders", spec := "fnOrders", inPlace := ["math/bits.Add64", "math/bits.Sub64"], named := ["loop.example/g00010/impl.widths"], apart := false, laid := [("loop.example/g00010/impl.widths", laid_loop_example_g00010_impl_widths)], narrowed := true }
def FnOrdersUptoSaid : Prop := fnOrdersUptoRow.holds Tryd.pinned (OpenSpec.upto fnOrdersSpec)

/-- 'laws.FnCasts', WHERE WHAT IT READS IS OF BULK AT MOST 1048576: true; the input reads as it did. -/
def fnCastsUptoRow : OpenClaim := { program := "ytmkhkgliipalaaadoor", sum := "e6a51ad5646ab2ebbe2744dc733f6a2e3aa2ae35913b126327e38e61a1db9b83", func := "loop.example/g00010/laws.FnCasts", spec := "fnCasts", recurses := true, named := ["loop.example/g00010/impl.widths", "internal/strconv.uint64pow10", "math/bits.deBruijn32tab", "math/bits.deBruijn64tab", "strconv.ErrSyntax", "strconv.ErrRange"], apart := false, laid := [("math/bits.deBruijn32tab", laid_math_bits_deBruijn32tab), ("math/bits.deBruijn64tab", laid_math_bits_deBruijn64tab), ("internal/strconv.uint64pow10", laid_internal_strconv_uint64pow10), ("strconv.ErrRange", laid_strconv_ErrRange), ("strconv.ErrSyntax", laid_strconv_ErrSyntax), ("loop.example/g00010/impl.widths", laid_loop_example_g00010_impl_widths)], narrowed := true }
def FnCastsUptoSaid : Prop := fnCastsUptoRow.holds Tryd.pinned (OpenSpec.upto fnCastsSpec)

/-- 'laws.FnExactFormatWord', WHERE WHAT IT READS IS OF BULK AT MOST 1048576: true; the input reads as it did. -/
def fnExactFormatWordUptoRow : OpenClaim := { program := "ytmkhkgliipalaaadoor", sum := "e6a51ad5646ab2ebbe2744dc733f6a2e3aa2ae35913b126327e38e61a1db9b83", func := "loop.example/g00010/laws.FnExactFormatWord", spec := "fnExactFormatWord", recurses := true, named := ["loop.example/g00010/impl.widths", "internal/strconv.uint64pow10", "math/bits.deBruijn32tab", "math/bits.deBruijn64tab"], apart := false, laid := [("math/bits.deBruijn32tab", laid_math_bits_deBruijn32tab), ("math/bits.deBruijn64tab", laid_math_bits_deBruijn64tab), ("internal/strconv.uint64pow10", laid_internal_strconv_uint64pow10), ("loop.example/g00010/impl.widths", laid_loop_example_g00010_impl_widths)], narrowed := true }
def FnExactFormatWordUptoSaid : Prop := fnExactFormatWordUptoRow.holds Tryd.pinned (OpenSpec.upto fnExactFormatWordSpec)

/-- 'laws.FnExactParseWord', WHERE WHAT IT READS IS OF BULK AT MOST 1048576: true; the input reads as it did. -/
def fnExactParseWordUptoRow : OpenClaim := { program := "ytmkhkgliipalaaadoor", sum := "e6a51ad5646ab2ebbe2744dc733f6a2e3aa2ae35913b126327e38e61a1db9b83", func := "loop.example/g00010/laws.FnExactParseWord", spec := "fnExactParseWord", recurses := true, named := ["strconv.ErrSyntax", "strconv.ErrRange", "internal/strconv.uint64pow10", "math/bits.deBruijn32tab", "math/bits.deBruijn64tab", "loop.example/g00010/impl.widths"], apart := false, laid := [("math/bits.deBruijn32tab", laid_math_bits_deBruijn32tab), ("math/bits.deBruijn64tab", laid_math_bits_deBruijn64tab), ("internal/strconv.uint64pow10", laid_internal_strconv_uint64pow10), ("strconv.ErrRange", laid_strconv_ErrRange), ("strconv.ErrSyntax", laid_strconv_ErrSyntax), ("loop.example/g00010/impl.widths", laid_loop_example_g00010_impl_widths)], narrowed := true }
def FnExactParseWordUptoSaid : Prop := fnExactParseWordUptoRow.holds Tryd.pinned (OpenSpec.upto fnExactParseWordSpec)

end Rows
end Go.Proofs.YtmkhkgliipalaaaDoor
