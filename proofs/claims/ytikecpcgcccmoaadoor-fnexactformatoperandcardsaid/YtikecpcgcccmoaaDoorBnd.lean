/- The bounds of the numbers of a module's data. -/
import Derived.Test.YtikecpcgcccmoaaDoorMd1
namespace Go.Proofs.YtikecpcgcccmoaaDoor
set_option linter.unusedVariables false
/-- A number of 64 bits with a sign. -/
structure I64 (z : Int) : Prop where
  a : -9223372036854775808 ≤ z
  b : z ≤ 9223372036854775807
/-- The bounds of an operand's fields. -/
structure OpB (q : OpD) : Prop where
  i0 : -9223372036854775808 ≤ q.i
  i1 : q.i ≤ 9223372036854775807
  w0 : 0 ≤ q.w
  w1 : q.w ≤ 18446744073709551615
structure InB (x : InD) : Prop where
  fl : I64 x.fl
  sz : I64 x.sz
  a : ∀ q ∈ x.args, OpB q
  b : ∀ z ∈ x.bl, I64 z
  c : ∀ z ∈ x.ws, 0 ≤ z ∧ z ≤ 18446744073709551615
structure FnB (f : FnD) : Prop where
  b : ∀ xs ∈ f.blocks, ∀ x ∈ xs, InB x
structure GlB (g : GlD) : Prop where
  s : I64 g.size
  y : ∀ z ∈ g.bytes, 0 ≤ z ∧ z ≤ 255
structure MoB (gs : List GlD) (fs : List FnD) : Prop where
  g : ∀ g ∈ gs, GlB g
  f : ∀ f ∈ fs, FnB f
end Go.Proofs.YtikecpcgcccmoaaDoor
