/-
  No cell of these rows narrows 'for every input' (looked for: loops, veiled, ifaces, maps, wideKeys, modest, calm, conditions, laid).
  DERIVED. THE GIVEN ROWS OF THIS SEAT. 7 by the template 'for every input the law returns true; each argument reads behind the call as it read before'; 0 by the template 'total and deterministic' (their statements: YtcbecfimikpljaaTotals.lean).
  GIVEN WITH THE SEED: the statements are not yours to turn. If you find one false, say at which input.
  Laid BY PROGRAM, IN A SANDBOX (cutbox-rows.mjs): the forced cells as the released guide's own fill.sh prints them over the translation f72f5e09cb03d8fd… (all of the seat's roots in one cut). By AI agents, Wed Nov 11 2026. No macro, syntax, notation, axiom, sorry.
-/
import Derived.Test.YtcbecfimikpljaaChecked
import GoSem.Claim
import GoSem.ClaimJoined
import GoSem.ClaimMapViews
import Derived.JoinedTies
import Derived.KernelRfl
namespace Go.Proofs.Ytcbecfimikpljaa
/- THE CELL 'sum', in the pinned program and in every row, IS THE sha256 OF THE DUMP (.gsa) THAT YtcbecfimikpljaaProg.lean LOADS. Nothing in Lean hashes anything: it is a label: what it is worth is what the hold of that sum in a sandbox is worth. -/
noncomputable def Try.pinned : Pinned := { name := "ytcbecfimikpljaa", sum := "f72f5e09cb03d8fd9d557df7ad93762333ad271dbb50147aebb9f55948821e0b", checked := Try.checked }
namespace Rows
def none {H : Type} : Left H := { results := [], args := [] }

/-- 'coupelaw12.PiecewiseEvals': WHATEVER THE INPUT: true; the input reads as it did. -/
def piecewiseEvalsSpec : ChangeSpec := { name := "piecewiseEvals", fn := fun _ => fun
  | [d1, d2] => { results := [.lit (.bool true)], args := [d1, d2] }
  | _ => none }
def piecewiseEvalsRow : OpenClaim := { program := "ytcbecfimikpljaa", sum := "f72f5e09cb03d8fd9d557df7ad93762333ad271dbb50147aebb9f55948821e0b", func := "coupe/coupelaw12.PiecewiseEvals", spec := "piecewiseEvals", inPlace := ["math/bits.Add64", "math/bits.Sub64"], unfollowed := true, recurses := true, named := ["math/bits.divideError", "math/bits.overflowError"], apart := false }
def PiecewiseEvalsSaid : Prop := piecewiseEvalsRow.holds Try.pinned (OpenSpec.ofChange piecewiseEvalsSpec)

/-- ITS FALSE NEIGHBOUR: 'it returns false'. Refute it at one input. -/
def piecewiseEvalsWrong : ChangeSpec := { name := "piecewiseEvals", fn := fun _ => fun
  | [d1, d2] => { results := [.lit (.bool false)], args := [d1, d2] }
  | _ => none }
def PiecewiseEvalsWrongFalsely : Prop := piecewiseEvalsRow.holds Try.pinned (OpenSpec.ofChange piecewiseEvalsWrong)

/-- 'coupelaw12.PiecewiseShapes': WHATEVER THE INPUT: true; the input reads as it did. -/
def piecewiseShapesSpec : ChangeSpec := { name := "piecewiseShapes", fn := fun _ => fun
  | [d] => { results := [.lit (.bool true)], args := [d] }
  | _ => none }
def piecewiseShapesRow : OpenClaim := { program := "ytcbecfimikpljaa", sum := "f72f5e09cb03d8fd9d557df7ad93762333ad271dbb50147aebb9f55948821e0b", func := "coupe/coupelaw12.PiecewiseShapes", spec := "piecewiseShapes", inPlace := ["math/bits.Add64", "math/bits.Sub64"], unfollowed := true, recurses := true, named := ["math/bits.divideError", "math/bits.overflowError"], apart := false }
def PiecewiseShapesSaid : Prop := piecewiseShapesRow.holds Try.pinned (OpenSpec.ofChange piecewiseShapesSpec)

/-- ITS FALSE NEIGHBOUR: 'it returns false'. Refute it at one input. -/
def piecewiseShapesWrong : ChangeSpec := { name := "piecewiseShapes", fn := fun _ => fun
  | [d] => { results := [.lit (.bool false)], args := [d] }
  | _ => none }
def PiecewiseShapesWrongFalsely : Prop := piecewiseShapesRow.holds Try.pinned (OpenSpec.ofChange piecewiseShapesWrong)

/-- 'coupelaw12.PiecewiseRanges': WHATEVER THE INPUT: true; the input reads as it did. -/
def piecewiseRangesSpec : ChangeSpec := { name := "piecewiseRanges", fn := fun _ => fun
  | [d1, d2, d3] => { results := [.lit (.bool true)], args := [d1, d2, d3] }
  | _ => none }
def piecewiseRangesRow : OpenClaim := { program := "ytcbecfimikpljaa", sum := "f72f5e09cb03d8fd9d557df7ad93762333ad271dbb50147aebb9f55948821e0b", func := "coupe/coupelaw12.PiecewiseRanges", spec := "piecewiseRanges", inPlace := ["math/bits.Add64", "math/bits.Sub64"], unfollowed := true, recurses := true, named := ["math/bits.divideError", "math/bits.overflowError"], apart := false }
def PiecewiseRangesSaid : Prop := piecewiseRangesRow.holds Try.pinned (OpenSpec.ofChange piecewiseRangesSpec)

/-- ITS FALSE NEIGHBOUR: 'it returns false'. Refute it at one input. -/
def piecewiseRangesWrong : ChangeSpec := { name := "piecewiseRanges", fn := fun _ => fun
  | [d1, d2, d3] => { results := [.lit (.bool false)], args := [d1, d2, d3] }
  | _ => none }
def PiecewiseRangesWrongFalsely : Prop := piecewiseRangesRow.holds Try.pinned (OpenSpec.ofChange piecewiseRangesWrong)

/-- 'coupelaw12.PiecewiseEnds': WHATEVER THE INPUT: true; the input reads as it did. -/
def piecewiseEndsSpec : ChangeSpec := { name := "piecewiseEnds", fn := fun _ => fun
  | [d1, d2, d3] => { results := [.lit (.bool true)], args := [d1, d2, d3] }
  | _ => none }
def piecewiseEndsRow : OpenClaim := { program := "ytcbecfimikpljaa", sum := "f72f5e09cb03d8fd9d557df7ad93762333ad271dbb50147aebb9f55948821e0b", func := "coupe/coupelaw12.PiecewiseEnds", spec := "piecewiseEnds", inPlace := ["math/bits.Add64", "math/bits.Sub64"], unfollowed := true, recurses := true, named := ["math/bits.divideError", "math/bits.overflowError"], apart := false }
def PiecewiseEndsSaid : Prop := piecewiseEndsRow.holds Try.pinned (OpenSpec.ofChange piecewiseEndsSpec)

/-- ITS FALSE NEIGHBOUR: 'it returns false'. Refute it at one input. -/
def piecewiseEndsWrong : ChangeSpec := { name := "piecewiseEnds", fn := fun _ => fun
  | [d1, d2, d3] => { results := [.lit (.bool false)], args := [d1, d2, d3] }
  | _ => none }
def PiecewiseEndsWrongFalsely : Prop := piecewiseEndsRow.holds Try.pinned (OpenSpec.ofChange piecewiseEndsWrong)

/-- 'coupelaw12.PiecewiseJoins': WHATEVER THE INPUT: true; the input reads as it did. -/
def piecewiseJoinsSpec : ChangeSpec := { name := "piecewiseJoins", fn := fun _ => fun
  | [d1, d2] => { results := [.lit (.bool true)], args := [d1, d2] }
  | _ => none }
def piecewiseJoinsRow : OpenClaim := { program := "ytcbecfimikpljaa", sum := "f72f5e09cb03d8fd9d557df7ad93762333ad271dbb50147aebb9f55948821e0b", func := "coupe/coupelaw12.PiecewiseJoins", spec := "piecewiseJoins", inPlace := ["math/bits.Add64", "math/bits.Sub64"], unfollowed := true, recurses := true, named := ["math/bits.divideError", "math/bits.overflowError"], apart := false }
def PiecewiseJoinsSaid : Prop := piecewiseJoinsRow.holds Try.pinned (OpenSpec.ofChange piecewiseJoinsSpec)

/-- ITS FALSE NEIGHBOUR: 'it returns false'. Refute it at one input. -/
def piecewiseJoinsWrong : ChangeSpec := { name := "piecewiseJoins", fn := fun _ => fun
  | [d1, d2] => { results := [.lit (.bool false)], args := [d1, d2] }
  | _ => none }
def PiecewiseJoinsWrongFalsely : Prop := piecewiseJoinsRow.holds Try.pinned (OpenSpec.ofChange piecewiseJoinsWrong)

/-- 'coupelaw12.PiecewiseConstant': WHATEVER THE INPUT: true; the input reads as it did. -/
def piecewiseConstantSpec : ChangeSpec := { name := "piecewiseConstant", fn := fun _ => fun
  | [d1, d2] => { results := [.lit (.bool true)], args := [d1, d2] }
  | _ => none }
def piecewiseConstantRow : OpenClaim := { program := "ytcbecfimikpljaa", sum := "f72f5e09cb03d8fd9d557df7ad93762333ad271dbb50147aebb9f55948821e0b", func := "coupe/coupelaw12.PiecewiseConstant", spec := "piecewiseConstant", inPlace := ["math/bits.Add64", "math/bits.Sub64"], unfollowed := true, recurses := true, named := ["math/bits.divideError", "math/bits.overflowError"], apart := false }
def PiecewiseConstantSaid : Prop := piecewiseConstantRow.holds Try.pinned (OpenSpec.ofChange piecewiseConstantSpec)

/-- ITS FALSE NEIGHBOUR: 'it returns false'. Refute it at one input. -/
def piecewiseConstantWrong : ChangeSpec := { name := "piecewiseConstant", fn := fun _ => fun
  | [d1, d2] => { results := [.lit (.bool false)], args := [d1, d2] }
  | _ => none }
def PiecewiseConstantWrongFalsely : Prop := piecewiseConstantRow.holds Try.pinned (OpenSpec.ofChange piecewiseConstantWrong)

/-- 'coupelaw12.PiecewiseLines': WHATEVER THE INPUT: true; the input reads as it did. -/
def piecewiseLinesSpec : ChangeSpec := { name := "piecewiseLines", fn := fun _ => fun
  | [d1, d2, d3] => { results := [.lit (.bool true)], args := [d1, d2, d3] }
  | _ => none }
def piecewiseLinesRow : OpenClaim := { program := "ytcbecfimikpljaa", sum := "f72f5e09cb03d8fd9d557df7ad93762333ad271dbb50147aebb9f55948821e0b", func := "coupe/coupelaw12.PiecewiseLines", spec := "piecewiseLines", inPlace := ["math/bits.Add64", "math/bits.Sub64"], unfollowed := true, recurses := true, named := ["math/bits.divideError", "math/bits.overflowError"], apart := false }
def PiecewiseLinesSaid : Prop := piecewiseLinesRow.holds Try.pinned (OpenSpec.ofChange piecewiseLinesSpec)

/-- ITS FALSE NEIGHBOUR: 'it returns false'. Refute it at one input. -/
def piecewiseLinesWrong : ChangeSpec := { name := "piecewiseLines", fn := fun _ => fun
  | [d1, d2, d3] => { results := [.lit (.bool false)], args := [d1, d2, d3] }
  | _ => none }
def PiecewiseLinesWrongFalsely : Prop := piecewiseLinesRow.holds Try.pinned (OpenSpec.ofChange piecewiseLinesWrong)

/- THE SECOND FORM. 'bulk': how many values and letters a reading holds, each counted each time it is reached (what is shared counts as often as it is met; a slice's spare places count too). A statement '..UptoSaid' is the law's where the arguments, and the package variables that the reading takes, are together of bulk at most 1048576: NARROWER than '..Said'. Prove '..Said' where nothing that the law and all that it calls make is longer than what came in: it says more and counts as full. Else prove '..UptoSaid'. A law counts once. -/
mutual
def uptoBulk {H : Type} : DataW H → Nat
  | .lit (.string bytes) => bytes.length + 1
  | .lit _ => 1
  | .nil => 1
  | .ptr d => uptoBulk d + 1
  | .slice elems spare => uptoBulkAll elems + uptoBulkAll spare + 1
  | .agg parts => uptoBulkAll parts + 1
  | .iface _ d => uptoBulk d + 1
  | .map entries => uptoBulkEntries entries + 1
  | .held _ => 1
def uptoBulkAll {H : Type} : List (DataW H) → Nat
  | [] => 0
  | d :: r => uptoBulk d + uptoBulkAll r
def uptoBulkEntries {H : Type} : List (Lit × DataW H) → Nat
  | [] => 0
  | x :: r => uptoBulkEntry x + uptoBulkEntries r
def uptoBulkEntry {H : Type} : Lit × DataW H → Nat
  | (.string bytes, d) => bytes.length + uptoBulk d + 1
  | (_, d) => uptoBulk d + 1
 end
def uptoSmall : (H : Type) → List (DataW H) → Bool := fun _ ds => decide (uptoBulkAll ds ≤ 1048576)
def OpenSpec.upto (s : _root_.Go.ChangeSpec) : _root_.Go.OpenSpec := { _root_.Go.OpenSpec.ofChange s with cond := some uptoSmall }

/-- 'coupelaw12.PiecewiseEvals', WHERE WHAT IT READS IS OF BULK AT MOST 1048576: true; the input reads as it did. -/
def piecewiseEvalsUptoRow : OpenClaim := { program := "ytcbecfimikpljaa", sum := "f72f5e09cb03d8fd9d557df7ad93762333ad271dbb50147aebb9f55948821e0b", func := "coupe/coupelaw12.PiecewiseEvals", spec := "piecewiseEvals", inPlace := ["math/bits.Add64", "math/bits.Sub64"], unfollowed := true, recurses := true, named := ["math/bits.divideError", "math/bits.overflowError"], apart := false, narrowed := true }
def PiecewiseEvalsUptoSaid : Prop := piecewiseEvalsUptoRow.holds Try.pinned (OpenSpec.upto piecewiseEvalsSpec)

/-- 'coupelaw12.PiecewiseShapes', WHERE WHAT IT READS IS OF BULK AT MOST 1048576: true; the input reads as it did. -/
def piecewiseShapesUptoRow : OpenClaim := { program := "ytcbecfimikpljaa", sum := "f72f5e09cb03d8fd9d557df7ad93762333ad271dbb50147aebb9f55948821e0b", func := "coupe/coupelaw12.PiecewiseShapes", spec := "piecewiseShapes", inPlace := ["math/bits.Add64", "math/bits.Sub64"], unfollowed := true, recurses := true, named := ["math/bits.divideError", "math/bits.overflowError"], apart := false, narrowed := true }
def PiecewiseShapesUptoSaid : Prop := piecewiseShapesUptoRow.holds Try.pinned (OpenSpec.upto piecewiseShapesSpec)

/-- 'coupelaw12.PiecewiseRanges', WHERE WHAT IT READS IS OF BULK AT MOST 1048576: true; the input reads as it did. -/
def piecewiseRangesUptoRow : OpenClaim := { program := "ytcbecfimikpljaa", sum := "f72f5e09cb03d8fd9d557df7ad93762333ad271dbb50147aebb9f55948821e0b", func := "coupe/coupelaw12.PiecewiseRanges", spec := "piecewiseRanges", inPlace := ["math/bits.Add64", "math/bits.Sub64"], unfollowed := true, recurses := true, named := ["math/bits.divideError", "math/bits.overflowError"], apart := false, narrowed := true }
def PiecewiseRangesUptoSaid : Prop := piecewiseRangesUptoRow.holds Try.pinned (OpenSpec.upto piecewiseRangesSpec)

/-- 'coupelaw12.PiecewiseEnds', WHERE WHAT IT READS IS OF BULK AT MOST 1048576: true; the input reads as it did. -/
def piecewiseEndsUptoRow : OpenClaim := { program := "ytcbecfimikpljaa", sum := "f72f5e09cb03d8fd9d557df7ad93762333ad271dbb50147aebb9f55948821e0b", func := "coupe/coupelaw12.PiecewiseEnds", spec := "piecewiseEnds", inPlace := ["math/bits.Add64", "math/bits.Sub64"], unfollowed := true, recurses := true, named := ["math/bits.divideError", "math/bits.overflowError"], apart := false, narrowed := true }
def PiecewiseEndsUptoSaid : Prop := piecewiseEndsUptoRow.holds Try.pinned (OpenSpec.upto piecewiseEndsSpec)

/-- 'coupelaw12.PiecewiseJoins', WHERE WHAT IT READS IS OF BULK AT MOST 1048576: true; the input reads as it did. -/
def piecewiseJoinsUptoRow : OpenClaim := { program := "ytcbecfimikpljaa", sum := "f72f5e09cb03d8fd9d557df7ad93762333ad271dbb50147aebb9f55948821e0b", func := "coupe/coupelaw12.PiecewiseJoins", spec := "piecewiseJoins", inPlace := ["math/bits.Add64", "math/bits.Sub64"], unfollowed := true, recurses := true, named := ["math/bits.divideError", "math/bits.overflowError"], apart := false, narrowed := true }
def PiecewiseJoinsUptoSaid : Prop := piecewiseJoinsUptoRow.holds Try.pinned (OpenSpec.upto piecewiseJoinsSpec)

/-- 'coupelaw12.PiecewiseConstant', WHERE WHAT IT READS IS OF BULK AT MOST 1048576: true; the input reads as it did. -/
def piecewiseConstantUptoRow : OpenClaim := { program := "ytcbecfimikpljaa", sum := "f72f5e09cb03d8fd9d557df7ad93762333ad271dbb50147aebb9f55948821e0b", func := "coupe/coupelaw12.PiecewiseConstant", spec := "piecewiseConstant", inPlace := ["math/bits.Add64", "math/bits.Sub64"], unfollowed := true, recurses := true, named := ["math/bits.divideError", "math/bits.overflowError"], apart := false, narrowed := true }
def PiecewiseConstantUptoSaid : Prop := piecewiseConstantUptoRow.holds Try.pinned (OpenSpec.upto piecewiseConstantSpec)

/-- 'coupelaw12.PiecewiseLines', WHERE WHAT IT READS IS OF BULK AT MOST 1048576: true; the input reads as it did. -/
def piecewiseLinesUptoRow : OpenClaim := { program := "ytcbecfimikpljaa", sum := "f72f5e09cb03d8fd9d557df7ad93762333ad271dbb50147aebb9f55948821e0b", func := "coupe/coupelaw12.PiecewiseLines", spec := "piecewiseLines", inPlace := ["math/bits.Add64", "math/bits.Sub64"], unfollowed := true, recurses := true, named := ["math/bits.divideError", "math/bits.overflowError"], apart := false, narrowed := true }
def PiecewiseLinesUptoSaid : Prop := piecewiseLinesUptoRow.holds Try.pinned (OpenSpec.upto piecewiseLinesSpec)

end Rows
end Go.Proofs.Ytcbecfimikpljaa
