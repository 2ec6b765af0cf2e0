/-
  No cell of these rows narrows 'for every input' (looked for: loops, veiled, ifaces, maps, wideKeys, modest, calm, conditions, laid).
  DERIVED. THE GIVEN ROWS OF THIS SEAT. 9 by the template 'for every input the law returns true; each argument reads behind the call as it read before'; 0 by the template 'total and deterministic' (their statements: YtfdnmlggemonhaaTotals.lean).
  GIVEN WITH THE SEED: the statements are not yours to turn. If you find one false, say at which input.
  Laid BY PROGRAM, IN A SANDBOX (cutbox-rows.mjs): the forced cells as the released guide's own fill.sh prints them over the translation ff253e7142d2d438… (all of the seat's roots in one cut). By AI agents, Wed Nov 11 2026. No macro, syntax, notation, axiom, sorry.
-/
import Derived.Test.YtfdnmlggemonhaaChecked
import GoSem.Claim
import GoSem.ClaimJoined
import GoSem.ClaimMapViews
import Derived.JoinedTies
import Derived.KernelRfl
namespace Go.Proofs.Ytfdnmlggemonhaa
/- THE CELL 'sum', in the pinned program and in every row, IS THE sha256 OF THE DUMP (.gsa) THAT YtfdnmlggemonhaaProg.lean LOADS. Nothing in Lean hashes anything: it is a label: what it is worth is what the hold of that sum in a sandbox is worth. -/
noncomputable def Try.pinned : Pinned := { name := "ytfdnmlggemonhaa", sum := "ff253e7142d2d438121f94334af06e6a27091288e88ba73408365d8f1bc80c71", checked := Try.checked }
namespace Rows
def none {H : Type} : Left H := { results := [], args := [] }

/-- 'coupelaw07.GeometryTurns': WHATEVER THE INPUT: true; the input reads as it did. -/
def geometryTurnsSpec : ChangeSpec := { name := "geometryTurns", fn := fun _ => fun
  | [d] => { results := [.lit (.bool true)], args := [d] }
  | _ => none }
def geometryTurnsRow : OpenClaim := { program := "ytfdnmlggemonhaa", sum := "ff253e7142d2d438121f94334af06e6a27091288e88ba73408365d8f1bc80c71", func := "coupe/coupelaw07.GeometryTurns", spec := "geometryTurns", unfollowed := true, recurses := true, plainKeys := false, apart := false }
def GeometryTurnsSaid : Prop := geometryTurnsRow.holds Try.pinned (OpenSpec.ofChange geometryTurnsSpec)

/-- ITS FALSE NEIGHBOUR: 'it returns false'. Refute it at one input. -/
def geometryTurnsWrong : ChangeSpec := { name := "geometryTurns", fn := fun _ => fun
  | [d] => { results := [.lit (.bool false)], args := [d] }
  | _ => none }
def GeometryTurnsWrongFalsely : Prop := geometryTurnsRow.holds Try.pinned (OpenSpec.ofChange geometryTurnsWrong)

/-- 'coupelaw07.GeometrySegments': WHATEVER THE INPUT: true; the input reads as it did. -/
def geometrySegmentsSpec : ChangeSpec := { name := "geometrySegments", fn := fun _ => fun
  | [d] => { results := [.lit (.bool true)], args := [d] }
  | _ => none }
def geometrySegmentsRow : OpenClaim := { program := "ytfdnmlggemonhaa", sum := "ff253e7142d2d438121f94334af06e6a27091288e88ba73408365d8f1bc80c71", func := "coupe/coupelaw07.GeometrySegments", spec := "geometrySegments", unfollowed := true, recurses := true, plainKeys := false, apart := false }
def GeometrySegmentsSaid : Prop := geometrySegmentsRow.holds Try.pinned (OpenSpec.ofChange geometrySegmentsSpec)

/-- ITS FALSE NEIGHBOUR: 'it returns false'. Refute it at one input. -/
def geometrySegmentsWrong : ChangeSpec := { name := "geometrySegments", fn := fun _ => fun
  | [d] => { results := [.lit (.bool false)], args := [d] }
  | _ => none }
def GeometrySegmentsWrongFalsely : Prop := geometrySegmentsRow.holds Try.pinned (OpenSpec.ofChange geometrySegmentsWrong)

/-- 'coupelaw07.GeometryNears': WHATEVER THE INPUT: true; the input reads as it did. -/
def geometryNearsSpec : ChangeSpec := { name := "geometryNears", fn := fun _ => fun
  | [d1, d2] => { results := [.lit (.bool true)], args := [d1, d2] }
  | _ => none }
def geometryNearsRow : OpenClaim := { program := "ytfdnmlggemonhaa", sum := "ff253e7142d2d438121f94334af06e6a27091288e88ba73408365d8f1bc80c71", func := "coupe/coupelaw07.GeometryNears", spec := "geometryNears", unfollowed := true, recurses := true, plainKeys := false, apart := false }
def GeometryNearsSaid : Prop := geometryNearsRow.holds Try.pinned (OpenSpec.ofChange geometryNearsSpec)

/-- ITS FALSE NEIGHBOUR: 'it returns false'. Refute it at one input. -/
def geometryNearsWrong : ChangeSpec := { name := "geometryNears", fn := fun _ => fun
  | [d1, d2] => { results := [.lit (.bool false)], args := [d1, d2] }
  | _ => none }
def GeometryNearsWrongFalsely : Prop := geometryNearsRow.holds Try.pinned (OpenSpec.ofChange geometryNearsWrong)

/-- 'coupelaw07.GeometryOrders': WHATEVER THE INPUT: true; the input reads as it did. -/
def geometryOrdersSpec : ChangeSpec := { name := "geometryOrders", fn := fun _ => fun
  | [d1, d2] => { results := [.lit (.bool true)], args := [d1, d2] }
  | _ => none }
def geometryOrdersRow : OpenClaim := { program := "ytfdnmlggemonhaa", sum := "ff253e7142d2d438121f94334af06e6a27091288e88ba73408365d8f1bc80c71", func := "coupe/coupelaw07.GeometryOrders", spec := "geometryOrders", unfollowed := true, recurses := true, plainKeys := false, apart := false }
def GeometryOrdersSaid : Prop := geometryOrdersRow.holds Try.pinned (OpenSpec.ofChange geometryOrdersSpec)

/-- ITS FALSE NEIGHBOUR: 'it returns false'. Refute it at one input. -/
def geometryOrdersWrong : ChangeSpec := { name := "geometryOrders", fn := fun _ => fun
  | [d1, d2] => { results := [.lit (.bool false)], args := [d1, d2] }
  | _ => none }
def GeometryOrdersWrongFalsely : Prop := geometryOrdersRow.holds Try.pinned (OpenSpec.ofChange geometryOrdersWrong)

/-- 'coupelaw07.GeometryAreas': WHATEVER THE INPUT: true; the input reads as it did. -/
def geometryAreasSpec : ChangeSpec := { name := "geometryAreas", fn := fun _ => fun
  | [d] => { results := [.lit (.bool true)], args := [d] }
  | _ => none }
def geometryAreasRow : OpenClaim := { program := "ytfdnmlggemonhaa", sum := "ff253e7142d2d438121f94334af06e6a27091288e88ba73408365d8f1bc80c71", func := "coupe/coupelaw07.GeometryAreas", spec := "geometryAreas", unfollowed := true, recurses := true, plainKeys := false, apart := false }
def GeometryAreasSaid : Prop := geometryAreasRow.holds Try.pinned (OpenSpec.ofChange geometryAreasSpec)

/-- ITS FALSE NEIGHBOUR: 'it returns false'. Refute it at one input. -/
def geometryAreasWrong : ChangeSpec := { name := "geometryAreas", fn := fun _ => fun
  | [d] => { results := [.lit (.bool false)], args := [d] }
  | _ => none }
def GeometryAreasWrongFalsely : Prop := geometryAreasRow.holds Try.pinned (OpenSpec.ofChange geometryAreasWrong)

/-- 'coupelaw07.GeometryTouches': WHATEVER THE INPUT: true; the input reads as it did. -/
def geometryTouchesSpec : ChangeSpec := { name := "geometryTouches", fn := fun _ => fun
  | [d] => { results := [.lit (.bool true)], args := [d] }
  | _ => none }
def geometryTouchesRow : OpenClaim := { program := "ytfdnmlggemonhaa", sum := "ff253e7142d2d438121f94334af06e6a27091288e88ba73408365d8f1bc80c71", func := "coupe/coupelaw07.GeometryTouches", spec := "geometryTouches", unfollowed := true, recurses := true, plainKeys := false, apart := false }
def GeometryTouchesSaid : Prop := geometryTouchesRow.holds Try.pinned (OpenSpec.ofChange geometryTouchesSpec)

/-- ITS FALSE NEIGHBOUR: 'it returns false'. Refute it at one input. -/
def geometryTouchesWrong : ChangeSpec := { name := "geometryTouches", fn := fun _ => fun
  | [d] => { results := [.lit (.bool false)], args := [d] }
  | _ => none }
def GeometryTouchesWrongFalsely : Prop := geometryTouchesRow.holds Try.pinned (OpenSpec.ofChange geometryTouchesWrong)

/-- 'coupelaw07.GeometryNearer': WHATEVER THE INPUT: true; the input reads as it did. -/
def geometryNearerSpec : ChangeSpec := { name := "geometryNearer", fn := fun _ => fun
  | [d1, d2, d3] => { results := [.lit (.bool true)], args := [d1, d2, d3] }
  | _ => none }
def geometryNearerRow : OpenClaim := { program := "ytfdnmlggemonhaa", sum := "ff253e7142d2d438121f94334af06e6a27091288e88ba73408365d8f1bc80c71", func := "coupe/coupelaw07.GeometryNearer", spec := "geometryNearer", unfollowed := true, recurses := true, plainKeys := false, apart := false }
def GeometryNearerSaid : Prop := geometryNearerRow.holds Try.pinned (OpenSpec.ofChange geometryNearerSpec)

/-- ITS FALSE NEIGHBOUR: 'it returns false'. Refute it at one input. -/
def geometryNearerWrong : ChangeSpec := { name := "geometryNearer", fn := fun _ => fun
  | [d1, d2, d3] => { results := [.lit (.bool false)], args := [d1, d2, d3] }
  | _ => none }
def GeometryNearerWrongFalsely : Prop := geometryNearerRow.holds Try.pinned (OpenSpec.ofChange geometryNearerWrong)

/-- 'coupelaw07.GeometryAround': WHATEVER THE INPUT: true; the input reads as it did. -/
def geometryAroundSpec : ChangeSpec := { name := "geometryAround", fn := fun _ => fun
  | [d1, d2] => { results := [.lit (.bool true)], args := [d1, d2] }
  | _ => none }
def geometryAroundRow : OpenClaim := { program := "ytfdnmlggemonhaa", sum := "ff253e7142d2d438121f94334af06e6a27091288e88ba73408365d8f1bc80c71", func := "coupe/coupelaw07.GeometryAround", spec := "geometryAround", unfollowed := true, recurses := true, plainKeys := false, apart := false }
def GeometryAroundSaid : Prop := geometryAroundRow.holds Try.pinned (OpenSpec.ofChange geometryAroundSpec)

/-- ITS FALSE NEIGHBOUR: 'it returns false'. Refute it at one input. -/
def geometryAroundWrong : ChangeSpec := { name := "geometryAround", fn := fun _ => fun
  | [d1, d2] => { results := [.lit (.bool false)], args := [d1, d2] }
  | _ => none }
def GeometryAroundWrongFalsely : Prop := geometryAroundRow.holds Try.pinned (OpenSpec.ofChange geometryAroundWrong)

/-- 'coupelaw07.GeometryLengths': WHATEVER THE INPUT: true; the input reads as it did. -/
def geometryLengthsSpec : ChangeSpec := { name := "geometryLengths", fn := fun _ => fun
  | [d] => { results := [.lit (.bool true)], args := [d] }
  | _ => none }
def geometryLengthsRow : OpenClaim := { program := "ytfdnmlggemonhaa", sum := "ff253e7142d2d438121f94334af06e6a27091288e88ba73408365d8f1bc80c71", func := "coupe/coupelaw07.GeometryLengths", spec := "geometryLengths", unfollowed := true, recurses := true, plainKeys := false, apart := false }
def GeometryLengthsSaid : Prop := geometryLengthsRow.holds Try.pinned (OpenSpec.ofChange geometryLengthsSpec)

/-- ITS FALSE NEIGHBOUR: 'it returns false'. Refute it at one input. -/
def geometryLengthsWrong : ChangeSpec := { name := "geometryLengths", fn := fun _ => fun
  | [d] => { results := [.lit (.bool false)], args := [d] }
  | _ => none }
def GeometryLengthsWrongFalsely : Prop := geometryLengthsRow.holds Try.pinned (OpenSpec.ofChange geometryLengthsWrong)

/- THE SECOND FORM. 'bulk': how many values and letters a reading holds, each counted each time it is reached (what is shared counts as often as it is met; a slice's spare places count too). A statement '..UptoSaid' is the law's where the arguments, and the package variables that the reading takes, are together of bulk at most 1048576: NARROWER than '..Said'. Prove '..Said' where nothing that the law and all that it calls make is longer than what came in: it says more and counts as full. Else prove '..UptoSaid'. A law counts once. -/
mutual
def uptoBulk {H : Type} : DataW H → Nat
  | .lit (.string bytes) => bytes.length + 1
  | .lit _ => 1
  | .nil => 1
  | .ptr d => uptoBulk d + 1
  | .slice elems spare => uptoBulkAll elems + uptoBulkAll spare + 1
  | .agg parts => uptoBulkAll parts + 1
  | .iface _ d => uptoBulk d + 1
  | .map entries => uptoBulkEntries entries + 1
  | .held _ => 1
def uptoBulkAll {H : Type} : List (DataW H) → Nat
  | [] => 0
  | d :: r => uptoBulk d + uptoBulkAll r
def uptoBulkEntries {H : Type} : List (Lit × DataW H) → Nat
  | [] => 0
  | x :: r => uptoBulkEntry x + uptoBulkEntries r
def uptoBulkEntry {H : Type} : Lit × DataW H → Nat
  | (.string bytes, d) => bytes.length + uptoBulk d + 1
  | (_, d) => uptoBulk d + 1
 end
def uptoSmall : (H : Type) → List (DataW H) → Bool := fun _ ds => decide (uptoBulkAll ds ≤ 1048576)
def OpenSpec.upto (s : _root_.Go.ChangeSpec) : _root_.Go.OpenSpec := { _root_.Go.OpenSpec.ofChange s with cond := some uptoSmall }

/-- 'coupelaw07.GeometryTurns', WHERE WHAT IT READS IS OF BULK AT MOST 1048576: true; the input reads as it did. -/
def geometryTurnsUptoRow : OpenClaim := { program := "ytfdnmlggemonhaa", sum := "ff253e7142d2d438121f94334af06e6a27091288e88ba73408365d8f1bc80c71", func := "coupe/coupelaw07.GeometryTurns", spec := "geometryTurns", unfollowed := true, recurses := true, plainKeys := false, apart := false, narrowed := true }
def GeometryTurnsUptoSaid : Prop := geometryTurnsUptoRow.holds Try.pinned (OpenSpec.upto geometryTurnsSpec)

/-- 'coupelaw07.GeometrySegments', WHERE WHAT IT READS IS OF BULK AT MOST 1048576: true; the input reads as it did. -/
def geometrySegmentsUptoRow : OpenClaim := { program := "ytfdnmlggemonhaa", sum := "ff253e7142d2d438121f94334af06e6a27091288e88ba73408365d8f1bc80c71", func := "coupe/coupelaw07.GeometrySegments", spec := "geometrySegments", unfollowed := true, recurses := true, plainKeys := false, apart := false, narrowed := true }
def GeometrySegmentsUptoSaid : Prop := geometrySegmentsUptoRow.holds Try.pinned (OpenSpec.upto geometrySegmentsSpec)

/-- 'coupelaw07.GeometryNears', WHERE WHAT IT READS IS OF BULK AT MOST 1048576: true; the input reads as it did. -/
def geometryNearsUptoRow : OpenClaim := { program := "ytfdnmlggemonhaa", sum := "ff253e7142d2d438121f94334af06e6a27091288e88ba73408365d8f1bc80c71", func := "coupe/coupelaw07.GeometryNears", spec := "geometryNears", unfollowed := true, recurses := true, plainKeys := false, apart := false, narrowed := true }
def GeometryNearsUptoSaid : Prop := geometryNearsUptoRow.holds Try.pinned (OpenSpec.upto geometryNearsSpec)

/-- 'coupelaw07.GeometryOrders', WHERE WHAT IT READS IS OF BULK AT MOST 1048576: true; the input reads as it did. -/
def geometryOrdersUptoRow : OpenClaim := { program := "ytfdnmlggemonhaa", sum := "ff253e7142d2d438121f94334af06e6a27091288e88ba73408365d8f1bc80c71", func := "coupe/coupelaw07.GeometryOrders", spec := "geometryOrders", unfollowed := true, recurses := true, plainKeys := false, apart := false, narrowed := true }
def GeometryOrdersUptoSaid : Prop := geometryOrdersUptoRow.holds Try.pinned (OpenSpec.upto geometryOrdersSpec)

/-- 'coupelaw07.GeometryAreas', WHERE WHAT IT READS IS OF BULK AT MOST 1048576: true; the input reads as it did. -/
def geometryAreasUptoRow : OpenClaim := { program := "ytfdnmlggemonhaa", sum := "ff253e7142d2d438121f94334af06e6a27091288e88ba73408365d8f1bc80c71", func := "coupe/coupelaw07.GeometryAreas", spec := "geometryAreas", unfollowed := true, recurses := true, plainKeys := false, apart := false, narrowed := true }
def GeometryAreasUptoSaid : Prop := geometryAreasUptoRow.holds Try.pinned (OpenSpec.upto geometryAreasSpec)

/-- 'coupelaw07.GeometryTouches', WHERE WHAT IT READS IS OF BULK AT MOST 1048576: true; the input reads as it did. -/
def geometryTouchesUptoRow : OpenClaim := { program := "ytfdnmlggemonhaa", sum := "ff253e7142d2d438121f94334af06e6a27091288e88ba73408365d8f1bc80c71", func := "coupe/coupelaw07.GeometryTouches", spec := "geometryTouches", unfollowed := true, recurses := true, plainKeys := false, apart := false, narrowed := true }
def GeometryTouchesUptoSaid : Prop := geometryTouchesUptoRow.holds Try.pinned (OpenSpec.upto geometryTouchesSpec)

/-- 'coupelaw07.GeometryNearer', WHERE WHAT IT READS IS OF BULK AT MOST 1048576: true; the input reads as it did. -/
def geometryNearerUptoRow : OpenClaim := { program := "ytfdnmlggemonhaa", sum := "ff253e7142d2d438121f94334af06e6a27091288e88ba73408365d8f1bc80c71", func := "coupe/coupelaw07.GeometryNearer", spec := "geometryNearer", unfollowed := true, recurses := true, plainKeys := false, apart := false, narrowed := true }
def GeometryNearerUptoSaid : Prop := geometryNearerUptoRow.holds Try.pinned (OpenSpec.upto geometryNearerSpec)

/-- 'coupelaw07.GeometryAround', WHERE WHAT IT READS IS OF BULK AT MOST 1048576: true; the input reads as it did. -/
def geometryAroundUptoRow : OpenClaim := { program := "ytfdnmlggemonhaa", sum := "ff253e7142d2d438121f94334af06e6a27091288e88ba73408365d8f1bc80c71", func := "coupe/coupelaw07.GeometryAround", spec := "geometryAround", unfollowed := true, recurses := true, plainKeys := false, apart := false, narrowed := true }
def GeometryAroundUptoSaid : Prop := geometryAroundUptoRow.holds Try.pinned (OpenSpec.upto geometryAroundSpec)

/-- 'coupelaw07.GeometryLengths', WHERE WHAT IT READS IS OF BULK AT MOST 1048576: true; the input reads as it did. -/
def geometryLengthsUptoRow : OpenClaim := { program := "ytfdnmlggemonhaa", sum := "ff253e7142d2d438121f94334af06e6a27091288e88ba73408365d8f1bc80c71", func := "coupe/coupelaw07.GeometryLengths", spec := "geometryLengths", unfollowed := true, recurses := true, plainKeys := false, apart := false, narrowed := true }
def GeometryLengthsUptoSaid : Prop := geometryLengthsUptoRow.holds Try.pinned (OpenSpec.upto geometryLengthsSpec)

end Rows
end Go.Proofs.Ytfdnmlggemonhaa
