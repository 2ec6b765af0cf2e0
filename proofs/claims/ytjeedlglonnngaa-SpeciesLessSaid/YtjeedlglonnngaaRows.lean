/-
  No cell of these rows narrows 'for every input' (looked for: loops, veiled, ifaces, maps, wideKeys, modest, calm, conditions, laid).
  DERIVED. THE GIVEN ROWS OF THIS SEAT. 7 by the template 'for every input the law returns true; each argument reads behind the call as it read before'; 0 by the template 'total and deterministic' (their statements: YtjeedlglonnngaaTotals.lean).
  GIVEN WITH THE SEED: the statements are not yours to turn. If you find one false, say at which input.
  Laid BY PROGRAM, IN A SANDBOX (cutbox-rows.mjs): the forced cells as the released guide's own fill.sh prints them over the translation 58bea9e2c4df31a4… (all of the seat's roots in one cut). By AI agents, Wed Nov 11 2026. No macro, syntax, notation, axiom, sorry.
-/
import Derived.Test.YtjeedlglonnngaaChecked
import GoSem.Claim
import GoSem.ClaimJoined
import GoSem.ClaimMapViews
import Derived.JoinedTies
import Derived.KernelRfl
namespace Go.Proofs.Ytjeedlglonnngaa
/- THE CELL 'sum', in the pinned program and in every row, IS THE sha256 OF THE DUMP (.gsa) THAT YtjeedlglonnngaaProg.lean LOADS. Nothing in Lean hashes anything: it is a label: what it is worth is what the hold of that sum in a sandbox is worth. -/
noncomputable def Try.pinned : Pinned := { name := "ytjeedlglonnngaa", sum := "58bea9e2c4df31a4eab816c65371adc05add8bcf47535d5857ecdd55ebf1ae66", checked := Try.checked }
namespace Rows
def none {H : Type} : Left H := { results := [], args := [] }

/-- 'coupelaw10.SpeciesChecks': WHATEVER THE INPUT: true; the input reads as it did. -/
def speciesChecksSpec : ChangeSpec := { name := "speciesChecks", fn := fun _ => fun
  | [d1, d2] => { results := [.lit (.bool true)], args := [d1, d2] }
  | _ => none }
def speciesChecksRow : OpenClaim := { program := "ytjeedlglonnngaa", sum := "58bea9e2c4df31a4eab816c65371adc05add8bcf47535d5857ecdd55ebf1ae66", func := "coupe/coupelaw10.SpeciesChecks", spec := "speciesChecks", inPlace := ["math/bits.Add64"], unfollowed := true, recurses := true, named := ["math/bits.divideError", "math/bits.overflowError"], apart := false }
def SpeciesChecksSaid : Prop := speciesChecksRow.holds Try.pinned (OpenSpec.ofChange speciesChecksSpec)

/-- ITS FALSE NEIGHBOUR: 'it returns false'. Refute it at one input. -/
def speciesChecksWrong : ChangeSpec := { name := "speciesChecks", fn := fun _ => fun
  | [d1, d2] => { results := [.lit (.bool false)], args := [d1, d2] }
  | _ => none }
def SpeciesChecksWrongFalsely : Prop := speciesChecksRow.holds Try.pinned (OpenSpec.ofChange speciesChecksWrong)

/-- 'coupelaw10.SpeciesMasses': WHATEVER THE INPUT: true; the input reads as it did. -/
def speciesMassesSpec : ChangeSpec := { name := "speciesMasses", fn := fun _ => fun
  | [d1, d2, d3] => { results := [.lit (.bool true)], args := [d1, d2, d3] }
  | _ => none }
def speciesMassesRow : OpenClaim := { program := "ytjeedlglonnngaa", sum := "58bea9e2c4df31a4eab816c65371adc05add8bcf47535d5857ecdd55ebf1ae66", func := "coupe/coupelaw10.SpeciesMasses", spec := "speciesMasses", inPlace := ["math/bits.Add64"], unfollowed := true, recurses := true, named := ["math/bits.divideError", "math/bits.overflowError"], apart := false }
def SpeciesMassesSaid : Prop := speciesMassesRow.holds Try.pinned (OpenSpec.ofChange speciesMassesSpec)

/-- ITS FALSE NEIGHBOUR: 'it returns false'. Refute it at one input. -/
def speciesMassesWrong : ChangeSpec := { name := "speciesMasses", fn := fun _ => fun
  | [d1, d2, d3] => { results := [.lit (.bool false)], args := [d1, d2, d3] }
  | _ => none }
def SpeciesMassesWrongFalsely : Prop := speciesMassesRow.holds Try.pinned (OpenSpec.ofChange speciesMassesWrong)

/-- 'coupelaw10.SpeciesAllows': WHATEVER THE INPUT: true; the input reads as it did. -/
def speciesAllowsSpec : ChangeSpec := { name := "speciesAllows", fn := fun _ => fun
  | [d1, d2, d3] => { results := [.lit (.bool true)], args := [d1, d2, d3] }
  | _ => none }
def speciesAllowsRow : OpenClaim := { program := "ytjeedlglonnngaa", sum := "58bea9e2c4df31a4eab816c65371adc05add8bcf47535d5857ecdd55ebf1ae66", func := "coupe/coupelaw10.SpeciesAllows", spec := "speciesAllows", inPlace := ["math/bits.Add64"], unfollowed := true, recurses := true, named := ["math/bits.divideError", "math/bits.overflowError"], apart := false }
def SpeciesAllowsSaid : Prop := speciesAllowsRow.holds Try.pinned (OpenSpec.ofChange speciesAllowsSpec)

/-- ITS FALSE NEIGHBOUR: 'it returns false'. Refute it at one input. -/
def speciesAllowsWrong : ChangeSpec := { name := "speciesAllows", fn := fun _ => fun
  | [d1, d2, d3] => { results := [.lit (.bool false)], args := [d1, d2, d3] }
  | _ => none }
def SpeciesAllowsWrongFalsely : Prop := speciesAllowsRow.holds Try.pinned (OpenSpec.ofChange speciesAllowsWrong)

/-- 'coupelaw10.SpeciesFound': WHATEVER THE INPUT: true; the input reads as it did. -/
def speciesFoundSpec : ChangeSpec := { name := "speciesFound", fn := fun _ => fun
  | [d] => { results := [.lit (.bool true)], args := [d] }
  | _ => none }
def speciesFoundRow : OpenClaim := { program := "ytjeedlglonnngaa", sum := "58bea9e2c4df31a4eab816c65371adc05add8bcf47535d5857ecdd55ebf1ae66", func := "coupe/coupelaw10.SpeciesFound", spec := "speciesFound", inPlace := ["math/bits.Add64"], unfollowed := true, recurses := true, named := ["math/bits.divideError", "math/bits.overflowError"], apart := false }
def SpeciesFoundSaid : Prop := speciesFoundRow.holds Try.pinned (OpenSpec.ofChange speciesFoundSpec)

/-- ITS FALSE NEIGHBOUR: 'it returns false'. Refute it at one input. -/
def speciesFoundWrong : ChangeSpec := { name := "speciesFound", fn := fun _ => fun
  | [d] => { results := [.lit (.bool false)], args := [d] }
  | _ => none }
def SpeciesFoundWrongFalsely : Prop := speciesFoundRow.holds Try.pinned (OpenSpec.ofChange speciesFoundWrong)

/-- 'coupelaw10.SpeciesLess': WHATEVER THE INPUT: true; the input reads as it did. -/
def speciesLessSpec : ChangeSpec := { name := "speciesLess", fn := fun _ => fun
  | [d1, d2, d3] => { results := [.lit (.bool true)], args := [d1, d2, d3] }
  | _ => none }
def speciesLessRow : OpenClaim := { program := "ytjeedlglonnngaa", sum := "58bea9e2c4df31a4eab816c65371adc05add8bcf47535d5857ecdd55ebf1ae66", func := "coupe/coupelaw10.SpeciesLess", spec := "speciesLess", inPlace := ["math/bits.Add64"], unfollowed := true, recurses := true, named := ["math/bits.divideError", "math/bits.overflowError"], apart := false }
def SpeciesLessSaid : Prop := speciesLessRow.holds Try.pinned (OpenSpec.ofChange speciesLessSpec)

/-- ITS FALSE NEIGHBOUR: 'it returns false'. Refute it at one input. -/
def speciesLessWrong : ChangeSpec := { name := "speciesLess", fn := fun _ => fun
  | [d1, d2, d3] => { results := [.lit (.bool false)], args := [d1, d2, d3] }
  | _ => none }
def SpeciesLessWrongFalsely : Prop := speciesLessRow.holds Try.pinned (OpenSpec.ofChange speciesLessWrong)

/-- 'coupelaw10.SpeciesAdds': WHATEVER THE INPUT: true; the input reads as it did. -/
def speciesAddsSpec : ChangeSpec := { name := "speciesAdds", fn := fun _ => fun
  | [d1, d2, d3] => { results := [.lit (.bool true)], args := [d1, d2, d3] }
  | _ => none }
def speciesAddsRow : OpenClaim := { program := "ytjeedlglonnngaa", sum := "58bea9e2c4df31a4eab816c65371adc05add8bcf47535d5857ecdd55ebf1ae66", func := "coupe/coupelaw10.SpeciesAdds", spec := "speciesAdds", inPlace := ["math/bits.Add64"], unfollowed := true, recurses := true, named := ["math/bits.divideError", "math/bits.overflowError"], apart := false }
def SpeciesAddsSaid : Prop := speciesAddsRow.holds Try.pinned (OpenSpec.ofChange speciesAddsSpec)

/-- ITS FALSE NEIGHBOUR: 'it returns false'. Refute it at one input. -/
def speciesAddsWrong : ChangeSpec := { name := "speciesAdds", fn := fun _ => fun
  | [d1, d2, d3] => { results := [.lit (.bool false)], args := [d1, d2, d3] }
  | _ => none }
def SpeciesAddsWrongFalsely : Prop := speciesAddsRow.holds Try.pinned (OpenSpec.ofChange speciesAddsWrong)

/-- 'coupelaw10.SpeciesGrows': WHATEVER THE INPUT: true; the input reads as it did. -/
def speciesGrowsSpec : ChangeSpec := { name := "speciesGrows", fn := fun _ => fun
  | [d1, d2, d3] => { results := [.lit (.bool true)], args := [d1, d2, d3] }
  | _ => none }
def speciesGrowsRow : OpenClaim := { program := "ytjeedlglonnngaa", sum := "58bea9e2c4df31a4eab816c65371adc05add8bcf47535d5857ecdd55ebf1ae66", func := "coupe/coupelaw10.SpeciesGrows", spec := "speciesGrows", inPlace := ["math/bits.Add64"], unfollowed := true, recurses := true, named := ["math/bits.divideError", "math/bits.overflowError"], apart := false }
def SpeciesGrowsSaid : Prop := speciesGrowsRow.holds Try.pinned (OpenSpec.ofChange speciesGrowsSpec)

/-- ITS FALSE NEIGHBOUR: 'it returns false'. Refute it at one input. -/
def speciesGrowsWrong : ChangeSpec := { name := "speciesGrows", fn := fun _ => fun
  | [d1, d2, d3] => { results := [.lit (.bool false)], args := [d1, d2, d3] }
  | _ => none }
def SpeciesGrowsWrongFalsely : Prop := speciesGrowsRow.holds Try.pinned (OpenSpec.ofChange speciesGrowsWrong)

/- THE SECOND FORM. 'bulk': how many values and letters a reading holds, each counted each time it is reached (what is shared counts as often as it is met; a slice's spare places count too). A statement '..UptoSaid' is the law's where the arguments, and the package variables that the reading takes, are together of bulk at most 1048576: NARROWER than '..Said'. Prove '..Said' where nothing that the law and all that it calls make is longer than what came in: it says more and counts as full. Else prove '..UptoSaid'. A law counts once. -/
mutual
def uptoBulk {H : Type} : DataW H → Nat
  | .lit (.string bytes) => bytes.length + 1
  | .lit _ => 1
  | .nil => 1
  | .ptr d => uptoBulk d + 1
  | .slice elems spare => uptoBulkAll elems + uptoBulkAll spare + 1
  | .agg parts => uptoBulkAll parts + 1
  | .iface _ d => uptoBulk d + 1
  | .map entries => uptoBulkEntries entries + 1
  | .held _ => 1
def uptoBulkAll {H : Type} : List (DataW H) → Nat
  | [] => 0
  | d :: r => uptoBulk d + uptoBulkAll r
def uptoBulkEntries {H : Type} : List (Lit × DataW H) → Nat
  | [] => 0
  | x :: r => uptoBulkEntry x + uptoBulkEntries r
def uptoBulkEntry {H : Type} : Lit × DataW H → Nat
  | (.string bytes, d) => bytes.length + uptoBulk d + 1
  | (_, d) => uptoBulk d + 1
 end
def uptoSmall : (H : Type) → List (DataW H) → Bool := fun _ ds => decide (uptoBulkAll ds ≤ 1048576)
def OpenSpec.upto (s : _root_.Go.ChangeSpec) : _root_.Go.OpenSpec := { _root_.Go.OpenSpec.ofChange s with cond := some uptoSmall }

/-- 'coupelaw10.SpeciesChecks', WHERE WHAT IT READS IS OF BULK AT MOST 1048576: true; the input reads as it did. -/
def speciesChecksUptoRow : OpenClaim := { program := "ytjeedlglonnngaa", sum := "58bea9e2c4df31a4eab816c65371adc05add8bcf47535d5857ecdd55ebf1ae66", func := "coupe/coupelaw10.SpeciesChecks", spec := "speciesChecks", inPlace := ["math/bits.Add64"], unfollowed := true, recurses := true, named := ["math/bits.divideError", "math/bits.overflowError"], apart := false, narrowed := true }
def SpeciesChecksUptoSaid : Prop := speciesChecksUptoRow.holds Try.pinned (OpenSpec.upto speciesChecksSpec)

/-- 'coupelaw10.SpeciesMasses', WHERE WHAT IT READS IS OF BULK AT MOST 1048576: true; the input reads as it did. -/
def speciesMassesUptoRow : OpenClaim := { program := "ytjeedlglonnngaa", sum := "58bea9e2c4df31a4eab816c65371adc05add8bcf47535d5857ecdd55ebf1ae66", func := "coupe/coupelaw10.SpeciesMasses", spec := "speciesMasses", inPlace := ["math/bits.Add64"], unfollowed := true, recurses := true, named := ["math/bits.divideError", "math/bits.overflowError"], apart := false, narrowed := true }
def SpeciesMassesUptoSaid : Prop := speciesMassesUptoRow.holds Try.pinned (OpenSpec.upto speciesMassesSpec)

/-- 'coupelaw10.SpeciesAllows', WHERE WHAT IT READS IS OF BULK AT MOST 1048576: true; the input reads as it did. -/
def speciesAllowsUptoRow : OpenClaim := { program := "ytjeedlglonnngaa", sum := "58bea9e2c4df31a4eab816c65371adc05add8bcf47535d5857ecdd55ebf1ae66", func := "coupe/coupelaw10.SpeciesAllows", spec := "speciesAllows", inPlace := ["math/bits.Add64"], unfollowed := true, recurses := true, named := ["math/bits.divideError", "math/bits.overflowError"], apart := false, narrowed := true }
def SpeciesAllowsUptoSaid : Prop := speciesAllowsUptoRow.holds Try.pinned (OpenSpec.upto speciesAllowsSpec)

/-- 'coupelaw10.SpeciesFound', WHERE WHAT IT READS IS OF BULK AT MOST 1048576: true; the input reads as it did. -/
def speciesFoundUptoRow : OpenClaim := { program := "ytjeedlglonnngaa", sum := "58bea9e2c4df31a4eab816c65371adc05add8bcf47535d5857ecdd55ebf1ae66", func := "coupe/coupelaw10.SpeciesFound", spec := "speciesFound", inPlace := ["math/bits.Add64"], unfollowed := true, recurses := true, named := ["math/bits.divideError", "math/bits.overflowError"], apart := false, narrowed := true }
def SpeciesFoundUptoSaid : Prop := speciesFoundUptoRow.holds Try.pinned (OpenSpec.upto speciesFoundSpec)

/-- 'coupelaw10.SpeciesLess', WHERE WHAT IT READS IS OF BULK AT MOST 1048576: true; the input reads as it did. -/
def speciesLessUptoRow : OpenClaim := { program := "ytjeedlglonnngaa", sum := "58bea9e2c4df31a4eab816c65371adc05add8bcf47535d5857ecdd55ebf1ae66", func := "coupe/coupelaw10.SpeciesLess", spec := "speciesLess", inPlace := ["math/bits.Add64"], unfollowed := true, recurses := true, named := ["math/bits.divideError", "math/bits.overflowError"], apart := false, narrowed := true }
def SpeciesLessUptoSaid : Prop := speciesLessUptoRow.holds Try.pinned (OpenSpec.upto speciesLessSpec)

/-- 'coupelaw10.SpeciesAdds', WHERE WHAT IT READS IS OF BULK AT MOST 1048576: true; the input reads as it did. -/
def speciesAddsUptoRow : OpenClaim := { program := "ytjeedlglonnngaa", sum := "58bea9e2c4df31a4eab816c65371adc05add8bcf47535d5857ecdd55ebf1ae66", func := "coupe/coupelaw10.SpeciesAdds", spec := "speciesAdds", inPlace := ["math/bits.Add64"], unfollowed := true, recurses := true, named := ["math/bits.divideError", "math/bits.overflowError"], apart := false, narrowed := true }
def SpeciesAddsUptoSaid : Prop := speciesAddsUptoRow.holds Try.pinned (OpenSpec.upto speciesAddsSpec)

/-- 'coupelaw10.SpeciesGrows', WHERE WHAT IT READS IS OF BULK AT MOST 1048576: true; the input reads as it did. -/
def speciesGrowsUptoRow : OpenClaim := { program := "ytjeedlglonnngaa", sum := "58bea9e2c4df31a4eab816c65371adc05add8bcf47535d5857ecdd55ebf1ae66", func := "coupe/coupelaw10.SpeciesGrows", spec := "speciesGrows", inPlace := ["math/bits.Add64"], unfollowed := true, recurses := true, named := ["math/bits.divideError", "math/bits.overflowError"], apart := false, narrowed := true }
def SpeciesGrowsUptoSaid : Prop := speciesGrowsUptoRow.holds Try.pinned (OpenSpec.upto speciesGrowsSpec)

end Rows
end Go.Proofs.Ytjeedlglonnngaa
