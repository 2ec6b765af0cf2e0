/-
  NARROWER THAN 'FOR EVERY INPUT', by the rows' own cells (each row's printed sentence says how): CodecEncodes: loops · CodecRestores: loops.
  DERIVED. THE GIVEN ROWS OF THIS SEAT. 8 by the template 'for every input the law returns true; each argument reads behind the call as it read before'; 0 by the template 'total and deterministic' (their statements: YtcjhgihkofmhgaaTotals.lean).
  GIVEN WITH THE SEED: the statements are not yours to turn. If you find one false, say at which input.
  Laid BY PROGRAM, IN A SANDBOX (cutbox-rows.mjs): the forced cells as the released guide's own fill.sh prints them over the translation 074ce62c04b7c001… (all of the seat's roots in one cut). By AI agents, Wed Nov 11 2026. No macro, syntax, notation, axiom, sorry.
-/
import Derived.Test.YtcjhgihkofmhgaaChecked
import GoSem.Claim
import GoSem.ClaimJoined
import GoSem.ClaimMapViews
import Derived.JoinedTies
import Derived.KernelRfl
namespace Go.Proofs.Ytcjhgihkofmhgaa
/- THE CELL 'sum', in the pinned program and in every row, IS THE sha256 OF THE DUMP (.gsa) THAT YtcjhgihkofmhgaaProg.lean LOADS. Nothing in Lean hashes anything: it is a label: what it is worth is what the hold of that sum in a sandbox is worth. -/
noncomputable def Try.pinned : Pinned := { name := "ytcjhgihkofmhgaa", sum := "074ce62c04b7c001efef24f1e6594ecc3ab1b9e1b2d79e7a6e6f299f589ee3d0", checked := Try.checked }
namespace Rows
def none {H : Type} : Left H := { results := [], args := [] }

/-- 'coupelaw06.CodecInts': WHATEVER THE INPUT: true; the input reads as it did. -/
def codecIntsSpec : ChangeSpec := { name := "codecInts", fn := fun _ => fun
  | [d1, d2, d3] => { results := [.lit (.bool true)], args := [d1, d2, d3] }
  | _ => none }
def codecIntsRow : OpenClaim := { program := "ytcjhgihkofmhgaa", sum := "074ce62c04b7c001efef24f1e6594ecc3ab1b9e1b2d79e7a6e6f299f589ee3d0", func := "coupe/coupelaw06.CodecInts", spec := "codecInts", recurses := true, apart := false }
def CodecIntsSaid : Prop := codecIntsRow.holds Try.pinned (OpenSpec.ofChange codecIntsSpec)

/-- ITS FALSE NEIGHBOUR: 'it returns false'. Refute it at one input. -/
def codecIntsWrong : ChangeSpec := { name := "codecInts", fn := fun _ => fun
  | [d1, d2, d3] => { results := [.lit (.bool false)], args := [d1, d2, d3] }
  | _ => none }
def CodecIntsWrongFalsely : Prop := codecIntsRow.holds Try.pinned (OpenSpec.ofChange codecIntsWrong)

/-- 'coupelaw06.CodecEncodes': WHATEVER THE INPUT: true; the input reads as it did. -/
def codecEncodesSpec : ChangeSpec := { name := "codecEncodes", fn := fun _ => fun
  | [d1, d2] => { results := [.lit (.bool true)], args := [d1, d2] }
  | _ => none }
def codecEncodesRow : OpenClaim := { program := "ytcjhgihkofmhgaa", sum := "074ce62c04b7c001efef24f1e6594ecc3ab1b9e1b2d79e7a6e6f299f589ee3d0", func := "coupe/coupelaw06.CodecEncodes", spec := "codecEncodes", recurses := true, loops := true, apart := false }
def CodecEncodesSaid : Prop := codecEncodesRow.holds Try.pinned (OpenSpec.ofChange codecEncodesSpec)

/-- ITS FALSE NEIGHBOUR: 'it returns false'. Refute it at one input. -/
def codecEncodesWrong : ChangeSpec := { name := "codecEncodes", fn := fun _ => fun
  | [d1, d2] => { results := [.lit (.bool false)], args := [d1, d2] }
  | _ => none }
def CodecEncodesWrongFalsely : Prop := codecEncodesRow.holds Try.pinned (OpenSpec.ofChange codecEncodesWrong)

/-- 'coupelaw06.CodecDecodes': WHATEVER THE INPUT: true; the input reads as it did. -/
def codecDecodesSpec : ChangeSpec := { name := "codecDecodes", fn := fun _ => fun
  | [d] => { results := [.lit (.bool true)], args := [d] }
  | _ => none }
def codecDecodesRow : OpenClaim := { program := "ytcjhgihkofmhgaa", sum := "074ce62c04b7c001efef24f1e6594ecc3ab1b9e1b2d79e7a6e6f299f589ee3d0", func := "coupe/coupelaw06.CodecDecodes", spec := "codecDecodes", recurses := true, apart := false }
def CodecDecodesSaid : Prop := codecDecodesRow.holds Try.pinned (OpenSpec.ofChange codecDecodesSpec)

/-- ITS FALSE NEIGHBOUR: 'it returns false'. Refute it at one input. -/
def codecDecodesWrong : ChangeSpec := { name := "codecDecodes", fn := fun _ => fun
  | [d] => { results := [.lit (.bool false)], args := [d] }
  | _ => none }
def CodecDecodesWrongFalsely : Prop := codecDecodesRow.holds Try.pinned (OpenSpec.ofChange codecDecodesWrong)

/-- 'coupelaw06.CodecSums': WHATEVER THE INPUT: true; the input reads as it did. -/
def codecSumsSpec : ChangeSpec := { name := "codecSums", fn := fun _ => fun
  | [d1, d2, d3] => { results := [.lit (.bool true)], args := [d1, d2, d3] }
  | _ => none }
def codecSumsRow : OpenClaim := { program := "ytcjhgihkofmhgaa", sum := "074ce62c04b7c001efef24f1e6594ecc3ab1b9e1b2d79e7a6e6f299f589ee3d0", func := "coupe/coupelaw06.CodecSums", spec := "codecSums", recurses := true, apart := false }
def CodecSumsSaid : Prop := codecSumsRow.holds Try.pinned (OpenSpec.ofChange codecSumsSpec)

/-- ITS FALSE NEIGHBOUR: 'it returns false'. Refute it at one input. -/
def codecSumsWrong : ChangeSpec := { name := "codecSums", fn := fun _ => fun
  | [d1, d2, d3] => { results := [.lit (.bool false)], args := [d1, d2, d3] }
  | _ => none }
def CodecSumsWrongFalsely : Prop := codecSumsRow.holds Try.pinned (OpenSpec.ofChange codecSumsWrong)

/-- 'coupelaw06.CodecRestores': WHATEVER THE INPUT: true; the input reads as it did. -/
def codecRestoresSpec : ChangeSpec := { name := "codecRestores", fn := fun _ => fun
  | [d1, d2] => { results := [.lit (.bool true)], args := [d1, d2] }
  | _ => none }
def codecRestoresRow : OpenClaim := { program := "ytcjhgihkofmhgaa", sum := "074ce62c04b7c001efef24f1e6594ecc3ab1b9e1b2d79e7a6e6f299f589ee3d0", func := "coupe/coupelaw06.CodecRestores", spec := "codecRestores", recurses := true, loops := true, apart := false }
def CodecRestoresSaid : Prop := codecRestoresRow.holds Try.pinned (OpenSpec.ofChange codecRestoresSpec)

/-- ITS FALSE NEIGHBOUR: 'it returns false'. Refute it at one input. -/
def codecRestoresWrong : ChangeSpec := { name := "codecRestores", fn := fun _ => fun
  | [d1, d2] => { results := [.lit (.bool false)], args := [d1, d2] }
  | _ => none }
def CodecRestoresWrongFalsely : Prop := codecRestoresRow.holds Try.pinned (OpenSpec.ofChange codecRestoresWrong)

/-- 'coupelaw06.CodecCanonical': WHATEVER THE INPUT: true; the input reads as it did. -/
def codecCanonicalSpec : ChangeSpec := { name := "codecCanonical", fn := fun _ => fun
  | [d] => { results := [.lit (.bool true)], args := [d] }
  | _ => none }
def codecCanonicalRow : OpenClaim := { program := "ytcjhgihkofmhgaa", sum := "074ce62c04b7c001efef24f1e6594ecc3ab1b9e1b2d79e7a6e6f299f589ee3d0", func := "coupe/coupelaw06.CodecCanonical", spec := "codecCanonical", recurses := true, apart := false }
def CodecCanonicalSaid : Prop := codecCanonicalRow.holds Try.pinned (OpenSpec.ofChange codecCanonicalSpec)

/-- ITS FALSE NEIGHBOUR: 'it returns false'. Refute it at one input. -/
def codecCanonicalWrong : ChangeSpec := { name := "codecCanonical", fn := fun _ => fun
  | [d] => { results := [.lit (.bool false)], args := [d] }
  | _ => none }
def CodecCanonicalWrongFalsely : Prop := codecCanonicalRow.holds Try.pinned (OpenSpec.ofChange codecCanonicalWrong)

/-- 'coupelaw06.CodecBursts': WHATEVER THE INPUT: true; the input reads as it did. -/
def codecBurstsSpec : ChangeSpec := { name := "codecBursts", fn := fun _ => fun
  | [d1, d2, d3] => { results := [.lit (.bool true)], args := [d1, d2, d3] }
  | _ => none }
def codecBurstsRow : OpenClaim := { program := "ytcjhgihkofmhgaa", sum := "074ce62c04b7c001efef24f1e6594ecc3ab1b9e1b2d79e7a6e6f299f589ee3d0", func := "coupe/coupelaw06.CodecBursts", spec := "codecBursts", recurses := true, apart := false }
def CodecBurstsSaid : Prop := codecBurstsRow.holds Try.pinned (OpenSpec.ofChange codecBurstsSpec)

/-- ITS FALSE NEIGHBOUR: 'it returns false'. Refute it at one input. -/
def codecBurstsWrong : ChangeSpec := { name := "codecBursts", fn := fun _ => fun
  | [d1, d2, d3] => { results := [.lit (.bool false)], args := [d1, d2, d3] }
  | _ => none }
def CodecBurstsWrongFalsely : Prop := codecBurstsRow.holds Try.pinned (OpenSpec.ofChange codecBurstsWrong)

/-- 'coupelaw06.CodecLinear': WHATEVER THE INPUT: true; the input reads as it did. -/
def codecLinearSpec : ChangeSpec := { name := "codecLinear", fn := fun _ => fun
  | [d1, d2, d3] => { results := [.lit (.bool true)], args := [d1, d2, d3] }
  | _ => none }
def codecLinearRow : OpenClaim := { program := "ytcjhgihkofmhgaa", sum := "074ce62c04b7c001efef24f1e6594ecc3ab1b9e1b2d79e7a6e6f299f589ee3d0", func := "coupe/coupelaw06.CodecLinear", spec := "codecLinear", recurses := true, apart := false }
def CodecLinearSaid : Prop := codecLinearRow.holds Try.pinned (OpenSpec.ofChange codecLinearSpec)

/-- ITS FALSE NEIGHBOUR: 'it returns false'. Refute it at one input. -/
def codecLinearWrong : ChangeSpec := { name := "codecLinear", fn := fun _ => fun
  | [d1, d2, d3] => { results := [.lit (.bool false)], args := [d1, d2, d3] }
  | _ => none }
def CodecLinearWrongFalsely : Prop := codecLinearRow.holds Try.pinned (OpenSpec.ofChange codecLinearWrong)

/- THE SECOND FORM. 'bulk': how many values and letters a reading holds, each counted each time it is reached (what is shared counts as often as it is met; a slice's spare places count too). A statement '..UptoSaid' is the law's where the arguments, and the package variables that the reading takes, are together of bulk at most 1048576: NARROWER than '..Said'. Prove '..Said' where nothing that the law and all that it calls make is longer than what came in: it says more and counts as full. Else prove '..UptoSaid'. A law counts once. -/
mutual
def uptoBulk {H : Type} : DataW H → Nat
  | .lit (.string bytes) => bytes.length + 1
  | .lit _ => 1
  | .nil => 1
  | .ptr d => uptoBulk d + 1
  | .slice elems spare => uptoBulkAll elems + uptoBulkAll spare + 1
  | .agg parts => uptoBulkAll parts + 1
  | .iface _ d => uptoBulk d + 1
  | .map entries => uptoBulkEntries entries + 1
  | .held _ => 1
def uptoBulkAll {H : Type} : List (DataW H) → Nat
  | [] => 0
  | d :: r => uptoBulk d + uptoBulkAll r
def uptoBulkEntries {H : Type} : List (Lit × DataW H) → Nat
  | [] => 0
  | x :: r => uptoBulkEntry x + uptoBulkEntries r
def uptoBulkEntry {H : Type} : Lit × DataW H → Nat
  | (.string bytes, d) => bytes.length + uptoBulk d + 1
  | (_, d) => uptoBulk d + 1
 end
def uptoSmall : (H : Type) → List (DataW H) → Bool := fun _ ds => decide (uptoBulkAll ds ≤ 1048576)
def OpenSpec.upto (s : _root_.Go.ChangeSpec) : _root_.Go.OpenSpec := { _root_.Go.OpenSpec.ofChange s with cond := some uptoSmall }

/-- 'coupelaw06.CodecInts', WHERE WHAT IT READS IS OF BULK AT MOST 1048576: true; the input reads as it did. -/
def codecIntsUptoRow : OpenClaim := { program := "ytcjhgihkofmhgaa", sum := "074ce62c04b7c001efef24f1e6594ecc3ab1b9e1b2d79e7a6e6f299f589ee3d0", func := "coupe/coupelaw06.CodecInts", spec := "codecInts", recurses := true, apart := false, narrowed := true }
def CodecIntsUptoSaid : Prop := codecIntsUptoRow.holds Try.pinned (OpenSpec.upto codecIntsSpec)

/-- 'coupelaw06.CodecEncodes', WHERE WHAT IT READS IS OF BULK AT MOST 1048576: true; the input reads as it did. -/
def codecEncodesUptoRow : OpenClaim := { program := "ytcjhgihkofmhgaa", sum := "074ce62c04b7c001efef24f1e6594ecc3ab1b9e1b2d79e7a6e6f299f589ee3d0", func := "coupe/coupelaw06.CodecEncodes", spec := "codecEncodes", recurses := true, loops := true, apart := false, narrowed := true }
def CodecEncodesUptoSaid : Prop := codecEncodesUptoRow.holds Try.pinned (OpenSpec.upto codecEncodesSpec)

/-- 'coupelaw06.CodecDecodes', WHERE WHAT IT READS IS OF BULK AT MOST 1048576: true; the input reads as it did. -/
def codecDecodesUptoRow : OpenClaim := { program := "ytcjhgihkofmhgaa", sum := "074ce62c04b7c001efef24f1e6594ecc3ab1b9e1b2d79e7a6e6f299f589ee3d0", func := "coupe/coupelaw06.CodecDecodes", spec := "codecDecodes", recurses := true, apart := false, narrowed := true }
def CodecDecodesUptoSaid : Prop := codecDecodesUptoRow.holds Try.pinned (OpenSpec.upto codecDecodesSpec)

/-- 'coupelaw06.CodecSums', WHERE WHAT IT READS IS OF BULK AT MOST 1048576: true; the input reads as it did. -/
def codecSumsUptoRow : OpenClaim := { program := "ytcjhgihkofmhgaa", sum := "074ce62c04b7c001efef24f1e6594ecc3ab1b9e1b2d79e7a6e6f299f589ee3d0", func := "coupe/coupelaw06.CodecSums", spec := "codecSums", recurses := true, apart := false, narrowed := true }
def CodecSumsUptoSaid : Prop := codecSumsUptoRow.holds Try.pinned (OpenSpec.upto codecSumsSpec)

/-- 'coupelaw06.CodecRestores', WHERE WHAT IT READS IS OF BULK AT MOST 1048576: true; the input reads as it did. -/
def codecRestoresUptoRow : OpenClaim := { program := "ytcjhgihkofmhgaa", sum := "074ce62c04b7c001efef24f1e6594ecc3ab1b9e1b2d79e7a6e6f299f589ee3d0", func := "coupe/coupelaw06.CodecRestores", spec := "codecRestores", recurses := true, loops := true, apart := false, narrowed := true }
def CodecRestoresUptoSaid : Prop := codecRestoresUptoRow.holds Try.pinned (OpenSpec.upto codecRestoresSpec)

/-- 'coupelaw06.CodecCanonical', WHERE WHAT IT READS IS OF BULK AT MOST 1048576: true; the input reads as it did. -/
def codecCanonicalUptoRow : OpenClaim := { program := "ytcjhgihkofmhgaa", sum := "074ce62c04b7c001efef24f1e6594ecc3ab1b9e1b2d79e7a6e6f299f589ee3d0", func := "coupe/coupelaw06.CodecCanonical", spec := "codecCanonical", recurses := true, apart := false, narrowed := true }
def CodecCanonicalUptoSaid : Prop := codecCanonicalUptoRow.holds Try.pinned (OpenSpec.upto codecCanonicalSpec)

/-- 'coupelaw06.CodecBursts', WHERE WHAT IT READS IS OF BULK AT MOST 1048576: true; the input reads as it did. -/
def codecBurstsUptoRow : OpenClaim := { program := "ytcjhgihkofmhgaa", sum := "074ce62c04b7c001efef24f1e6594ecc3ab1b9e1b2d79e7a6e6f299f589ee3d0", func := "coupe/coupelaw06.CodecBursts", spec := "codecBursts", recurses := true, apart := false, narrowed := true }
def CodecBurstsUptoSaid : Prop := codecBurstsUptoRow.holds Try.pinned (OpenSpec.upto codecBurstsSpec)

/-- 'coupelaw06.CodecLinear', WHERE WHAT IT READS IS OF BULK AT MOST 1048576: true; the input reads as it did. -/
def codecLinearUptoRow : OpenClaim := { program := "ytcjhgihkofmhgaa", sum := "074ce62c04b7c001efef24f1e6594ecc3ab1b9e1b2d79e7a6e6f299f589ee3d0", func := "coupe/coupelaw06.CodecLinear", spec := "codecLinear", recurses := true, apart := false, narrowed := true }
def CodecLinearUptoSaid : Prop := codecLinearUptoRow.holds Try.pinned (OpenSpec.upto codecLinearSpec)

end Rows
end Go.Proofs.Ytcjhgihkofmhgaa
