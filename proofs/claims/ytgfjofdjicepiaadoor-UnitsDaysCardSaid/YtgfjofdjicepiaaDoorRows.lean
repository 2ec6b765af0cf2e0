/-
  NARROWER THAN 'FOR EVERY INPUT', by the rows' own cells (each row's printed sentence says how): UnitsTexts: laid · UnitsReads: laid · UnitsRounds: laid · UnitsAreas: laid · UnitsDays: laid · UnitsBack: laid · UnitsBetween: laid · UnitsCalendar: laid.
  DERIVED. THE GIVEN ROWS OF THIS SEAT. 8 by the template 'for every input the law returns true; each argument reads behind the call as it read before'; 0 by the template 'total and deterministic' (their statements: YtgfjofdjicepiaaDoorTotals.lean).
  GIVEN WITH THE SEED: the statements are not yours to turn. If you find one false, say at which input.
  Laid BY PROGRAM, IN A SANDBOX (cutbox-rows.mjs): the forced cells as the released guide's own fill.sh prints them over the translation 96d41a31a611c7ad… (all of the seat's roots in one cut). By AI agents, Wed Nov 11 2026. No macro, syntax, notation, axiom, sorry.
-/
import Derived.Test.YtgfjofdjicepiaaDoorChecked
import GoSem.Claim
import GoSem.ClaimJoined
import GoSem.ClaimMapViews
import Derived.JoinedTies
import Derived.KernelRfl
namespace Go.Proofs.YtgfjofdjicepiaaDoor
/- THE CELL 'sum', in the pinned program and in every row, IS THE sha256 OF THE DUMP (.gsa) THAT YtgfjofdjicepiaaDoorProg.lean LOADS. Nothing in Lean hashes anything: it is a label: what it is worth is what the hold of that sum in a sandbox is worth. -/
noncomputable def Tryd.pinned : Pinned := { name := "ytgfjofdjicepiaadoor", sum := "96d41a31a611c7ad1257a67c06a09b2ec8f820fd64c30ab834c60a5aa28d063d", checked := Tryd.checked }
namespace Rows
def none {H : Type} : Left H := { results := [], args := [] }

/- WHAT THE LISTED PACKAGE-LEVEL VARIABLES READ AS WHEN THE CALL BEGINS. Each datum BY PROGRAM (the guide's laid-datum.mjs) off the statement by which the dump's own 'gosem.cut.vars' lays the variable. In a bare row this is a premise. The card (YtgfjofdjicepiaaDoorCards.lean) ties it to the program's text. -/
def laid_math_bits_deBruijn32tab {H : Type} : DataW H := .agg [.lit (.int .u8 0), .lit (.int .u8 1), .lit (.int .u8 28), .lit (.int .u8 2), .lit (.int .u8 29), .lit (.int .u8 14), .lit (.int .u8 24), .lit (.int .u8 3), .lit (.int .u8 30), .lit (.int .u8 22), .lit (.int .u8 20), .lit (.int .u8 15), .lit (.int .u8 25), .lit (.int .u8 17), .lit (.int .u8 4), .lit (.int .u8 8), .lit (.int .u8 31), .lit (.int .u8 27), .lit (.int .u8 13), .lit (.int .u8 23), .lit (.int .u8 21), .lit (.int .u8 19), .lit (.int .u8 16), .lit (.int .u8 7), .lit (.int .u8 26), .lit (.int .u8 12), .lit (.int .u8 18), .lit (.int .u8 6), .lit (.int .u8 11), .lit (.int .u8 5), .lit (.int .u8 10), .lit (.int .u8 9)]
def laid_math_bits_deBruijn64tab {H : Type} : DataW H := .agg [.lit (.int .u8 0), .lit (.int .u8 1), .lit (.int .u8 56), .lit (.int .u8 2), .lit (.int .u8 57), .lit (.int .u8 49), .lit (.int .u8 28), .lit (.int .u8 3), .lit (.int .u8 61), .lit (.int .u8 58), .lit (.int .u8 42), .lit (.int .u8 50), .lit (.int .u8 38), .lit (.int .u8 29), .lit (.int .u8 17), .lit (.int .u8 4), .lit (.int .u8 62), .lit (.int .u8 47), .lit (.int .u8 59), .lit (.int .u8 36), .lit (.int .u8 45), .lit (.int .u8 43), .lit (.int .u8 51), .lit (.int .u8 22), .lit (.int .u8 53), .lit (.int .u8 39), .lit (.int .u8 33), .lit (.int .u8 30), .lit (.int .u8 24), .lit (.int .u8 18), .lit (.int .u8 12), .lit (.int .u8 5), .lit (.int .u8 63), .lit (.int .u8 55), .lit (.int .u8 48), .lit (.int .u8 27), .lit (.int .u8 60), .lit (.int .u8 41), .lit (.int .u8 37), .lit (.int .u8 16), .lit (.int .u8 46), .lit (.int .u8 35), .lit (.int .u8 44), .lit (.int .u8 21), .lit (.int .u8 52), .lit (.int .u8 32), .lit (.int .u8 23), .lit (.int .u8 11), .lit (.int .u8 54), .lit (.int .u8 26), .lit (.int .u8 40), .lit (.int .u8 15), .lit (.int .u8 34), .lit (.int .u8 20), .lit (.int .u8 31), .lit (.int .u8 10), .lit (.int .u8 25), .lit (.int .u8 14), .lit (.int .u8 19), .lit (.int .u8 9), .lit (.int .u8 13), .lit (.int .u8 8), .lit (.int .u8 7), .lit (.int .u8 6)]
def laid_internal_strconv_uint64pow10 {H : Type} : DataW H := .agg [.lit (.int .u64 1), .lit (.int .u64 10), .lit (.int .u64 100), .lit (.int .u64 1000), .lit (.int .u64 10000), .lit (.int .u64 100000), .lit (.int .u64 1000000), .lit (.int .u64 10000000), .lit (.int .u64 100000000), .lit (.int .u64 1000000000), .lit (.int .u64 10000000000), .lit (.int .u64 100000000000), .lit (.int .u64 1000000000000), .lit (.int .u64 10000000000000), .lit (.int .u64 100000000000000), .lit (.int .u64 1000000000000000), .lit (.int .u64 10000000000000000), .lit (.int .u64 100000000000000000), .lit (.int .u64 1000000000000000000), .lit (.int .u64 10000000000000000000)]
def laid_coupe_units_kinds {H : Type} : DataW H := .agg [.agg [.lit (.string []), .lit (.int .i64 0)], .agg [.lit (.string [109]), .lit (.int .i64 1)], .agg [.lit (.string [99, 109]), .lit (.int .i64 1)], .agg [.lit (.string [109, 51]), .lit (.int .i64 3)], .agg [.lit (.string [116]), .lit (.int .i64 3)], .agg [.lit (.string [107, 114]), .lit (.int .i64 2)]]

/-- 'coupelaw04.UnitsTexts': WHATEVER THE INPUT: true; the input reads as it did. -/
def unitsTextsSpec : ChangeSpec := { name := "unitsTexts", fn := fun _ => fun
  | [d1, d2] => { results := [.lit (.bool true)], args := [d1, d2] }
  | _ => none }
def unitsTextsRow : OpenClaim := { program := "ytgfjofdjicepiaadoor", sum := "96d41a31a611c7ad1257a67c06a09b2ec8f820fd64c30ab834c60a5aa28d063d", func := "coupe/coupelaw04.UnitsTexts", spec := "unitsTexts", inPlace := ["internal/abi.NoEscape", "internal/bytealg.MakeNoZero", "internal/bytealg.IndexByteString", "internal/bytealg.IndexString"], named := ["coupe/units.kinds", "internal/strconv.uint64pow10", "math/bits.deBruijn32tab", "math/bits.deBruijn64tab", "internal/bytealg.MaxLen"], apart := false, laid := [("math/bits.deBruijn32tab", laid_math_bits_deBruijn32tab), ("math/bits.deBruijn64tab", laid_math_bits_deBruijn64tab), ("internal/strconv.uint64pow10", laid_internal_strconv_uint64pow10), ("coupe/units.kinds", laid_coupe_units_kinds)] }
def UnitsTextsSaid : Prop := unitsTextsRow.holds Tryd.pinned (OpenSpec.ofChange unitsTextsSpec)

/-- ITS FALSE NEIGHBOUR: 'it returns false'. Refute it at one input. -/
def unitsTextsWrong : ChangeSpec := { name := "unitsTexts", fn := fun _ => fun
  | [d1, d2] => { results := [.lit (.bool false)], args := [d1, d2] }
  | _ => none }
def UnitsTextsWrongFalsely : Prop := unitsTextsRow.holds Tryd.pinned (OpenSpec.ofChange unitsTextsWrong)

/-- 'coupelaw04.UnitsReads': WHATEVER THE INPUT: true; the input reads as it did. -/
def unitsReadsSpec : ChangeSpec := { name := "unitsReads", fn := fun _ => fun
  | [d1, d2] => { results := [.lit (.bool true)], args := [d1, d2] }
  | _ => none }
def unitsReadsRow : OpenClaim := { program := "ytgfjofdjicepiaadoor", sum := "96d41a31a611c7ad1257a67c06a09b2ec8f820fd64c30ab834c60a5aa28d063d", func := "coupe/coupelaw04.UnitsReads", spec := "unitsReads", inPlace := ["internal/abi.NoEscape", "internal/bytealg.MakeNoZero", "internal/bytealg.IndexByteString", "internal/bytealg.IndexString"], named := ["coupe/units.kinds", "internal/strconv.uint64pow10", "math/bits.deBruijn32tab", "math/bits.deBruijn64tab", "internal/bytealg.MaxLen"], apart := false, laid := [("math/bits.deBruijn32tab", laid_math_bits_deBruijn32tab), ("math/bits.deBruijn64tab", laid_math_bits_deBruijn64tab), ("internal/strconv.uint64pow10", laid_internal_strconv_uint64pow10), ("coupe/units.kinds", laid_coupe_units_kinds)] }
def UnitsReadsSaid : Prop := unitsReadsRow.holds Tryd.pinned (OpenSpec.ofChange unitsReadsSpec)

/-- ITS FALSE NEIGHBOUR: 'it returns false'. Refute it at one input. -/
def unitsReadsWrong : ChangeSpec := { name := "unitsReads", fn := fun _ => fun
  | [d1, d2] => { results := [.lit (.bool false)], args := [d1, d2] }
  | _ => none }
def UnitsReadsWrongFalsely : Prop := unitsReadsRow.holds Tryd.pinned (OpenSpec.ofChange unitsReadsWrong)

/-- 'coupelaw04.UnitsRounds': WHATEVER THE INPUT: true; the input reads as it did. -/
def unitsRoundsSpec : ChangeSpec := { name := "unitsRounds", fn := fun _ => fun
  | [d1, d2] => { results := [.lit (.bool true)], args := [d1, d2] }
  | _ => none }
def unitsRoundsRow : OpenClaim := { program := "ytgfjofdjicepiaadoor", sum := "96d41a31a611c7ad1257a67c06a09b2ec8f820fd64c30ab834c60a5aa28d063d", func := "coupe/coupelaw04.UnitsRounds", spec := "unitsRounds", inPlace := ["internal/abi.NoEscape", "internal/bytealg.MakeNoZero", "internal/bytealg.IndexByteString", "internal/bytealg.IndexString"], named := ["coupe/units.kinds", "internal/strconv.uint64pow10", "math/bits.deBruijn32tab", "math/bits.deBruijn64tab", "internal/bytealg.MaxLen"], apart := false, laid := [("math/bits.deBruijn32tab", laid_math_bits_deBruijn32tab), ("math/bits.deBruijn64tab", laid_math_bits_deBruijn64tab), ("internal/strconv.uint64pow10", laid_internal_strconv_uint64pow10), ("coupe/units.kinds", laid_coupe_units_kinds)] }
def UnitsRoundsSaid : Prop := unitsRoundsRow.holds Tryd.pinned (OpenSpec.ofChange unitsRoundsSpec)

/-- ITS FALSE NEIGHBOUR: 'it returns false'. Refute it at one input. -/
def unitsRoundsWrong : ChangeSpec := { name := "unitsRounds", fn := fun _ => fun
  | [d1, d2] => { results := [.lit (.bool false)], args := [d1, d2] }
  | _ => none }
def UnitsRoundsWrongFalsely : Prop := unitsRoundsRow.holds Tryd.pinned (OpenSpec.ofChange unitsRoundsWrong)

/-- 'coupelaw04.UnitsAreas': WHATEVER THE INPUT: true; the input reads as it did. -/
def unitsAreasSpec : ChangeSpec := { name := "unitsAreas", fn := fun _ => fun
  | [d1, d2] => { results := [.lit (.bool true)], args := [d1, d2] }
  | _ => none }
def unitsAreasRow : OpenClaim := { program := "ytgfjofdjicepiaadoor", sum := "96d41a31a611c7ad1257a67c06a09b2ec8f820fd64c30ab834c60a5aa28d063d", func := "coupe/coupelaw04.UnitsAreas", spec := "unitsAreas", inPlace := ["internal/abi.NoEscape", "internal/bytealg.MakeNoZero", "internal/bytealg.IndexByteString", "internal/bytealg.IndexString"], named := ["coupe/units.kinds", "internal/strconv.uint64pow10", "math/bits.deBruijn32tab", "math/bits.deBruijn64tab", "internal/bytealg.MaxLen"], apart := false, laid := [("math/bits.deBruijn32tab", laid_math_bits_deBruijn32tab), ("math/bits.deBruijn64tab", laid_math_bits_deBruijn64tab), ("internal/strconv.uint64pow10", laid_internal_strconv_uint64pow10), ("coupe/units.kinds", laid_coupe_units_kinds)] }
def UnitsAreasSaid : Prop := unitsAreasRow.holds Tryd.pinned (OpenSpec.ofChange unitsAreasSpec)

/-- ITS FALSE NEIGHBOUR: 'it returns false'. Refute it at one input. -/
def unitsAreasWrong : ChangeSpec := { name := "unitsAreas", fn := fun _ => fun
  | [d1, d2] => { results := [.lit (.bool false)], args := [d1, d2] }
  | _ => none }
def UnitsAreasWrongFalsely : Prop := unitsAreasRow.holds Tryd.pinned (OpenSpec.ofChange unitsAreasWrong)

/-- 'coupelaw04.UnitsDays': WHATEVER THE INPUT: true; the input reads as it did. -/
def unitsDaysSpec : ChangeSpec := { name := "unitsDays", fn := fun _ => fun
  | [d1, d2] => { results := [.lit (.bool true)], args := [d1, d2] }
  | _ => none }
def unitsDaysRow : OpenClaim := { program := "ytgfjofdjicepiaadoor", sum := "96d41a31a611c7ad1257a67c06a09b2ec8f820fd64c30ab834c60a5aa28d063d", func := "coupe/coupelaw04.UnitsDays", spec := "unitsDays", inPlace := ["internal/abi.NoEscape", "internal/bytealg.MakeNoZero", "internal/bytealg.IndexByteString", "internal/bytealg.IndexString"], named := ["coupe/units.kinds", "internal/strconv.uint64pow10", "math/bits.deBruijn32tab", "math/bits.deBruijn64tab", "internal/bytealg.MaxLen"], apart := false, laid := [("math/bits.deBruijn32tab", laid_math_bits_deBruijn32tab), ("math/bits.deBruijn64tab", laid_math_bits_deBruijn64tab), ("internal/strconv.uint64pow10", laid_internal_strconv_uint64pow10), ("coupe/units.kinds", laid_coupe_units_kinds)] }
def UnitsDaysSaid : Prop := unitsDaysRow.holds Tryd.pinned (OpenSpec.ofChange unitsDaysSpec)

/-- ITS FALSE NEIGHBOUR: 'it returns false'. Refute it at one input. -/
def unitsDaysWrong : ChangeSpec := { name := "unitsDays", fn := fun _ => fun
  | [d1, d2] => { results := [.lit (.bool false)], args := [d1, d2] }
  | _ => none }
def UnitsDaysWrongFalsely : Prop := unitsDaysRow.holds Tryd.pinned (OpenSpec.ofChange unitsDaysWrong)

/-- 'coupelaw04.UnitsBack': WHATEVER THE INPUT: true; the input reads as it did. -/
def unitsBackSpec : ChangeSpec := { name := "unitsBack", fn := fun _ => fun
  | [d1, d2] => { results := [.lit (.bool true)], args := [d1, d2] }
  | _ => none }
def unitsBackRow : OpenClaim := { program := "ytgfjofdjicepiaadoor", sum := "96d41a31a611c7ad1257a67c06a09b2ec8f820fd64c30ab834c60a5aa28d063d", func := "coupe/coupelaw04.UnitsBack", spec := "unitsBack", inPlace := ["internal/abi.NoEscape", "internal/bytealg.MakeNoZero", "internal/bytealg.IndexByteString", "internal/bytealg.IndexString"], named := ["coupe/units.kinds", "internal/strconv.uint64pow10", "math/bits.deBruijn32tab", "math/bits.deBruijn64tab", "internal/bytealg.MaxLen"], apart := false, laid := [("math/bits.deBruijn32tab", laid_math_bits_deBruijn32tab), ("math/bits.deBruijn64tab", laid_math_bits_deBruijn64tab), ("internal/strconv.uint64pow10", laid_internal_strconv_uint64pow10), ("coupe/units.kinds", laid_coupe_units_kinds)] }
def UnitsBackSaid : Prop := unitsBackRow.holds Tryd.pinned (OpenSpec.ofChange unitsBackSpec)

/-- ITS FALSE NEIGHBOUR: 'it returns false'. Refute it at one input. -/
def unitsBackWrong : ChangeSpec := { name := "unitsBack", fn := fun _ => fun
  | [d1, d2] => { results := [.lit (.bool false)], args := [d1, d2] }
  | _ => none }
def UnitsBackWrongFalsely : Prop := unitsBackRow.holds Tryd.pinned (OpenSpec.ofChange unitsBackWrong)

/-- 'coupelaw04.UnitsBetween': WHATEVER THE INPUT: true; the input reads as it did. -/
def unitsBetweenSpec : ChangeSpec := { name := "unitsBetween", fn := fun _ => fun
  | [d] => { results := [.lit (.bool true)], args := [d] }
  | _ => none }
def unitsBetweenRow : OpenClaim := { program := "ytgfjofdjicepiaadoor", sum := "96d41a31a611c7ad1257a67c06a09b2ec8f820fd64c30ab834c60a5aa28d063d", func := "coupe/coupelaw04.UnitsBetween", spec := "unitsBetween", inPlace := ["internal/abi.NoEscape", "internal/bytealg.MakeNoZero", "internal/bytealg.IndexByteString", "internal/bytealg.IndexString"], named := ["coupe/units.kinds", "internal/strconv.uint64pow10", "math/bits.deBruijn32tab", "math/bits.deBruijn64tab", "internal/bytealg.MaxLen"], apart := false, laid := [("math/bits.deBruijn32tab", laid_math_bits_deBruijn32tab), ("math/bits.deBruijn64tab", laid_math_bits_deBruijn64tab), ("internal/strconv.uint64pow10", laid_internal_strconv_uint64pow10), ("coupe/units.kinds", laid_coupe_units_kinds)] }
def UnitsBetweenSaid : Prop := unitsBetweenRow.holds Tryd.pinned (OpenSpec.ofChange unitsBetweenSpec)

/-- ITS FALSE NEIGHBOUR: 'it returns false'. Refute it at one input. -/
def unitsBetweenWrong : ChangeSpec := { name := "unitsBetween", fn := fun _ => fun
  | [d] => { results := [.lit (.bool false)], args := [d] }
  | _ => none }
def UnitsBetweenWrongFalsely : Prop := unitsBetweenRow.holds Tryd.pinned (OpenSpec.ofChange unitsBetweenWrong)

/-- 'coupelaw04.UnitsCalendar': WHATEVER THE INPUT: true; the input reads as it did. -/
def unitsCalendarSpec : ChangeSpec := { name := "unitsCalendar", fn := fun _ => fun
  | [d] => { results := [.lit (.bool true)], args := [d] }
  | _ => none }
def unitsCalendarRow : OpenClaim := { program := "ytgfjofdjicepiaadoor", sum := "96d41a31a611c7ad1257a67c06a09b2ec8f820fd64c30ab834c60a5aa28d063d", func := "coupe/coupelaw04.UnitsCalendar", spec := "unitsCalendar", inPlace := ["internal/abi.NoEscape", "internal/bytealg.MakeNoZero", "internal/bytealg.IndexByteString", "internal/bytealg.IndexString"], named := ["internal/strconv.uint64pow10", "math/bits.deBruijn32tab", "math/bits.deBruijn64tab", "coupe/units.kinds", "internal/bytealg.MaxLen"], apart := false, laid := [("math/bits.deBruijn32tab", laid_math_bits_deBruijn32tab), ("math/bits.deBruijn64tab", laid_math_bits_deBruijn64tab), ("internal/strconv.uint64pow10", laid_internal_strconv_uint64pow10), ("coupe/units.kinds", laid_coupe_units_kinds)] }
def UnitsCalendarSaid : Prop := unitsCalendarRow.holds Tryd.pinned (OpenSpec.ofChange unitsCalendarSpec)

/-- ITS FALSE NEIGHBOUR: 'it returns false'. Refute it at one input. -/
def unitsCalendarWrong : ChangeSpec := { name := "unitsCalendar", fn := fun _ => fun
  | [d] => { results := [.lit (.bool false)], args := [d] }
  | _ => none }
def UnitsCalendarWrongFalsely : Prop := unitsCalendarRow.holds Tryd.pinned (OpenSpec.ofChange unitsCalendarWrong)

/- THE SECOND FORM. 'bulk': how many values and letters a reading holds, each counted each time it is reached (what is shared counts as often as it is met; a slice's spare places count too). A statement '..UptoSaid' is the law's where the arguments, and the package variables that the reading takes, are together of bulk at most 1048576: NARROWER than '..Said'. Prove '..Said' where nothing that the law and all that it calls make is longer than what came in: it says more and counts as full. Else prove '..UptoSaid'. A law counts once. -/
mutual
def uptoBulk {H : Type} : DataW H → Nat
  | .lit (.string bytes) => bytes.length + 1
  | .lit _ => 1
  | .nil => 1
  | .ptr d => uptoBulk d + 1
  | .slice elems spare => uptoBulkAll elems + uptoBulkAll spare + 1
  | .agg parts => uptoBulkAll parts + 1
  | .iface _ d => uptoBulk d + 1
  | .map entries => uptoBulkEntries entries + 1
  | .held _ => 1
def uptoBulkAll {H : Type} : List (DataW H) → Nat
  | [] => 0
  | d :: r => uptoBulk d + uptoBulkAll r
def uptoBulkEntries {H : Type} : List (Lit × DataW H) → Nat
  | [] => 0
  | x :: r => uptoBulkEntry x + uptoBulkEntries r
def uptoBulkEntry {H : Type} : Lit × DataW H → Nat
  | (.string bytes, d) => bytes.length + uptoBulk d + 1
  | (_, d) => uptoBulk d + 1
 end
def uptoSmall : (H : Type) → List (DataW H) → Bool := fun _ ds => decide (uptoBulkAll ds ≤ 1048576)
def OpenSpec.upto (s : _root_.Go.ChangeSpec) : _root_.Go.OpenSpec := { _root_.Go.OpenSpec.ofChange s with cond := some uptoSmall }

/-- 'coupelaw04.UnitsTexts', WHERE WHAT IT READS IS OF BULK AT MOST 1048576: true; the input reads as it did. -/
def unitsTextsUptoRow : OpenClaim := { program := "ytgfjofdjicepiaadoor", sum := "96d41a31a611c7ad1257a67c06a09b2ec8f820fd64c30ab834c60a5aa28d063d", func := "coupe/coupelaw04.UnitsTexts", spec := "unitsTexts", inPlace := ["internal/abi.NoEscape", "internal/bytealg.MakeNoZero", "internal/bytealg.IndexByteString", "internal/bytealg.IndexString"], named := ["coupe/units.kinds", "internal/strconv.uint64pow10", "math/bits.deBruijn32tab", "math/bits.deBruijn64tab", "internal/bytealg.MaxLen"], apart := false, laid := [("math/bits.deBruijn32tab", laid_math_bits_deBruijn32tab), ("math/bits.deBruijn64tab", laid_math_bits_deBruijn64tab), ("internal/strconv.uint64pow10", laid_internal_strconv_uint64pow10), ("coupe/units.kinds", laid_coupe_units_kinds)], narrowed := true }
def UnitsTextsUptoSaid : Prop := unitsTextsUptoRow.holds Tryd.pinned (OpenSpec.upto unitsTextsSpec)

/-- 'coupelaw04.UnitsReads', WHERE WHAT IT READS IS OF BULK AT MOST 1048576: true; the input reads as it did. -/
def unitsReadsUptoRow : OpenClaim := { program := "ytgfjofdjicepiaadoor", sum := "96d41a31a611c7ad1257a67c06a09b2ec8f820fd64c30ab834c60a5aa28d063d", func := "coupe/coupelaw04.UnitsReads", spec := "unitsReads", inPlace := ["internal/abi.NoEscape", "internal/bytealg.MakeNoZero", "internal/bytealg.IndexByteString", "internal/bytealg.IndexString"], named := ["coupe/units.kinds", "internal/strconv.uint64pow10", "math/bits.deBruijn32tab", "math/bits.deBruijn64tab", "internal/bytealg.MaxLen"], apart := false, laid := [("math/bits.deBruijn32tab", laid_math_bits_deBruijn32tab), ("math/bits.deBruijn64tab", laid_math_bits_deBruijn64tab), ("internal/strconv.uint64pow10", laid_internal_strconv_uint64pow10), ("coupe/units.kinds", laid_coupe_units_kinds)], narrowed := true }
def UnitsReadsUptoSaid : Prop := unitsReadsUptoRow.holds Tryd.pinned (OpenSpec.upto unitsReadsSpec)

/-- 'coupelaw04.UnitsRounds', WHERE WHAT IT READS IS OF BULK AT MOST 1048576: true; the input reads as it did. -/
def unitsRoundsUptoRow : OpenClaim := { program := "ytgfjofdjicepiaadoor", sum := "96d41a31a611c7ad1257a67c06a09b2ec8f820fd64c30ab834c60a5aa28d063d", func := "coupe/coupelaw04.UnitsRounds", spec := "unitsRounds", inPlace := ["internal/abi.NoEscape", "internal/bytealg.MakeNoZero", "internal/bytealg.IndexByteString", "internal/bytealg.IndexString"], named := ["coupe/units.kinds", "internal/strconv.uint64pow10", "math/bits.deBruijn32tab", "math/bits.deBruijn64tab", "internal/bytealg.MaxLen"], apart := false, laid := [("math/bits.deBruijn32tab", laid_math_bits_deBruijn32tab), ("math/bits.deBruijn64tab", laid_math_bits_deBruijn64tab), ("internal/strconv.uint64pow10", laid_internal_strconv_uint64pow10), ("coupe/units.kinds", laid_coupe_units_kinds)], narrowed := true }
def UnitsRoundsUptoSaid : Prop := unitsRoundsUptoRow.holds Tryd.pinned (OpenSpec.upto unitsRoundsSpec)

/-- 'coupelaw04.UnitsAreas', WHERE WHAT IT READS IS OF BULK AT MOST 1048576: true; the input reads as it did. -/
def unitsAreasUptoRow : OpenClaim := { program := "ytgfjofdjicepiaadoor", sum := "96d41a31a611c7ad1257a67c06a09b2ec8f820fd64c30ab834c60a5aa28d063d", func := "coupe/coupelaw04.UnitsAreas", spec := "unitsAreas", inPlace := ["internal/abi.NoEscape", "internal/bytealg.MakeNoZero", "internal/bytealg.IndexByteString", "internal/bytealg.IndexString"], named := ["coupe/units.kinds", "internal/strconv.uint64pow10", "math/bits.deBruijn32tab", "math/bits.deBruijn64tab", "internal/bytealg.MaxLen"], apart := false, laid := [("math/bits.deBruijn32tab", laid_math_bits_deBruijn32tab), ("math/bits.deBruijn64tab", laid_math_bits_deBruijn64tab), ("internal/strconv.uint64pow10", laid_internal_strconv_uint64pow10), ("coupe/units.kinds", laid_coupe_units_kinds)], narrowed := true }
def UnitsAreasUptoSaid : Prop := unitsAreasUptoRow.holds Tryd.pinned (OpenSpec.upto unitsAreasSpec)

/-- 'coupelaw04.UnitsDays', WHERE WHAT IT READS IS OF BULK AT MOST 1048576: true; the input reads as it did. -/
def unitsDaysUptoRow : OpenClaim := { program := "ytgfjofdjicepiaadoor", sum := "96d41a31a611c7ad1257a67c06a09b2ec8f820fd64c30ab834c60a5aa28d063d", func := "coupe/coupelaw04.UnitsDays", spec := "unitsDays", inPlace := ["internal/abi.NoEscape", "internal/bytealg.MakeNoZero", "internal/bytealg.IndexByteString", "internal/bytealg.IndexString"], named := ["coupe/units.kinds", "internal/strconv.uint64pow10", "math/bits.deBruijn32tab", "math/bits.deBruijn64tab", "internal/bytealg.MaxLen"], apart := false, laid := [("math/bits.deBruijn32tab", laid_math_bits_deBruijn32tab), ("math/bits.deBruijn64tab", laid_math_bits_deBruijn64tab), ("internal/strconv.uint64pow10", laid_internal_strconv_uint64pow10), ("coupe/units.kinds", laid_coupe_units_kinds)], narrowed := true }
def UnitsDaysUptoSaid : Prop := unitsDaysUptoRow.holds Tryd.pinned (OpenSpec.upto unitsDaysSpec)

/-- 'coupelaw04.UnitsBack', WHERE WHAT IT READS IS OF BULK AT MOST 1048576: true; the input reads as it did. -/
def unitsBackUptoRow : OpenClaim := { program := "ytgfjofdjicepiaadoor", sum := "96d41a31a611c7ad1257a67c06a09b2ec8f820fd64c30ab834c60a5aa28d063d", func := "coupe/coupelaw04.UnitsBack", spec := "unitsBack", inPlace := ["internal/abi.NoEscape", "internal/bytealg.MakeNoZero", "internal/bytealg.IndexByteString", "internal/bytealg.IndexString"], named := ["coupe/units.kinds", "internal/strconv.uint64pow10", "math/bits.deBruijn32tab", "math/bits.deBruijn64tab", "internal/bytealg.MaxLen"], apart := false, laid := [("math/bits.deBruijn32tab", laid_math_bits_deBruijn32tab), ("math/bits.deBruijn64tab", laid_math_bits_deBruijn64tab), ("internal/strconv.uint64pow10", laid_internal_strconv_uint64pow10), ("coupe/units.kinds", laid_coupe_units_kinds)], narrowed := true }
def UnitsBackUptoSaid : Prop := unitsBackUptoRow.holds Tryd.pinned (OpenSpec.upto unitsBackSpec)

/-- 'coupelaw04.UnitsBetween', WHERE WHAT IT READS IS OF BULK AT MOST 1048576: true; the input reads as it did. -/
def unitsBetweenUptoRow : OpenClaim := { program := "ytgfjofdjicepiaadoor", sum := "96d41a31a611c7ad1257a67c06a09b2ec8f820fd64c30ab834c60a5aa28d063d", func := "coupe/coupelaw04.UnitsBetween", spec := "unitsBetween", inPlace := ["internal/abi.NoEscape", "internal/bytealg.MakeNoZero", "internal/bytealg.IndexByteString", "internal/bytealg.IndexString"], named := ["coupe/units.kinds", "internal/strconv.uint64pow10", "math/bits.deBruijn32tab", "math/bits.deBruijn64tab", "internal/bytealg.MaxLen"], apart := false, laid := [("math/bits.deBruijn32tab", laid_math_bits_deBruijn32tab), ("math/bits.deBruijn64tab", laid_math_bits_deBruijn64tab), ("internal/strconv.uint64pow10", laid_internal_strconv_uint64pow10), ("coupe/units.kinds", laid_coupe_units_kinds)], narrowed := true }
def UnitsBetweenUptoSaid : Prop := unitsBetweenUptoRow.holds Tryd.pinned (OpenSpec.upto unitsBetweenSpec)

/-- 'coupelaw04.UnitsCalendar', WHERE WHAT IT READS IS OF BULK AT MOST 1048576: true; the input reads as it did. -/
def unitsCalendarUptoRow : OpenClaim := { program := "ytgfjofdjicepiaadoor", sum := "96d41a31a611c7ad1257a67c06a09b2ec8f820fd64c30ab834c60a5aa28d063d", func := "coupe/coupelaw04.UnitsCalendar", spec := "unitsCalendar", inPlace := ["internal/abi.NoEscape", "internal/bytealg.MakeNoZero", "internal/bytealg.IndexByteString", "internal/bytealg.IndexString"], named := ["internal/strconv.uint64pow10", "math/bits.deBruijn32tab", "math/bits.deBruijn64tab", "coupe/units.kinds", "internal/bytealg.MaxLen"], apart := false, laid := [("math/bits.deBruijn32tab", laid_math_bits_deBruijn32tab), ("math/bits.deBruijn64tab", laid_math_bits_deBruijn64tab), ("internal/strconv.uint64pow10", laid_internal_strconv_uint64pow10), ("coupe/units.kinds", laid_coupe_units_kinds)], narrowed := true }
def UnitsCalendarUptoSaid : Prop := unitsCalendarUptoRow.holds Tryd.pinned (OpenSpec.upto unitsCalendarSpec)

end Rows
end Go.Proofs.YtgfjofdjicepiaaDoor
