/-
  No cell of these rows narrows 'for every input' (looked for: loops, veiled, ifaces, maps, wideKeys, modest, calm, conditions, laid).
  DERIVED. THE GIVEN ROWS OF THIS SEAT. 8 by the template 'for every input the law returns true; each argument reads behind the call as it read before'; 0 by the template 'total and deterministic' (their statements: YtmdaanigkhikfabTotals.lean).
  GIVEN WITH THE SEED: the statements are not yours to turn. If you find one false, say at which input.
  Laid BY PROGRAM, IN A SANDBOX (cutbox-rows.mjs): the forced cells as the released guide's own fill.sh prints them over the translation ee7724c3cf92b5d1… (all of the seat's roots in one cut). By AI agents, Wed Nov 11 2026. No macro, syntax, notation, axiom, sorry.
-/
import Derived.Test.YtmdaanigkhikfabChecked
import GoSem.Claim
import GoSem.ClaimJoined
import GoSem.ClaimMapViews
import Derived.JoinedTies
import Derived.KernelRfl
namespace Go.Proofs.Ytmdaanigkhikfab
/- THE CELL 'sum', in the pinned program and in every row, IS THE sha256 OF THE DUMP (.gsa) THAT YtmdaanigkhikfabProg.lean LOADS. Nothing in Lean hashes anything: it is a label: what it is worth is what the hold of that sum in a sandbox is worth. -/
noncomputable def Try.pinned : Pinned := { name := "ytmdaanigkhikfab", sum := "ee7724c3cf92b5d1424391dea8de4034b45d817ea63d45705a70bb1808795325", checked := Try.checked }
namespace Rows
def none {H : Type} : Left H := { results := [], args := [] }

/-- 'coupelaw16.TreelistChecks': WHATEVER THE INPUT: true; the input reads as it did. -/
def treelistChecksSpec : ChangeSpec := { name := "treelistChecks", fn := fun _ => fun
  | [d1, d2] => { results := [.lit (.bool true)], args := [d1, d2] }
  | _ => none }
def treelistChecksRow : OpenClaim := { program := "ytmdaanigkhikfab", sum := "ee7724c3cf92b5d1424391dea8de4034b45d817ea63d45705a70bb1808795325", func := "coupe/coupelaw16.TreelistChecks", spec := "treelistChecks", unfollowed := true, recurses := true, apart := false }
def TreelistChecksSaid : Prop := treelistChecksRow.holds Try.pinned (OpenSpec.ofChange treelistChecksSpec)

/-- ITS FALSE NEIGHBOUR: 'it returns false'. Refute it at one input. -/
def treelistChecksWrong : ChangeSpec := { name := "treelistChecks", fn := fun _ => fun
  | [d1, d2] => { results := [.lit (.bool false)], args := [d1, d2] }
  | _ => none }
def TreelistChecksWrongFalsely : Prop := treelistChecksRow.holds Try.pinned (OpenSpec.ofChange treelistChecksWrong)

/-- 'coupelaw16.TreelistSquares': WHATEVER THE INPUT: true; the input reads as it did. -/
def treelistSquaresSpec : ChangeSpec := { name := "treelistSquares", fn := fun _ => fun
  | [d] => { results := [.lit (.bool true)], args := [d] }
  | _ => none }
def treelistSquaresRow : OpenClaim := { program := "ytmdaanigkhikfab", sum := "ee7724c3cf92b5d1424391dea8de4034b45d817ea63d45705a70bb1808795325", func := "coupe/coupelaw16.TreelistSquares", spec := "treelistSquares", unfollowed := true, recurses := true, apart := false }
def TreelistSquaresSaid : Prop := treelistSquaresRow.holds Try.pinned (OpenSpec.ofChange treelistSquaresSpec)

/-- ITS FALSE NEIGHBOUR: 'it returns false'. Refute it at one input. -/
def treelistSquaresWrong : ChangeSpec := { name := "treelistSquares", fn := fun _ => fun
  | [d] => { results := [.lit (.bool false)], args := [d] }
  | _ => none }
def TreelistSquaresWrongFalsely : Prop := treelistSquaresRow.holds Try.pinned (OpenSpec.ofChange treelistSquaresWrong)

/-- 'coupelaw16.TreelistOrders': WHATEVER THE INPUT: true; the input reads as it did. -/
def treelistOrdersSpec : ChangeSpec := { name := "treelistOrders", fn := fun _ => fun
  | [d1, d2] => { results := [.lit (.bool true)], args := [d1, d2] }
  | _ => none }
def treelistOrdersRow : OpenClaim := { program := "ytmdaanigkhikfab", sum := "ee7724c3cf92b5d1424391dea8de4034b45d817ea63d45705a70bb1808795325", func := "coupe/coupelaw16.TreelistOrders", spec := "treelistOrders", unfollowed := true, recurses := true, apart := false }
def TreelistOrdersSaid : Prop := treelistOrdersRow.holds Try.pinned (OpenSpec.ofChange treelistOrdersSpec)

/-- ITS FALSE NEIGHBOUR: 'it returns false'. Refute it at one input. -/
def treelistOrdersWrong : ChangeSpec := { name := "treelistOrders", fn := fun _ => fun
  | [d1, d2] => { results := [.lit (.bool false)], args := [d1, d2] }
  | _ => none }
def TreelistOrdersWrongFalsely : Prop := treelistOrdersRow.holds Try.pinned (OpenSpec.ofChange treelistOrdersWrong)

/-- 'coupelaw16.TreelistShares': WHATEVER THE INPUT: true; the input reads as it did. -/
def treelistSharesSpec : ChangeSpec := { name := "treelistShares", fn := fun _ => fun
  | [d1, d2] => { results := [.lit (.bool true)], args := [d1, d2] }
  | _ => none }
def treelistSharesRow : OpenClaim := { program := "ytmdaanigkhikfab", sum := "ee7724c3cf92b5d1424391dea8de4034b45d817ea63d45705a70bb1808795325", func := "coupe/coupelaw16.TreelistShares", spec := "treelistShares", unfollowed := true, recurses := true, apart := false }
def TreelistSharesSaid : Prop := treelistSharesRow.holds Try.pinned (OpenSpec.ofChange treelistSharesSpec)

/-- ITS FALSE NEIGHBOUR: 'it returns false'. Refute it at one input. -/
def treelistSharesWrong : ChangeSpec := { name := "treelistShares", fn := fun _ => fun
  | [d1, d2] => { results := [.lit (.bool false)], args := [d1, d2] }
  | _ => none }
def TreelistSharesWrongFalsely : Prop := treelistSharesRow.holds Try.pinned (OpenSpec.ofChange treelistSharesWrong)

/-- 'coupelaw16.TreelistMeans': WHATEVER THE INPUT: true; the input reads as it did. -/
def treelistMeansSpec : ChangeSpec := { name := "treelistMeans", fn := fun _ => fun
  | [d] => { results := [.lit (.bool true)], args := [d] }
  | _ => none }
def treelistMeansRow : OpenClaim := { program := "ytmdaanigkhikfab", sum := "ee7724c3cf92b5d1424391dea8de4034b45d817ea63d45705a70bb1808795325", func := "coupe/coupelaw16.TreelistMeans", spec := "treelistMeans", unfollowed := true, recurses := true, apart := false }
def TreelistMeansSaid : Prop := treelistMeansRow.holds Try.pinned (OpenSpec.ofChange treelistMeansSpec)

/-- ITS FALSE NEIGHBOUR: 'it returns false'. Refute it at one input. -/
def treelistMeansWrong : ChangeSpec := { name := "treelistMeans", fn := fun _ => fun
  | [d] => { results := [.lit (.bool false)], args := [d] }
  | _ => none }
def TreelistMeansWrongFalsely : Prop := treelistMeansRow.holds Try.pinned (OpenSpec.ofChange treelistMeansWrong)

/-- 'coupelaw16.TreelistAddUp': WHATEVER THE INPUT: true; the input reads as it did. -/
def treelistAddUpSpec : ChangeSpec := { name := "treelistAddUp", fn := fun _ => fun
  | [d1, d2] => { results := [.lit (.bool true)], args := [d1, d2] }
  | _ => none }
def treelistAddUpRow : OpenClaim := { program := "ytmdaanigkhikfab", sum := "ee7724c3cf92b5d1424391dea8de4034b45d817ea63d45705a70bb1808795325", func := "coupe/coupelaw16.TreelistAddUp", spec := "treelistAddUp", unfollowed := true, recurses := true, apart := false }
def TreelistAddUpSaid : Prop := treelistAddUpRow.holds Try.pinned (OpenSpec.ofChange treelistAddUpSpec)

/-- ITS FALSE NEIGHBOUR: 'it returns false'. Refute it at one input. -/
def treelistAddUpWrong : ChangeSpec := { name := "treelistAddUp", fn := fun _ => fun
  | [d1, d2] => { results := [.lit (.bool false)], args := [d1, d2] }
  | _ => none }
def TreelistAddUpWrongFalsely : Prop := treelistAddUpRow.holds Try.pinned (OpenSpec.ofChange treelistAddUpWrong)

/-- 'coupelaw16.TreelistSorted': WHATEVER THE INPUT: true; the input reads as it did. -/
def treelistSortedSpec : ChangeSpec := { name := "treelistSorted", fn := fun _ => fun
  | [d1, d2] => { results := [.lit (.bool true)], args := [d1, d2] }
  | _ => none }
def treelistSortedRow : OpenClaim := { program := "ytmdaanigkhikfab", sum := "ee7724c3cf92b5d1424391dea8de4034b45d817ea63d45705a70bb1808795325", func := "coupe/coupelaw16.TreelistSorted", spec := "treelistSorted", unfollowed := true, recurses := true, apart := false }
def TreelistSortedSaid : Prop := treelistSortedRow.holds Try.pinned (OpenSpec.ofChange treelistSortedSpec)

/-- ITS FALSE NEIGHBOUR: 'it returns false'. Refute it at one input. -/
def treelistSortedWrong : ChangeSpec := { name := "treelistSorted", fn := fun _ => fun
  | [d1, d2] => { results := [.lit (.bool false)], args := [d1, d2] }
  | _ => none }
def TreelistSortedWrongFalsely : Prop := treelistSortedRow.holds Try.pinned (OpenSpec.ofChange treelistSortedWrong)

/-- 'coupelaw16.TreelistParts': WHATEVER THE INPUT: true; the input reads as it did. -/
def treelistPartsSpec : ChangeSpec := { name := "treelistParts", fn := fun _ => fun
  | [d1, d2] => { results := [.lit (.bool true)], args := [d1, d2] }
  | _ => none }
def treelistPartsRow : OpenClaim := { program := "ytmdaanigkhikfab", sum := "ee7724c3cf92b5d1424391dea8de4034b45d817ea63d45705a70bb1808795325", func := "coupe/coupelaw16.TreelistParts", spec := "treelistParts", unfollowed := true, recurses := true, apart := false }
def TreelistPartsSaid : Prop := treelistPartsRow.holds Try.pinned (OpenSpec.ofChange treelistPartsSpec)

/-- ITS FALSE NEIGHBOUR: 'it returns false'. Refute it at one input. -/
def treelistPartsWrong : ChangeSpec := { name := "treelistParts", fn := fun _ => fun
  | [d1, d2] => { results := [.lit (.bool false)], args := [d1, d2] }
  | _ => none }
def TreelistPartsWrongFalsely : Prop := treelistPartsRow.holds Try.pinned (OpenSpec.ofChange treelistPartsWrong)

/- THE SECOND FORM. 'bulk': how many values and letters a reading holds, each counted each time it is reached (what is shared counts as often as it is met; a slice's spare places count too). A statement '..UptoSaid' is the law's where the arguments, and the package variables that the reading takes, are together of bulk at most 1048576: NARROWER than '..Said'. Prove '..Said' where nothing that the law and all that it calls make is longer than what came in: it says more and counts as full. Else prove '..UptoSaid'. A law counts once. -/
mutual
def uptoBulk {H : Type} : DataW H → Nat
  | .lit (.string bytes) => bytes.length + 1
  | .lit _ => 1
  | .nil => 1
  | .ptr d => uptoBulk d + 1
  | .slice elems spare => uptoBulkAll elems + uptoBulkAll spare + 1
  | .agg parts => uptoBulkAll parts + 1
  | .iface _ d => uptoBulk d + 1
  | .map entries => uptoBulkEntries entries + 1
  | .held _ => 1
def uptoBulkAll {H : Type} : List (DataW H) → Nat
  | [] => 0
  | d :: r => uptoBulk d + uptoBulkAll r
def uptoBulkEntries {H : Type} : List (Lit × DataW H) → Nat
  | [] => 0
  | x :: r => uptoBulkEntry x + uptoBulkEntries r
def uptoBulkEntry {H : Type} : Lit × DataW H → Nat
  | (.string bytes, d) => bytes.length + uptoBulk d + 1
  | (_, d) => uptoBulk d + 1
 end
def uptoSmall : (H : Type) → List (DataW H) → Bool := fun _ ds => decide (uptoBulkAll ds ≤ 1048576)
def OpenSpec.upto (s : _root_.Go.ChangeSpec) : _root_.Go.OpenSpec := { _root_.Go.OpenSpec.ofChange s with cond := some uptoSmall }

/-- 'coupelaw16.TreelistChecks', WHERE WHAT IT READS IS OF BULK AT MOST 1048576: true; the input reads as it did. -/
def treelistChecksUptoRow : OpenClaim := { program := "ytmdaanigkhikfab", sum := "ee7724c3cf92b5d1424391dea8de4034b45d817ea63d45705a70bb1808795325", func := "coupe/coupelaw16.TreelistChecks", spec := "treelistChecks", unfollowed := true, recurses := true, apart := false, narrowed := true }
def TreelistChecksUptoSaid : Prop := treelistChecksUptoRow.holds Try.pinned (OpenSpec.upto treelistChecksSpec)

/-- 'coupelaw16.TreelistSquares', WHERE WHAT IT READS IS OF BULK AT MOST 1048576: true; the input reads as it did. -/
def treelistSquaresUptoRow : OpenClaim := { program := "ytmdaanigkhikfab", sum := "ee7724c3cf92b5d1424391dea8de4034b45d817ea63d45705a70bb1808795325", func := "coupe/coupelaw16.TreelistSquares", spec := "treelistSquares", unfollowed := true, recurses := true, apart := false, narrowed := true }
def TreelistSquaresUptoSaid : Prop := treelistSquaresUptoRow.holds Try.pinned (OpenSpec.upto treelistSquaresSpec)

/-- 'coupelaw16.TreelistOrders', WHERE WHAT IT READS IS OF BULK AT MOST 1048576: true; the input reads as it did. -/
def treelistOrdersUptoRow : OpenClaim := { program := "ytmdaanigkhikfab", sum := "ee7724c3cf92b5d1424391dea8de4034b45d817ea63d45705a70bb1808795325", func := "coupe/coupelaw16.TreelistOrders", spec := "treelistOrders", unfollowed := true, recurses := true, apart := false, narrowed := true }
def TreelistOrdersUptoSaid : Prop := treelistOrdersUptoRow.holds Try.pinned (OpenSpec.upto treelistOrdersSpec)

/-- 'coupelaw16.TreelistShares', WHERE WHAT IT READS IS OF BULK AT MOST 1048576: true; the input reads as it did. -/
def treelistSharesUptoRow : OpenClaim := { program := "ytmdaanigkhikfab", sum := "ee7724c3cf92b5d1424391dea8de4034b45d817ea63d45705a70bb1808795325", func := "coupe/coupelaw16.TreelistShares", spec := "treelistShares", unfollowed := true, recurses := true, apart := false, narrowed := true }
def TreelistSharesUptoSaid : Prop := treelistSharesUptoRow.holds Try.pinned (OpenSpec.upto treelistSharesSpec)

/-- 'coupelaw16.TreelistMeans', WHERE WHAT IT READS IS OF BULK AT MOST 1048576: true; the input reads as it did. -/
def treelistMeansUptoRow : OpenClaim := { program := "ytmdaanigkhikfab", sum := "ee7724c3cf92b5d1424391dea8de4034b45d817ea63d45705a70bb1808795325", func := "coupe/coupelaw16.TreelistMeans", spec := "treelistMeans", unfollowed := true, recurses := true, apart := false, narrowed := true }
def TreelistMeansUptoSaid : Prop := treelistMeansUptoRow.holds Try.pinned (OpenSpec.upto treelistMeansSpec)

/-- 'coupelaw16.TreelistAddUp', WHERE WHAT IT READS IS OF BULK AT MOST 1048576: true; the input reads as it did. -/
def treelistAddUpUptoRow : OpenClaim := { program := "ytmdaanigkhikfab", sum := "ee7724c3cf92b5d1424391dea8de4034b45d817ea63d45705a70bb1808795325", func := "coupe/coupelaw16.TreelistAddUp", spec := "treelistAddUp", unfollowed := true, recurses := true, apart := false, narrowed := true }
def TreelistAddUpUptoSaid : Prop := treelistAddUpUptoRow.holds Try.pinned (OpenSpec.upto treelistAddUpSpec)

/-- 'coupelaw16.TreelistSorted', WHERE WHAT IT READS IS OF BULK AT MOST 1048576: true; the input reads as it did. -/
def treelistSortedUptoRow : OpenClaim := { program := "ytmdaanigkhikfab", sum := "ee7724c3cf92b5d1424391dea8de4034b45d817ea63d45705a70bb1808795325", func := "coupe/coupelaw16.TreelistSorted", spec := "treelistSorted", unfollowed := true, recurses := true, apart := false, narrowed := true }
def TreelistSortedUptoSaid : Prop := treelistSortedUptoRow.holds Try.pinned (OpenSpec.upto treelistSortedSpec)

/-- 'coupelaw16.TreelistParts', WHERE WHAT IT READS IS OF BULK AT MOST 1048576: true; the input reads as it did. -/
def treelistPartsUptoRow : OpenClaim := { program := "ytmdaanigkhikfab", sum := "ee7724c3cf92b5d1424391dea8de4034b45d817ea63d45705a70bb1808795325", func := "coupe/coupelaw16.TreelistParts", spec := "treelistParts", unfollowed := true, recurses := true, apart := false, narrowed := true }
def TreelistPartsUptoSaid : Prop := treelistPartsUptoRow.holds Try.pinned (OpenSpec.upto treelistPartsSpec)

end Rows
end Go.Proofs.Ytmdaanigkhikfab
