/-
  No cell of these rows narrows 'for every input' (looked for: loops, veiled, ifaces, maps, wideKeys, modest, calm, conditions, laid).
  DERIVED. THE GIVEN ROWS OF THIS SEAT. 8 by the template 'for every input the law returns true; each argument reads behind the call as it read before'; 0 by the template 'total and deterministic' (their statements: YtdimncchejbaaaaTotals.lean).
  GIVEN WITH THE SEED: the statements are not yours to turn. If you find one false, say at which input.
  Laid BY PROGRAM, IN A SANDBOX (cutbox-rows.mjs): the forced cells as the released guide's own fill.sh prints them over the translation ae89975647a3d423… (all of the seat's roots in one cut). By AI agents, Wed Nov 11 2026. No macro, syntax, notation, axiom, sorry.
-/
import Derived.Test.YtdimncchejbaaaaChecked
import GoSem.Claim
import GoSem.ClaimJoined
import GoSem.ClaimMapViews
import Derived.JoinedTies
import Derived.KernelRfl
namespace Go.Proofs.Ytdimncchejbaaaa
/- THE CELL 'sum', in the pinned program and in every row, IS THE sha256 OF THE DUMP (.gsa) THAT YtdimncchejbaaaaProg.lean LOADS. Nothing in Lean hashes anything: it is a label: what it is worth is what the hold of that sum in a sandbox is worth. -/
noncomputable def Try.pinned : Pinned := { name := "ytdimncchejbaaaa", sum := "ae89975647a3d42387157477de9a39ff4f677f050f91617379fee5d91f7a31aa", checked := Try.checked }
namespace Rows
def none {H : Type} : Left H := { results := [], args := [] }

/-- 'coupelaw14.VolumeHeights': WHATEVER THE INPUT: true; the input reads as it did. -/
def volumeHeightsSpec : ChangeSpec := { name := "volumeHeights", fn := fun _ => fun
  | [d1, d2] => { results := [.lit (.bool true)], args := [d1, d2] }
  | _ => none }
def volumeHeightsRow : OpenClaim := { program := "ytdimncchejbaaaa", sum := "ae89975647a3d42387157477de9a39ff4f677f050f91617379fee5d91f7a31aa", func := "coupe/coupelaw14.VolumeHeights", spec := "volumeHeights", inPlace := ["math/bits.Add64", "math/bits.Sub64"], unfollowed := true, recurses := true, named := ["math/bits.divideError", "math/bits.overflowError"], apart := false }
def VolumeHeightsSaid : Prop := volumeHeightsRow.holds Try.pinned (OpenSpec.ofChange volumeHeightsSpec)

/-- ITS FALSE NEIGHBOUR: 'it returns false'. Refute it at one input. -/
def volumeHeightsWrong : ChangeSpec := { name := "volumeHeights", fn := fun _ => fun
  | [d1, d2] => { results := [.lit (.bool false)], args := [d1, d2] }
  | _ => none }
def VolumeHeightsWrongFalsely : Prop := volumeHeightsRow.holds Try.pinned (OpenSpec.ofChange volumeHeightsWrong)

/-- 'coupelaw14.VolumeTrees': WHATEVER THE INPUT: true; the input reads as it did. -/
def volumeTreesSpec : ChangeSpec := { name := "volumeTrees", fn := fun _ => fun
  | [d1, d2] => { results := [.lit (.bool true)], args := [d1, d2] }
  | _ => none }
def volumeTreesRow : OpenClaim := { program := "ytdimncchejbaaaa", sum := "ae89975647a3d42387157477de9a39ff4f677f050f91617379fee5d91f7a31aa", func := "coupe/coupelaw14.VolumeTrees", spec := "volumeTrees", inPlace := ["math/bits.Add64", "math/bits.Sub64"], unfollowed := true, recurses := true, named := ["math/bits.divideError", "math/bits.overflowError"], apart := false }
def VolumeTreesSaid : Prop := volumeTreesRow.holds Try.pinned (OpenSpec.ofChange volumeTreesSpec)

/-- ITS FALSE NEIGHBOUR: 'it returns false'. Refute it at one input. -/
def volumeTreesWrong : ChangeSpec := { name := "volumeTrees", fn := fun _ => fun
  | [d1, d2] => { results := [.lit (.bool false)], args := [d1, d2] }
  | _ => none }
def VolumeTreesWrongFalsely : Prop := volumeTreesRow.holds Try.pinned (OpenSpec.ofChange volumeTreesWrong)

/-- 'coupelaw14.VolumeStems': WHATEVER THE INPUT: true; the input reads as it did. -/
def volumeStemsSpec : ChangeSpec := { name := "volumeStems", fn := fun _ => fun
  | [d1, d2, d3] => { results := [.lit (.bool true)], args := [d1, d2, d3] }
  | _ => none }
def volumeStemsRow : OpenClaim := { program := "ytdimncchejbaaaa", sum := "ae89975647a3d42387157477de9a39ff4f677f050f91617379fee5d91f7a31aa", func := "coupe/coupelaw14.VolumeStems", spec := "volumeStems", inPlace := ["math/bits.Add64", "math/bits.Sub64"], unfollowed := true, recurses := true, named := ["math/bits.divideError", "math/bits.overflowError"], apart := false }
def VolumeStemsSaid : Prop := volumeStemsRow.holds Try.pinned (OpenSpec.ofChange volumeStemsSpec)

/-- ITS FALSE NEIGHBOUR: 'it returns false'. Refute it at one input. -/
def volumeStemsWrong : ChangeSpec := { name := "volumeStems", fn := fun _ => fun
  | [d1, d2, d3] => { results := [.lit (.bool false)], args := [d1, d2, d3] }
  | _ => none }
def VolumeStemsWrongFalsely : Prop := volumeStemsRow.holds Try.pinned (OpenSpec.ofChange volumeStemsWrong)

/-- 'coupelaw14.VolumeSections': WHATEVER THE INPUT: true; the input reads as it did. -/
def volumeSectionsSpec : ChangeSpec := { name := "volumeSections", fn := fun _ => fun
  | [d1, d2, d3] => { results := [.lit (.bool true)], args := [d1, d2, d3] }
  | _ => none }
def volumeSectionsRow : OpenClaim := { program := "ytdimncchejbaaaa", sum := "ae89975647a3d42387157477de9a39ff4f677f050f91617379fee5d91f7a31aa", func := "coupe/coupelaw14.VolumeSections", spec := "volumeSections", inPlace := ["math/bits.Add64", "math/bits.Sub64"], unfollowed := true, recurses := true, named := ["math/bits.divideError", "math/bits.overflowError"], apart := false }
def VolumeSectionsSaid : Prop := volumeSectionsRow.holds Try.pinned (OpenSpec.ofChange volumeSectionsSpec)

/-- ITS FALSE NEIGHBOUR: 'it returns false'. Refute it at one input. -/
def volumeSectionsWrong : ChangeSpec := { name := "volumeSections", fn := fun _ => fun
  | [d1, d2, d3] => { results := [.lit (.bool false)], args := [d1, d2, d3] }
  | _ => none }
def VolumeSectionsWrongFalsely : Prop := volumeSectionsRow.holds Try.pinned (OpenSpec.ofChange volumeSectionsWrong)

/-- 'coupelaw14.VolumeGrows': WHATEVER THE INPUT: true; the input reads as it did. -/
def volumeGrowsSpec : ChangeSpec := { name := "volumeGrows", fn := fun _ => fun
  | [d1, d2, d3] => { results := [.lit (.bool true)], args := [d1, d2, d3] }
  | _ => none }
def volumeGrowsRow : OpenClaim := { program := "ytdimncchejbaaaa", sum := "ae89975647a3d42387157477de9a39ff4f677f050f91617379fee5d91f7a31aa", func := "coupe/coupelaw14.VolumeGrows", spec := "volumeGrows", inPlace := ["math/bits.Add64", "math/bits.Sub64"], unfollowed := true, recurses := true, named := ["math/bits.divideError", "math/bits.overflowError"], apart := false }
def VolumeGrowsSaid : Prop := volumeGrowsRow.holds Try.pinned (OpenSpec.ofChange volumeGrowsSpec)

/-- ITS FALSE NEIGHBOUR: 'it returns false'. Refute it at one input. -/
def volumeGrowsWrong : ChangeSpec := { name := "volumeGrows", fn := fun _ => fun
  | [d1, d2, d3] => { results := [.lit (.bool false)], args := [d1, d2, d3] }
  | _ => none }
def VolumeGrowsWrongFalsely : Prop := volumeGrowsRow.holds Try.pinned (OpenSpec.ofChange volumeGrowsWrong)

/-- 'coupelaw14.VolumeAdds': WHATEVER THE INPUT: true; the input reads as it did. -/
def volumeAddsSpec : ChangeSpec := { name := "volumeAdds", fn := fun _ => fun
  | [d1, d2, d3] => { results := [.lit (.bool true)], args := [d1, d2, d3] }
  | _ => none }
def volumeAddsRow : OpenClaim := { program := "ytdimncchejbaaaa", sum := "ae89975647a3d42387157477de9a39ff4f677f050f91617379fee5d91f7a31aa", func := "coupe/coupelaw14.VolumeAdds", spec := "volumeAdds", inPlace := ["math/bits.Add64", "math/bits.Sub64"], unfollowed := true, recurses := true, named := ["math/bits.divideError", "math/bits.overflowError"], apart := false }
def VolumeAddsSaid : Prop := volumeAddsRow.holds Try.pinned (OpenSpec.ofChange volumeAddsSpec)

/-- ITS FALSE NEIGHBOUR: 'it returns false'. Refute it at one input. -/
def volumeAddsWrong : ChangeSpec := { name := "volumeAdds", fn := fun _ => fun
  | [d1, d2, d3] => { results := [.lit (.bool false)], args := [d1, d2, d3] }
  | _ => none }
def VolumeAddsWrongFalsely : Prop := volumeAddsRow.holds Try.pinned (OpenSpec.ofChange volumeAddsWrong)

/-- 'coupelaw14.VolumeCylinders': WHATEVER THE INPUT: true; the input reads as it did. -/
def volumeCylindersSpec : ChangeSpec := { name := "volumeCylinders", fn := fun _ => fun
  | [d] => { results := [.lit (.bool true)], args := [d] }
  | _ => none }
def volumeCylindersRow : OpenClaim := { program := "ytdimncchejbaaaa", sum := "ae89975647a3d42387157477de9a39ff4f677f050f91617379fee5d91f7a31aa", func := "coupe/coupelaw14.VolumeCylinders", spec := "volumeCylinders", inPlace := ["math/bits.Add64", "math/bits.Sub64"], unfollowed := true, recurses := true, named := ["math/bits.divideError", "math/bits.overflowError"], apart := false }
def VolumeCylindersSaid : Prop := volumeCylindersRow.holds Try.pinned (OpenSpec.ofChange volumeCylindersSpec)

/-- ITS FALSE NEIGHBOUR: 'it returns false'. Refute it at one input. -/
def volumeCylindersWrong : ChangeSpec := { name := "volumeCylinders", fn := fun _ => fun
  | [d] => { results := [.lit (.bool false)], args := [d] }
  | _ => none }
def VolumeCylindersWrongFalsely : Prop := volumeCylindersRow.holds Try.pinned (OpenSpec.ofChange volumeCylindersWrong)

/-- 'coupelaw14.VolumeMeasured': WHATEVER THE INPUT: true; the input reads as it did. -/
def volumeMeasuredSpec : ChangeSpec := { name := "volumeMeasured", fn := fun _ => fun
  | [d1, d2] => { results := [.lit (.bool true)], args := [d1, d2] }
  | _ => none }
def volumeMeasuredRow : OpenClaim := { program := "ytdimncchejbaaaa", sum := "ae89975647a3d42387157477de9a39ff4f677f050f91617379fee5d91f7a31aa", func := "coupe/coupelaw14.VolumeMeasured", spec := "volumeMeasured", inPlace := ["math/bits.Add64", "math/bits.Sub64"], unfollowed := true, recurses := true, named := ["math/bits.divideError", "math/bits.overflowError"], apart := false }
def VolumeMeasuredSaid : Prop := volumeMeasuredRow.holds Try.pinned (OpenSpec.ofChange volumeMeasuredSpec)

/-- ITS FALSE NEIGHBOUR: 'it returns false'. Refute it at one input. -/
def volumeMeasuredWrong : ChangeSpec := { name := "volumeMeasured", fn := fun _ => fun
  | [d1, d2] => { results := [.lit (.bool false)], args := [d1, d2] }
  | _ => none }
def VolumeMeasuredWrongFalsely : Prop := volumeMeasuredRow.holds Try.pinned (OpenSpec.ofChange volumeMeasuredWrong)

/- THE SECOND FORM. 'bulk': how many values and letters a reading holds, each counted each time it is reached (what is shared counts as often as it is met; a slice's spare places count too). A statement '..UptoSaid' is the law's where the arguments, and the package variables that the reading takes, are together of bulk at most 1048576: NARROWER than '..Said'. Prove '..Said' where nothing that the law and all that it calls make is longer than what came in: it says more and counts as full. Else prove '..UptoSaid'. A law counts once. -/
mutual
def uptoBulk {H : Type} : DataW H → Nat
  | .lit (.string bytes) => bytes.length + 1
  | .lit _ => 1
  | .nil => 1
  | .ptr d => uptoBulk d + 1
  | .slice elems spare => uptoBulkAll elems + uptoBulkAll spare + 1
  | .agg parts => uptoBulkAll parts + 1
  | .iface _ d => uptoBulk d + 1
  | .map entries => uptoBulkEntries entries + 1
  | .held _ => 1
def uptoBulkAll {H : Type} : List (DataW H) → Nat
  | [] => 0
  | d :: r => uptoBulk d + uptoBulkAll r
def uptoBulkEntries {H : Type} : List (Lit × DataW H) → Nat
  | [] => 0
  | x :: r => uptoBulkEntry x + uptoBulkEntries r
def uptoBulkEntry {H : Type} : Lit × DataW H → Nat
  | (.string bytes, d) => bytes.length + uptoBulk d + 1
  | (_, d) => uptoBulk d + 1
 end
def uptoSmall : (H : Type) → List (DataW H) → Bool := fun _ ds => decide (uptoBulkAll ds ≤ 1048576)
def OpenSpec.upto (s : _root_.Go.ChangeSpec) : _root_.Go.OpenSpec := { _root_.Go.OpenSpec.ofChange s with cond := some uptoSmall }

/-- 'coupelaw14.VolumeHeights', WHERE WHAT IT READS IS OF BULK AT MOST 1048576: true; the input reads as it did. -/
def volumeHeightsUptoRow : OpenClaim := { program := "ytdimncchejbaaaa", sum := "ae89975647a3d42387157477de9a39ff4f677f050f91617379fee5d91f7a31aa", func := "coupe/coupelaw14.VolumeHeights", spec := "volumeHeights", inPlace := ["math/bits.Add64", "math/bits.Sub64"], unfollowed := true, recurses := true, named := ["math/bits.divideError", "math/bits.overflowError"], apart := false, narrowed := true }
def VolumeHeightsUptoSaid : Prop := volumeHeightsUptoRow.holds Try.pinned (OpenSpec.upto volumeHeightsSpec)

/-- 'coupelaw14.VolumeTrees', WHERE WHAT IT READS IS OF BULK AT MOST 1048576: true; the input reads as it did. -/
def volumeTreesUptoRow : OpenClaim := { program := "ytdimncchejbaaaa", sum := "ae89975647a3d42387157477de9a39ff4f677f050f91617379fee5d91f7a31aa", func := "coupe/coupelaw14.VolumeTrees", spec := "volumeTrees", inPlace := ["math/bits.Add64", "math/bits.Sub64"], unfollowed := true, recurses := true, named := ["math/bits.divideError", "math/bits.overflowError"], apart := false, narrowed := true }
def VolumeTreesUptoSaid : Prop := volumeTreesUptoRow.holds Try.pinned (OpenSpec.upto volumeTreesSpec)

/-- 'coupelaw14.VolumeStems', WHERE WHAT IT READS IS OF BULK AT MOST 1048576: true; the input reads as it did. -/
def volumeStemsUptoRow : OpenClaim := { program := "ytdimncchejbaaaa", sum := "ae89975647a3d42387157477de9a39ff4f677f050f91617379fee5d91f7a31aa", func := "coupe/coupelaw14.VolumeStems", spec := "volumeStems", inPlace := ["math/bits.Add64", "math/bits.Sub64"], unfollowed := true, recurses := true, named := ["math/bits.divideError", "math/bits.overflowError"], apart := false, narrowed := true }
def VolumeStemsUptoSaid : Prop := volumeStemsUptoRow.holds Try.pinned (OpenSpec.upto volumeStemsSpec)

/-- 'coupelaw14.VolumeSections', WHERE WHAT IT READS IS OF BULK AT MOST 1048576: true; the input reads as it did. -/
def volumeSectionsUptoRow : OpenClaim := { program := "ytdimncchejbaaaa", sum := "ae89975647a3d42387157477de9a39ff4f677f050f91617379fee5d91f7a31aa", func := "coupe/coupelaw14.VolumeSections", spec := "volumeSections", inPlace := ["math/bits.Add64", "math/bits.Sub64"], unfollowed := true, recurses := true, named := ["math/bits.divideError", "math/bits.overflowError"], apart := false, narrowed := true }
def VolumeSectionsUptoSaid : Prop := volumeSectionsUptoRow.holds Try.pinned (OpenSpec.upto volumeSectionsSpec)

/-- 'coupelaw14.VolumeGrows', WHERE WHAT IT READS IS OF BULK AT MOST 1048576: true; the input reads as it did. -/
def volumeGrowsUptoRow : OpenClaim := { program := "ytdimncchejbaaaa", sum := "ae89975647a3d42387157477de9a39ff4f677f050f91617379fee5d91f7a31aa", func := "coupe/coupelaw14.VolumeGrows", spec := "volumeGrows", inPlace := ["math/bits.Add64", "math/bits.Sub64"], unfollowed := true, recurses := true, named := ["math/bits.divideError", "math/bits.overflowError"], apart := false, narrowed := true }
def VolumeGrowsUptoSaid : Prop := volumeGrowsUptoRow.holds Try.pinned (OpenSpec.upto volumeGrowsSpec)

/-- 'coupelaw14.VolumeAdds', WHERE WHAT IT READS IS OF BULK AT MOST 1048576: true; the input reads as it did. -/
def volumeAddsUptoRow : OpenClaim := { program := "ytdimncchejbaaaa", sum := "ae89975647a3d42387157477de9a39ff4f677f050f91617379fee5d91f7a31aa", func := "coupe/coupelaw14.VolumeAdds", spec := "volumeAdds", inPlace := ["math/bits.Add64", "math/bits.Sub64"], unfollowed := true, recurses := true, named := ["math/bits.divideError", "math/bits.overflowError"], apart := false, narrowed := true }
def VolumeAddsUptoSaid : Prop := volumeAddsUptoRow.holds Try.pinned (OpenSpec.upto volumeAddsSpec)

/-- 'coupelaw14.VolumeCylinders', WHERE WHAT IT READS IS OF BULK AT MOST 1048576: true; the input reads as it did. -/
def volumeCylindersUptoRow : OpenClaim := { program := "ytdimncchejbaaaa", sum := "ae89975647a3d42387157477de9a39ff4f677f050f91617379fee5d91f7a31aa", func := "coupe/coupelaw14.VolumeCylinders", spec := "volumeCylinders", inPlace := ["math/bits.Add64", "math/bits.Sub64"], unfollowed := true, recurses := true, named := ["math/bits.divideError", "math/bits.overflowError"], apart := false, narrowed := true }
def VolumeCylindersUptoSaid : Prop := volumeCylindersUptoRow.holds Try.pinned (OpenSpec.upto volumeCylindersSpec)

/-- 'coupelaw14.VolumeMeasured', WHERE WHAT IT READS IS OF BULK AT MOST 1048576: true; the input reads as it did. -/
def volumeMeasuredUptoRow : OpenClaim := { program := "ytdimncchejbaaaa", sum := "ae89975647a3d42387157477de9a39ff4f677f050f91617379fee5d91f7a31aa", func := "coupe/coupelaw14.VolumeMeasured", spec := "volumeMeasured", inPlace := ["math/bits.Add64", "math/bits.Sub64"], unfollowed := true, recurses := true, named := ["math/bits.divideError", "math/bits.overflowError"], apart := false, narrowed := true }
def VolumeMeasuredUptoSaid : Prop := volumeMeasuredUptoRow.holds Try.pinned (OpenSpec.upto volumeMeasuredSpec)

end Rows
end Go.Proofs.Ytdimncchejbaaaa
