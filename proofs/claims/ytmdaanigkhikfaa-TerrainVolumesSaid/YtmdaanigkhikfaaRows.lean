/-
  No cell of these rows narrows 'for every input' (looked for: loops, veiled, ifaces, maps, wideKeys, modest, calm, conditions, laid).
  DERIVED. THE GIVEN ROWS OF THIS SEAT. 8 by the template 'for every input the law returns true; each argument reads behind the call as it read before'; 0 by the template 'total and deterministic' (their statements: YtmdaanigkhikfaaTotals.lean).
  GIVEN WITH THE SEED: the statements are not yours to turn. If you find one false, say at which input.
  Laid BY PROGRAM, IN A SANDBOX (cutbox-rows.mjs): the forced cells as the released guide's own fill.sh prints them over the translation 2d27efab462eb298… (all of the seat's roots in one cut). By AI agents, Wed Nov 11 2026. No macro, syntax, notation, axiom, sorry.
-/
import Derived.Test.YtmdaanigkhikfaaChecked
import GoSem.Claim
import GoSem.ClaimJoined
import GoSem.ClaimMapViews
import Derived.JoinedTies
import Derived.KernelRfl
namespace Go.Proofs.Ytmdaanigkhikfaa
/- THE CELL 'sum', in the pinned program and in every row, IS THE sha256 OF THE DUMP (.gsa) THAT YtmdaanigkhikfaaProg.lean LOADS. Nothing in Lean hashes anything: it is a label: what it is worth is what the hold of that sum in a sandbox is worth. -/
noncomputable def Try.pinned : Pinned := { name := "ytmdaanigkhikfaa", sum := "2d27efab462eb2983d262a03a1fb0be1ba0dfa3a0437105f862e11f4e9c12d98", checked := Try.checked }
namespace Rows
def none {H : Type} : Left H := { results := [], args := [] }

/-- 'coupelaw15.TerrainHeights': WHATEVER THE INPUT: true; the input reads as it did. -/
def terrainHeightsSpec : ChangeSpec := { name := "terrainHeights", fn := fun _ => fun
  | [d1, d2] => { results := [.lit (.bool true)], args := [d1, d2] }
  | _ => none }
def terrainHeightsRow : OpenClaim := { program := "ytmdaanigkhikfaa", sum := "2d27efab462eb2983d262a03a1fb0be1ba0dfa3a0437105f862e11f4e9c12d98", func := "coupe/coupelaw15.TerrainHeights", spec := "terrainHeights", unfollowed := true, recurses := true, apart := false }
def TerrainHeightsSaid : Prop := terrainHeightsRow.holds Try.pinned (OpenSpec.ofChange terrainHeightsSpec)

/-- ITS FALSE NEIGHBOUR: 'it returns false'. Refute it at one input. -/
def terrainHeightsWrong : ChangeSpec := { name := "terrainHeights", fn := fun _ => fun
  | [d1, d2] => { results := [.lit (.bool false)], args := [d1, d2] }
  | _ => none }
def TerrainHeightsWrongFalsely : Prop := terrainHeightsRow.holds Try.pinned (OpenSpec.ofChange terrainHeightsWrong)

/-- 'coupelaw15.TerrainProfiles': WHATEVER THE INPUT: true; the input reads as it did. -/
def terrainProfilesSpec : ChangeSpec := { name := "terrainProfiles", fn := fun _ => fun
  | [d1, d2, d3] => { results := [.lit (.bool true)], args := [d1, d2, d3] }
  | _ => none }
def terrainProfilesRow : OpenClaim := { program := "ytmdaanigkhikfaa", sum := "2d27efab462eb2983d262a03a1fb0be1ba0dfa3a0437105f862e11f4e9c12d98", func := "coupe/coupelaw15.TerrainProfiles", spec := "terrainProfiles", unfollowed := true, recurses := true, apart := false }
def TerrainProfilesSaid : Prop := terrainProfilesRow.holds Try.pinned (OpenSpec.ofChange terrainProfilesSpec)

/-- ITS FALSE NEIGHBOUR: 'it returns false'. Refute it at one input. -/
def terrainProfilesWrong : ChangeSpec := { name := "terrainProfiles", fn := fun _ => fun
  | [d1, d2, d3] => { results := [.lit (.bool false)], args := [d1, d2, d3] }
  | _ => none }
def TerrainProfilesWrongFalsely : Prop := terrainProfilesRow.holds Try.pinned (OpenSpec.ofChange terrainProfilesWrong)

/-- 'coupelaw15.TerrainSlopes': WHATEVER THE INPUT: true; the input reads as it did. -/
def terrainSlopesSpec : ChangeSpec := { name := "terrainSlopes", fn := fun _ => fun
  | [d1, d2, d3] => { results := [.lit (.bool true)], args := [d1, d2, d3] }
  | _ => none }
def terrainSlopesRow : OpenClaim := { program := "ytmdaanigkhikfaa", sum := "2d27efab462eb2983d262a03a1fb0be1ba0dfa3a0437105f862e11f4e9c12d98", func := "coupe/coupelaw15.TerrainSlopes", spec := "terrainSlopes", unfollowed := true, recurses := true, apart := false }
def TerrainSlopesSaid : Prop := terrainSlopesRow.holds Try.pinned (OpenSpec.ofChange terrainSlopesSpec)

/-- ITS FALSE NEIGHBOUR: 'it returns false'. Refute it at one input. -/
def terrainSlopesWrong : ChangeSpec := { name := "terrainSlopes", fn := fun _ => fun
  | [d1, d2, d3] => { results := [.lit (.bool false)], args := [d1, d2, d3] }
  | _ => none }
def TerrainSlopesWrongFalsely : Prop := terrainSlopesRow.holds Try.pinned (OpenSpec.ofChange terrainSlopesWrong)

/-- 'coupelaw15.TerrainWater': WHATEVER THE INPUT: true; the input reads as it did. -/
def terrainWaterSpec : ChangeSpec := { name := "terrainWater", fn := fun _ => fun
  | [d] => { results := [.lit (.bool true)], args := [d] }
  | _ => none }
def terrainWaterRow : OpenClaim := { program := "ytmdaanigkhikfaa", sum := "2d27efab462eb2983d262a03a1fb0be1ba0dfa3a0437105f862e11f4e9c12d98", func := "coupe/coupelaw15.TerrainWater", spec := "terrainWater", unfollowed := true, recurses := true, apart := false }
def TerrainWaterSaid : Prop := terrainWaterRow.holds Try.pinned (OpenSpec.ofChange terrainWaterSpec)

/-- ITS FALSE NEIGHBOUR: 'it returns false'. Refute it at one input. -/
def terrainWaterWrong : ChangeSpec := { name := "terrainWater", fn := fun _ => fun
  | [d] => { results := [.lit (.bool false)], args := [d] }
  | _ => none }
def TerrainWaterWrongFalsely : Prop := terrainWaterRow.holds Try.pinned (OpenSpec.ofChange terrainWaterWrong)

/-- 'coupelaw15.TerrainVolumes': WHATEVER THE INPUT: true; the input reads as it did. -/
def terrainVolumesSpec : ChangeSpec := { name := "terrainVolumes", fn := fun _ => fun
  | [d1, d2] => { results := [.lit (.bool true)], args := [d1, d2] }
  | _ => none }
def terrainVolumesRow : OpenClaim := { program := "ytmdaanigkhikfaa", sum := "2d27efab462eb2983d262a03a1fb0be1ba0dfa3a0437105f862e11f4e9c12d98", func := "coupe/coupelaw15.TerrainVolumes", spec := "terrainVolumes", unfollowed := true, recurses := true, apart := false }
def TerrainVolumesSaid : Prop := terrainVolumesRow.holds Try.pinned (OpenSpec.ofChange terrainVolumesSpec)

/-- ITS FALSE NEIGHBOUR: 'it returns false'. Refute it at one input. -/
def terrainVolumesWrong : ChangeSpec := { name := "terrainVolumes", fn := fun _ => fun
  | [d1, d2] => { results := [.lit (.bool false)], args := [d1, d2] }
  | _ => none }
def TerrainVolumesWrongFalsely : Prop := terrainVolumesRow.holds Try.pinned (OpenSpec.ofChange terrainVolumesWrong)

/-- 'coupelaw15.TerrainBetween': WHATEVER THE INPUT: true; the input reads as it did. -/
def terrainBetweenSpec : ChangeSpec := { name := "terrainBetween", fn := fun _ => fun
  | [d1, d2] => { results := [.lit (.bool true)], args := [d1, d2] }
  | _ => none }
def terrainBetweenRow : OpenClaim := { program := "ytmdaanigkhikfaa", sum := "2d27efab462eb2983d262a03a1fb0be1ba0dfa3a0437105f862e11f4e9c12d98", func := "coupe/coupelaw15.TerrainBetween", spec := "terrainBetween", unfollowed := true, recurses := true, apart := false }
def TerrainBetweenSaid : Prop := terrainBetweenRow.holds Try.pinned (OpenSpec.ofChange terrainBetweenSpec)

/-- ITS FALSE NEIGHBOUR: 'it returns false'. Refute it at one input. -/
def terrainBetweenWrong : ChangeSpec := { name := "terrainBetween", fn := fun _ => fun
  | [d1, d2] => { results := [.lit (.bool false)], args := [d1, d2] }
  | _ => none }
def TerrainBetweenWrongFalsely : Prop := terrainBetweenRow.holds Try.pinned (OpenSpec.ofChange terrainBetweenWrong)

/-- 'coupelaw15.TerrainDown': WHATEVER THE INPUT: true; the input reads as it did. -/
def terrainDownSpec : ChangeSpec := { name := "terrainDown", fn := fun _ => fun
  | [d] => { results := [.lit (.bool true)], args := [d] }
  | _ => none }
def terrainDownRow : OpenClaim := { program := "ytmdaanigkhikfaa", sum := "2d27efab462eb2983d262a03a1fb0be1ba0dfa3a0437105f862e11f4e9c12d98", func := "coupe/coupelaw15.TerrainDown", spec := "terrainDown", unfollowed := true, recurses := true, apart := false }
def TerrainDownSaid : Prop := terrainDownRow.holds Try.pinned (OpenSpec.ofChange terrainDownSpec)

/-- ITS FALSE NEIGHBOUR: 'it returns false'. Refute it at one input. -/
def terrainDownWrong : ChangeSpec := { name := "terrainDown", fn := fun _ => fun
  | [d] => { results := [.lit (.bool false)], args := [d] }
  | _ => none }
def TerrainDownWrongFalsely : Prop := terrainDownRow.holds Try.pinned (OpenSpec.ofChange terrainDownWrong)

/-- 'coupelaw15.TerrainBalances': WHATEVER THE INPUT: true; the input reads as it did. -/
def terrainBalancesSpec : ChangeSpec := { name := "terrainBalances", fn := fun _ => fun
  | [d1, d2] => { results := [.lit (.bool true)], args := [d1, d2] }
  | _ => none }
def terrainBalancesRow : OpenClaim := { program := "ytmdaanigkhikfaa", sum := "2d27efab462eb2983d262a03a1fb0be1ba0dfa3a0437105f862e11f4e9c12d98", func := "coupe/coupelaw15.TerrainBalances", spec := "terrainBalances", unfollowed := true, recurses := true, apart := false }
def TerrainBalancesSaid : Prop := terrainBalancesRow.holds Try.pinned (OpenSpec.ofChange terrainBalancesSpec)

/-- ITS FALSE NEIGHBOUR: 'it returns false'. Refute it at one input. -/
def terrainBalancesWrong : ChangeSpec := { name := "terrainBalances", fn := fun _ => fun
  | [d1, d2] => { results := [.lit (.bool false)], args := [d1, d2] }
  | _ => none }
def TerrainBalancesWrongFalsely : Prop := terrainBalancesRow.holds Try.pinned (OpenSpec.ofChange terrainBalancesWrong)

/- THE SECOND FORM. 'bulk': how many values and letters a reading holds, each counted each time it is reached (what is shared counts as often as it is met; a slice's spare places count too). A statement '..UptoSaid' is the law's where the arguments, and the package variables that the reading takes, are together of bulk at most 1048576: NARROWER than '..Said'. Prove '..Said' where nothing that the law and all that it calls make is longer than what came in: it says more and counts as full. Else prove '..UptoSaid'. A law counts once. -/
mutual
def uptoBulk {H : Type} : DataW H → Nat
  | .lit (.string bytes) => bytes.length + 1
  | .lit _ => 1
  | .nil => 1
  | .ptr d => uptoBulk d + 1
  | .slice elems spare => uptoBulkAll elems + uptoBulkAll spare + 1
  | .agg parts => uptoBulkAll parts + 1
  | .iface _ d => uptoBulk d + 1
  | .map entries => uptoBulkEntries entries + 1
  | .held _ => 1
def uptoBulkAll {H : Type} : List (DataW H) → Nat
  | [] => 0
  | d :: r => uptoBulk d + uptoBulkAll r
def uptoBulkEntries {H : Type} : List (Lit × DataW H) → Nat
  | [] => 0
  | x :: r => uptoBulkEntry x + uptoBulkEntries r
def uptoBulkEntry {H : Type} : Lit × DataW H → Nat
  | (.string bytes, d) => bytes.length + uptoBulk d + 1
  | (_, d) => uptoBulk d + 1
 end
def uptoSmall : (H : Type) → List (DataW H) → Bool := fun _ ds => decide (uptoBulkAll ds ≤ 1048576)
def OpenSpec.upto (s : _root_.Go.ChangeSpec) : _root_.Go.OpenSpec := { _root_.Go.OpenSpec.ofChange s with cond := some uptoSmall }

/-- 'coupelaw15.TerrainHeights', WHERE WHAT IT READS IS OF BULK AT MOST 1048576: true; the input reads as it did. -/
def terrainHeightsUptoRow : OpenClaim := { program := "ytmdaanigkhikfaa", sum := "2d27efab462eb2983d262a03a1fb0be1ba0dfa3a0437105f862e11f4e9c12d98", func := "coupe/coupelaw15.TerrainHeights", spec := "terrainHeights", unfollowed := true, recurses := true, apart := false, narrowed := true }
def TerrainHeightsUptoSaid : Prop := terrainHeightsUptoRow.holds Try.pinned (OpenSpec.upto terrainHeightsSpec)

/-- 'coupelaw15.TerrainProfiles', WHERE WHAT IT READS IS OF BULK AT MOST 1048576: true; the input reads as it did. -/
def terrainProfilesUptoRow : OpenClaim := { program := "ytmdaanigkhikfaa", sum := "2d27efab462eb2983d262a03a1fb0be1ba0dfa3a0437105f862e11f4e9c12d98", func := "coupe/coupelaw15.TerrainProfiles", spec := "terrainProfiles", unfollowed := true, recurses := true, apart := false, narrowed := true }
def TerrainProfilesUptoSaid : Prop := terrainProfilesUptoRow.holds Try.pinned (OpenSpec.upto terrainProfilesSpec)

/-- 'coupelaw15.TerrainSlopes', WHERE WHAT IT READS IS OF BULK AT MOST 1048576: true; the input reads as it did. -/
def terrainSlopesUptoRow : OpenClaim := { program := "ytmdaanigkhikfaa", sum := "2d27efab462eb2983d262a03a1fb0be1ba0dfa3a0437105f862e11f4e9c12d98", func := "coupe/coupelaw15.TerrainSlopes", spec := "terrainSlopes", unfollowed := true, recurses := true, apart := false, narrowed := true }
def TerrainSlopesUptoSaid : Prop := terrainSlopesUptoRow.holds Try.pinned (OpenSpec.upto terrainSlopesSpec)

/-- 'coupelaw15.TerrainWater', WHERE WHAT IT READS IS OF BULK AT MOST 1048576: true; the input reads as it did. -/
def terrainWaterUptoRow : OpenClaim := { program := "ytmdaanigkhikfaa", sum := "2d27efab462eb2983d262a03a1fb0be1ba0dfa3a0437105f862e11f4e9c12d98", func := "coupe/coupelaw15.TerrainWater", spec := "terrainWater", unfollowed := true, recurses := true, apart := false, narrowed := true }
def TerrainWaterUptoSaid : Prop := terrainWaterUptoRow.holds Try.pinned (OpenSpec.upto terrainWaterSpec)

/-- 'coupelaw15.TerrainVolumes', WHERE WHAT IT READS IS OF BULK AT MOST 1048576: true; the input reads as it did. -/
def terrainVolumesUptoRow : OpenClaim := { program := "ytmdaanigkhikfaa", sum := "2d27efab462eb2983d262a03a1fb0be1ba0dfa3a0437105f862e11f4e9c12d98", func := "coupe/coupelaw15.TerrainVolumes", spec := "terrainVolumes", unfollowed := true, recurses := true, apart := false, narrowed := true }
def TerrainVolumesUptoSaid : Prop := terrainVolumesUptoRow.holds Try.pinned (OpenSpec.upto terrainVolumesSpec)

/-- 'coupelaw15.TerrainBetween', WHERE WHAT IT READS IS OF BULK AT MOST 1048576: true; the input reads as it did. -/
def terrainBetweenUptoRow : OpenClaim := { program := "ytmdaanigkhikfaa", sum := "2d27efab462eb2983d262a03a1fb0be1ba0dfa3a0437105f862e11f4e9c12d98", func := "coupe/coupelaw15.TerrainBetween", spec := "terrainBetween", unfollowed := true, recurses := true, apart := false, narrowed := true }
def TerrainBetweenUptoSaid : Prop := terrainBetweenUptoRow.holds Try.pinned (OpenSpec.upto terrainBetweenSpec)

/-- 'coupelaw15.TerrainDown', WHERE WHAT IT READS IS OF BULK AT MOST 1048576: true; the input reads as it did. -/
def terrainDownUptoRow : OpenClaim := { program := "ytmdaanigkhikfaa", sum := "2d27efab462eb2983d262a03a1fb0be1ba0dfa3a0437105f862e11f4e9c12d98", func := "coupe/coupelaw15.TerrainDown", spec := "terrainDown", unfollowed := true, recurses := true, apart := false, narrowed := true }
def TerrainDownUptoSaid : Prop := terrainDownUptoRow.holds Try.pinned (OpenSpec.upto terrainDownSpec)

/-- 'coupelaw15.TerrainBalances', WHERE WHAT IT READS IS OF BULK AT MOST 1048576: true; the input reads as it did. -/
def terrainBalancesUptoRow : OpenClaim := { program := "ytmdaanigkhikfaa", sum := "2d27efab462eb2983d262a03a1fb0be1ba0dfa3a0437105f862e11f4e9c12d98", func := "coupe/coupelaw15.TerrainBalances", spec := "terrainBalances", unfollowed := true, recurses := true, apart := false, narrowed := true }
def TerrainBalancesUptoSaid : Prop := terrainBalancesUptoRow.holds Try.pinned (OpenSpec.upto terrainBalancesSpec)

end Rows
end Go.Proofs.Ytmdaanigkhikfaa
