/-
  The functions of package fraction, each by a contract: limited.
-/
import Derived.Test.YtmdaanigkhikfabFspec
import Derived.Test.YtmdaanigkhikfabFcode
import Derived.Test.YtmdaanigkhikfabWquo
import Derived.Test.YtmdaanigkhikfabWcmp
import Derived.Test.YtmdaanigkhikfabWint
import Derived.Deep.DeepCutAuto
import Derived.Deep.RegionHeld3
import Derived.Deep.QuietTactic
import Derived.BigQuiet
namespace Go.Proofs.Ytmdaanigkhikfab
open Go.RowKit
set_option linter.unusedVariables false
set_option linter.unusedSimpArgs false

theorem fbcell {W w1 : World} (hb : Below W.heap.size W w1) : (∀ b o, b < W.heap.size → w1.cell? ⟨b, o, none⟩ = W.cell? ⟨b, o, none⟩) ∧ (∀ b o, b < W.heap.size → w1.frozen? ⟨b, o, none⟩ = W.frozen? ⟨b, o, none⟩) :=
  ⟨fun b o h => hb.cell (p := ⟨b, o, none⟩) h, fun b o h => hb.frozen (p := ⟨b, o, none⟩) h⟩
end Go.Proofs.Ytmdaanigkhikfab
