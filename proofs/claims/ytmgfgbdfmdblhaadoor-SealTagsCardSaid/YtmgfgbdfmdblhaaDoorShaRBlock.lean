/-
  THE CONTRACT OF THE REFERENCE's Block.
-/
import Derived.Test.YtmgfgbdfmdblhaaDoorShaRoots
import Derived.Deep.RegionHeld3
namespace Go.Proofs.YtmgfgbdfmdblhaaDoor.sha
open Go.RowKit Go.Proofs.YtmgfgbdfmdblhaaDoor.octets
set_option linter.unusedVariables false
end Go.Proofs.YtmgfgbdfmdblhaaDoor.sha
