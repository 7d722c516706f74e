/-
  THE CONTRACTS OF the document's Of and Tag.
-/
import Derived.Test.YtmgfgbdfmdblhaaDoorMacTag
namespace Go.Proofs.YtmgfgbdfmdblhaaDoor.mac
open Go.RowKit Go.Proofs.YtmgfgbdfmdblhaaDoor.octets Go.Proofs.YtmgfgbdfmdblhaaDoor.sha Go.Proofs.YtmgfgbdfmdblhaaDoor.given
set_option linter.unusedVariables false
set_option linter.unusedSimpArgs false

end Go.Proofs.YtmgfgbdfmdblhaaDoor.mac
