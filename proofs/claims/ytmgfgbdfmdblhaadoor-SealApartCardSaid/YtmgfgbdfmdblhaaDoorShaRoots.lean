/-
  THE CONTRACTS OF Start, and of the reference's roots.
-/
import Derived.Test.YtmgfgbdfmdblhaaDoorShaBlock
namespace Go.Proofs.YtmgfgbdfmdblhaaDoor.sha
open Go.RowKit Go.Proofs.YtmgfgbdfmdblhaaDoor.octets
set_option linter.unusedVariables false
def z64 : List Value := List.replicate 64 (.int .u32 0)
set_option maxHeartbeats 400000 in
theorem start_ok (w : World) : Calls Tryd.prog 25 #[] w fun e w' => e = .returned (.agg (cells32 start).toArray) ∧ Below w.heap.size w w' := by
  go_enter Tryd.func25, Tryd.ntmps25
  go_wp2
  go_returns
  exact ⟨rfl, by go_grown⟩
end Go.Proofs.YtmgfgbdfmdblhaaDoor.sha
