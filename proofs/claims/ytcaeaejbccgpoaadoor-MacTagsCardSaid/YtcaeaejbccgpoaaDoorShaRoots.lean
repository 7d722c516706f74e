/-
  THE CONTRACTS OF Start, and of the reference's roots.
-/
import Derived.Test.YtcaeaejbccgpoaaDoorShaBlock
namespace Go.Proofs.YtcaeaejbccgpoaaDoor.sha
open Go.RowKit Go.Proofs.YtcaeaejbccgpoaaDoor.octets
set_option linter.unusedVariables false
def z64 : List Value := List.replicate 64 (.int .u32 0)
set_option maxRecDepth 100000 in
set_option maxHeartbeats 2000000 in
theorem rroots_ok (w : World) : Calls Tryd.prog 32 #[] w fun e w' => e = .returned (.agg (cells32 roots).toArray) ∧ Below w.heap.size w w' := by
  have hX := Arr.new w z64 46
  have hw1 : Below w.heap.size w (w.alloc (.cells z64.toArray 46)) := by go_grown
  go_enter Tryd.func32, Tryd.ntmps32
  go_wp2_with (guard_target =~ wpList _ _ _ (Oper.mk _ (Op.store _ _ _) _ _ _ _ :: _) _ _; refine wpList_store_arr (cs' := cells32 roots) 64 rfl rfl rfl rfl hX (by kernel_rfl) rfl rfl (cells32_one _) ?_)
  intro w2 hX2 ho2 hb2 hs2
  have hw2 := hw1.trans hb2
  clear hX hw1 ho2 hb2 hs2
  go_wp2
  exact ret_arr rfl w.heap.size _ _ rfl hX2 Tryd.underlying46 rfl (by kernel_rfl) rfl ⟨rfl, hw2⟩
set_option maxHeartbeats 400000 in
theorem start_ok (w : World) : Calls Tryd.prog 19 #[] w fun e w' => e = .returned (.agg (cells32 start).toArray) ∧ Below w.heap.size w w' := by
  go_enter Tryd.func19, Tryd.ntmps19
  go_wp2
  go_returns
  exact ⟨rfl, by go_grown⟩
set_option maxHeartbeats 400000 in
theorem rstart_ok (w : World) : Calls Tryd.prog 25 #[] w fun e w' => e = .returned (.agg (cells32 start).toArray) ∧ Below w.heap.size w w' := by
  go_enter Tryd.func25, Tryd.ntmps25
  go_wp2
  go_returns
  exact ⟨rfl, by go_grown⟩
end Go.Proofs.YtcaeaejbccgpoaaDoor.sha
