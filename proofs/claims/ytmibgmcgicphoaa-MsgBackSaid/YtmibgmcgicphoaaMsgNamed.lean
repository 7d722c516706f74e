/-
  CONTRACTS OF msg's reference: named, replies, fits, Fit, FitReply.
-/
import Derived.Test.YtmibgmcgicphoaaMsgRef
namespace Go.Proofs.Ytmibgmcgicphoaa.msg
open Go.RowKit Go.Proofs.Ytmibgmcgicphoaa.octets Go.Proofs.Ytmibgmcgicphoaa.pack
set_option linter.unusedVariables false
set_option linter.unusedSimpArgs false

theorem arr_mid (w : World) (o1 o3 : Obj) (cs : List Value) (C : Array Value) (t : TypeId) (e : C = cs.toArray) : Arr (((w.alloc o1).alloc (.cells C t)).alloc o3) (w.heap.size + 1) cs := by
  have := (Arr.new_at (w.alloc o1) cs C t e).alloc o3
  rw [World.size_alloc] at this
  exact this
theorem below3 (w : World) (o1 o2 o3 : Obj) : Below w.heap.size w (((w.alloc o1).alloc o2).alloc o3) := ((below_new w o1).alloc (by simp) o2).alloc (by simp; omega) o3

set_option maxRecDepth 100000 in
set_option maxHeartbeats 2000000 in
theorem named_ok (m : M) (w : World) : Calls Try.prog 24 #[.agg (mv m).toArray] w fun e w' => e = .returned (.agg (mv (namedM m)).toArray) ∧ Below w.heap.size w w' := by
  obtain ⟨kind, seq, role, to_, epoch, mode, cls, now, x0, x1, x2, x3⟩ := m
  by_cases hk : kind = 1 ∨ kind = 2 ∨ kind = 5 ∨ kind = 6 ∨ kind = 7 ∨ kind = 10 ∨ kind = 11
  · rcases hk with rfl | rfl | rfl | rfl | rfl | rfl | rfl
    all_goals
      simp only [namedM, mv, zM]
      go_enter Try.func24, Try.ntmps24
      go_wp2
      exact ret_arr rfl (w.heap.size + 1) _ _ rfl (arr_mid w _ _ _ _ _ rfl) Try.underlying24 rfl (by kernel_rfl) rfl ⟨rfl, below3 _ _ _ _⟩
  · have h1 : ¬ kind = 1 := by omega
    have h2 : ¬ kind = 2 := by omega
    have h5 : ¬ kind = 5 := by omega
    have h6 : ¬ kind = 6 := by omega
    have h7 : ¬ kind = 7 := by omega
    have h10 : ¬ kind = 10 := by omega
    have h11 : ¬ kind = 11 := by omega
    clear hk
    simp only [namedM, mv, zM, h1, h2, h5, h6, h7, h10, h11, or_self, if_false]
    go_enter Try.func24, Try.ntmps24
    go_wp2
    exact ret_arr rfl (w.heap.size + 1) _ _ rfl (arr_mid w _ _ _ _ _ rfl) Try.underlying24 rfl (by kernel_rfl) rfl ⟨rfl, below3 _ _ _ _⟩
end Go.Proofs.Ytmibgmcgicphoaa.msg
