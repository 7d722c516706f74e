/-
  THE WALK OF 'shown' of layer 2: the document's examples.
-/
import Derived.Test.YteeclciaifkneaaPack
namespace Go.Proofs.Yteeclciaifkneaa.pack
open Go.RowKit Go.Proofs.Yteeclciaifkneaa.octets

set_option maxHeartbeats 400000 in
theorem shown_any (w : World) :
    Calls Try.prog 8 #[] w fun e w' => e = .returned (.bool true) ∧ Below w.heap.size w w' := by
  go_enter Try.func8, Try.ntmps8
  go_wp2_with fail
  (with_reducible refine (put_at 258 3 258 3 _ (by decide) (by decide) (by decide) (by decide)).mono ?_)
  rintro e w1 ⟨b1, rfl, hb1, hr1, hw1⟩
  have e1 : octs 3 258 = [0, 1, 2] := by decide
  rw [e1] at hr1 ⊢
  go_wp2_with fail
  (with_reducible refine (putInt_ok (-2) _ (by decide) (by decide)).mono ?_)
  rintro e w2 ⟨b2, rfl, hb2, hr2, hw2⟩
  have e2 : octs 2 (sign (-2)) = [255, 254] := by decide
  rw [e2] at hr2 ⊢
  have c1 := (hr1.since hw2).str 3 rfl _ rfl
  have c2 := hr2.str 2 rfl _ rfl
  clear e1 e2
  go_wp2
  go_ret
  exact ⟨rfl, hw1.trans (hw2.mono hw1.size)⟩
end Go.Proofs.Yteeclciaifkneaa.pack
