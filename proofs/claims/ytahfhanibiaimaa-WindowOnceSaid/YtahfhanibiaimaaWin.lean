/-
  WINDOWS AS VALUES, their '=='; what is asked of the code's See; the head of the statements of window.
-/
import Derived.Test.YtahfhanibiaimaaWinMath
import Derived.Test.YtahfhanibiaimaaStructEq
import Derived.Laws.Bits64b
namespace Go.Proofs.Ytahfhanibiaimaa.window
open Go.RowKit Go.Proofs.Ytahfhanibiaimaa.octets
set_option linter.unusedVariables false
set_option linter.unusedSimpArgs false

def wv (w : Win) : List Value := [.bool w.any, .int .i64 w.high, .int .u64 (w.seen : Int)]
theorem wv_one (w : Win) : ∀ v ∈ wv w, v.oneCell' = true := by
  intro v hv
  simp only [wv, List.mem_cons, List.not_mem_nil, or_false] at hv
  rcases hv with rfl | rfl | rfl <;> rfl
theorem run_win (x y : Win) (W : World) : (Op.equalIn 10000 27 (.agg (wv x).toArray) (.agg (wv y).toArray)).run Try.prog W = .ok (decide (x = y)) W := by
  have h := run_equalIn_fields (d := 9999) (t := 27) (xs := (wv x).toArray) (ys := (wv y).toArray) (W := W)
    [(4, 0), (3, 1), (25, 2)] [x.any == y.any, x.high == y.high, (x.seen : Int) == (y.seen : Int)]
    (by kernel_rfl) (by kernel_rfl) (by kernel_rfl)
    ⟨EqStep.bool Try.underlying4 rfl rfl, EqStep.int Try.underlying3 rfl rfl, EqStep.int (k := .u64) Try.underlying25 rfl rfl, trivial⟩
  rw [h]
  congr 1
  obtain ⟨a, b, c⟩ := x
  obtain ⟨a', b', c'⟩ := y
  rw [Bool.eq_iff_iff, decide_eq_true_eq]
  simp
  omega
theorem eql_win (x y : Win) (W : World) : (binOp .eql 27 (.agg (wv x).toArray) (.agg (wv y).toArray)).run Try.prog W = .ok (.bool (decide (x = y))) W := by rw [run_eql_struct, run_win]; rfl
theorem neq_win (x y : Win) (W : World) : (binOp .neq 27 (.agg (wv x).toArray) (.agg (wv y).toArray)).run Try.prog W = .ok (.bool (!decide (x = y))) W := by rw [run_neq_struct, run_win]; rfl
/-- what is asked of the code -/
structure CodeOk : Prop where
  see : ∀ (w : Win) (n : Int) (W : World), okW w → -4294967296 ≤ n → n ≤ 8589934591 → Calls Try.prog 6 #[.agg (wv w).toArray, .int .i64 n] W fun e W' => e = .returned (.tuple #[.agg (wv (see w n).1).toArray, .bool (see w n).2]) ∧ Below W.heap.size W W'
/-- the same, the answer told ahead -/
theorem CodeOk.see_at (H : CodeOk) (w v : Win) (n : Int) (ok : Bool) (W : World) (hw : okW w) (h1 : -4294967296 ≤ n) (h2 : n ≤ 8589934591) (he : window.see w n = (v, ok)) :
    Calls Try.prog 6 #[.agg (wv w).toArray, .int .i64 n] W fun e W' => e = .returned (.tuple #[.agg (wv v).toArray, .bool ok]) ∧ Below W.heap.size W W' := by
  have := H.see w n W hw h1 h2
  rw [he] at this
  exact this
theorem bit0 {n : Nat} (h : n < max64) : bits BinOp.and IntKind.u64 (n : Int) 1 = ((n % 2 : Nat) : Int) := by
  have e := bits_and_u64_nat n 1 (by unfold max64 at h; omega) (by decide)
  rw [show ((1 : Nat) : Int) = 1 from rfl, Nat.and_one_is_mod] at e
  exact e
theorem below_new (w : World) (o : Obj) : Below w.heap.size w (w.alloc o) := (Below.refl _ _).alloc (Nat.le_refl _) _
theorem new_win (w : World) (t : TypeId) : Arr (w.alloc (.cells #[.bool false, .int .i64 0, .int .u64 0] t)) w.heap.size (wv zW) := Arr.new_at w (wv zW) _ t rfl
set_option maxRecDepth 100000 in
set_option maxHeartbeats 1000000 in
theorem shown_any (H : CodeOk) (w : World) : Calls Try.prog 5 #[] w fun e w' => e = .returned (.bool true) ∧ Below w.heap.size w w' := by
  have k1 : ∀ W, Calls Try.prog 6 #[.agg #[.bool false, .int .i64 0, .int .u64 0], .int .i64 5] W fun e W' => e = .returned (.tuple #[.agg #[.bool true, .int .i64 5, .int .u64 1], .bool true]) ∧ Below W.heap.size W W' := fun W => H.see_at ⟨false, 0, 0⟩ ⟨true, 5, 1⟩ 5 true W ⟨by decide, by decide, by decide⟩ (by decide) (by decide) (by decide)
  have k2 : ∀ W, Calls Try.prog 6 #[.agg #[.bool true, .int .i64 5, .int .u64 1], .int .i64 7] W fun e W' => e = .returned (.tuple #[.agg #[.bool true, .int .i64 7, .int .u64 5], .bool true]) ∧ Below W.heap.size W W' := fun W => H.see_at ⟨true, 5, 1⟩ ⟨true, 7, 5⟩ 7 true W ⟨by decide, by decide, by decide⟩ (by decide) (by decide) (by decide)
  have k3 : ∀ W, Calls Try.prog 6 #[.agg #[.bool true, .int .i64 7, .int .u64 5], .int .i64 6] W fun e W' => e = .returned (.tuple #[.agg #[.bool true, .int .i64 7, .int .u64 7], .bool true]) ∧ Below W.heap.size W W' := fun W => H.see_at ⟨true, 7, 5⟩ ⟨true, 7, 7⟩ 6 true W ⟨by decide, by decide, by decide⟩ (by decide) (by decide) (by decide)
  have k4 : ∀ W, Calls Try.prog 6 #[.agg #[.bool true, .int .i64 7, .int .u64 5], .int .i64 7] W fun e W' => e = .returned (.tuple #[.agg #[.bool true, .int .i64 7, .int .u64 5], .bool false]) ∧ Below W.heap.size W W' := fun W => H.see_at ⟨true, 7, 5⟩ ⟨true, 7, 5⟩ 7 false W ⟨by decide, by decide, by decide⟩ (by decide) (by decide) (by decide)
  have e1 : ∀ W, (binOp .eql 27 (.agg #[.bool true, .int .i64 7, .int .u64 5]) (.agg #[.bool true, .int .i64 7, .int .u64 5])).run Try.prog W = .ok (.bool true) W := fun W => eql_win ⟨true, 7, 5⟩ ⟨true, 7, 5⟩ W
  replace k1 := Lib.hid k1
  replace k2 := Lib.hid k2
  replace k3 := Lib.hid k3
  replace k4 := Lib.hid k4
  go_enter Try.func5, Try.ntmps5
  go_wp2_with fail
  refine (k1.out _).mono ?_
  rintro e w1 ⟨rfl, hb1⟩
  go_wp2_with fail
  refine (k2.out _).mono ?_
  rintro e w2 ⟨rfl, hb2⟩
  have hw1 := hb1.alloc hb1.size (.cells #[.bool true, .int .i64 5, .int .u64 1] 27)
  have hw2 := hw1.trans (hb2.mono hw1.size)
  have hA2 := Arr.new_at w2 (wv ⟨true, 7, 5⟩) #[.bool true, .int .i64 7, .int .u64 5] 27 rfl
  have hw3 := hw2.alloc hw2.size (.cells #[.bool true, .int .i64 7, .int .u64 5] 27)
  clear hb1 hw1 hb2
  go_wp2_with fail
  refine (k3.out _).mono ?_
  rintro e w4 ⟨rfl, hb4⟩
  have hA4 := (hA2.since hb4).alloc (.cells #[.bool true, .int .i64 7, .int .u64 7] 27)
  have hw4 := hw3.trans (hb4.mono hw3.size)
  have hw5 := hw4.alloc hw4.size (.cells #[.bool true, .int .i64 7, .int .u64 7] 27)
  have c0 := hA4.cell (i := 0) rfl
  have c1 := hA4.cell (i := 1) rfl
  have c2 := hA4.cell (i := 2) rfl
  clear hw3 hb4 hw4 hA2
  go_wp2_with fail
  refine (k4.out _).mono ?_
  rintro e w6 ⟨rfl, hb6⟩
  have hA6 := (hA4.since hb6).alloc (.cells #[.bool true, .int .i64 7, .int .u64 5] 27)
  have hw6 := hw5.trans (hb6.mono hw5.size)
  have hw7 := hw6.alloc hw6.size (.cells #[.bool true, .int .i64 7, .int .u64 5] 27)
  clear c0 c1 c2
  have c0 := hA6.cell (i := 0) rfl
  have c1 := hA6.cell (i := 1) rfl
  have c2 := hA6.cell (i := 2) rfl
  clear hA4 hw5 hb6 hw6
  go_wp2
  go_ret
  exact ⟨rfl, hw7⟩
end Go.Proofs.Ytahfhanibiaimaa.window
