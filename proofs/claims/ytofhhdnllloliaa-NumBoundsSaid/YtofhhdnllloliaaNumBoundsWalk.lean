/-
  THE WALK OF 'NumBounds': the order of the two bounds, and where the number stands, are parted ahead of it.
-/
import Derived.Test.YtofhhdnllloliaaNum
namespace Go.Proofs.Ytofhhdnllloliaa.walks
set_option linter.unusedVariables false
open Go.ChangeShapes Go.WideShapes Go.ChangeAt Go.RowKit Go.Proofs.Ytofhhdnllloliaa.num

theorem i64_of {n : Int} (h : (Lit.int .i64 n).wf = true) : I64 n := by
  simpa [I64, Lit.wf, IntKind.min, IntKind.max, IntKind.signed, IntKind.bits] using h

theorem clamp_lo {n l h : Int} (h1 : n < l) : clamp n l h = l := by unfold clamp; rw [if_pos h1]
theorem clamp_hi {n l h : Int} (h1 : l ≤ n) (h2 : h < n) : clamp n l h = h := by unfold clamp; rw [if_neg (by omega), if_pos h2]
theorem clamp_in {n l h : Int} (h1 : l ≤ n) (h2 : n ≤ h) : clamp n l h = n := by unfold clamp; rw [if_neg (by omega), if_neg (by omega)]
theorem sat_up {n m : Int} (h : n < m) : sat n m = n + 1 := by unfold sat; rw [if_pos h]
theorem sat_no {n m : Int} (h : m ≤ n) : sat n m = m := by unfold sat; rw [if_neg (by omega)]
theorem eqb (a b : Int) (h : a = b) : (a == b) = true := by simp [h]
theorem neb (a b : Int) (h : a ≠ b) : (a == b) = false := by simp [h]
theorem step_one (n : Int) (h : I64 n) : (wrap64 (n + 1 - n) == 1) = true := by
  rw [show n + 1 - n = 1 by omega]; unfold wrap64; simp

set_option maxRecDepth 100000 in
set_option maxHeartbeats 1000000 in
theorem b_lt_lo (a0 a1 a2 x s : Int) (w : World) (c0 : Hid (I64 a0)) (c1 : Hid (I64 a1)) (c2 : Hid (I64 a2))
    (hm : (if a2 < a1 then a2 else a1) = a1) (hM : (if a2 > a1 then a2 else a1) = a2)
    (hx : Hid (clamp a0 a1 a2 = x)) (hx2 : Hid (clamp x a1 a2 = x)) (hs : Hid (sat a0 a2 = s))
    (t1 : decide (a1 ≤ x) = true) (t2 : decide (x ≤ a2) = true) (t10 : decide (s ≤ a2) = true)
    (t3 : decide (a0 < a1) = true) (t6 : decide (a1 ≤ a0) = false) (t7 : (x == a1) = true) (t8 : decide (a0 ≤ a2) = true) (t11 : decide (a2 ≤ a0) = false) (t12 : decide (a0 < s) = true) (t13 : (wrap64 (s - a0) == 1) = true) :
    Calls Try.prog 4 #[.int .i64 a0, .int .i64 a1, .int .i64 a2] w fun e w' => e = .returned (.bool true) ∧ Grown w w' := by
  have st := Lib.hid (sat_no (Int.le_refl a2))
  go_enter Try.func4, Try.ntmps4
  try dsimp only [List.append]
  go_wp2_with fail
  refine (shown_any _).mono ?_; rintro e w' ⟨rfl, rfl⟩
  go_wp2_with fail
  clear hm hM
  (with_reducible refine (clamp_is _ _ _ _ _ hx.out).mono ?_); rintro e w' ⟨rfl, rfl⟩
  go_wp2_with fail
  (with_reducible refine (sat_is _ _ _ _ c0.out c2.out hs.out).mono ?_); rintro e w' ⟨rfl, rfl⟩
  go_wp2_with fail
  (with_reducible refine (clamp_is _ _ _ _ _ hx2.out).mono ?_); rintro e w' ⟨rfl, rfl⟩
  go_wp2_with fail
  (with_reducible refine (sat_is _ _ _ _ c2.out c2.out st.out).mono ?_); rintro e w' ⟨rfl, rfl⟩
  go_wp2
  go_ret
  exact ⟨rfl, by repeat (first | exact Grown.refl _ | apply Grown.drew | apply Grown.alloc)⟩

set_option maxRecDepth 100000 in
set_option maxHeartbeats 1000000 in
theorem b_lt_in (a0 a1 a2 x s : Int) (w : World) (c0 : Hid (I64 a0)) (c1 : Hid (I64 a1)) (c2 : Hid (I64 a2))
    (hm : (if a2 < a1 then a2 else a1) = a1) (hM : (if a2 > a1 then a2 else a1) = a2)
    (hx : Hid (clamp a0 a1 a2 = x)) (hx2 : Hid (clamp x a1 a2 = x)) (hs : Hid (sat a0 a2 = s))
    (t1 : decide (a1 ≤ x) = true) (t2 : decide (x ≤ a2) = true) (t10 : decide (s ≤ a2) = true)
    (t3 : decide (a0 < a1) = false) (t4 : decide (a2 < a0) = false) (t5 : (x == a0) = true) (t6 : decide (a1 ≤ a0) = true) (t8 : decide (a0 ≤ a2) = true) (t11 : decide (a2 ≤ a0) = false) (t12 : decide (a0 < s) = true) (t13 : (wrap64 (s - a0) == 1) = true) :
    Calls Try.prog 4 #[.int .i64 a0, .int .i64 a1, .int .i64 a2] w fun e w' => e = .returned (.bool true) ∧ Grown w w' := by
  have st := Lib.hid (sat_no (Int.le_refl a2))
  go_enter Try.func4, Try.ntmps4
  try dsimp only [List.append]
  go_wp2_with fail
  refine (shown_any _).mono ?_; rintro e w' ⟨rfl, rfl⟩
  go_wp2_with fail
  clear hm hM
  (with_reducible refine (clamp_is _ _ _ _ _ hx.out).mono ?_); rintro e w' ⟨rfl, rfl⟩
  go_wp2_with fail
  (with_reducible refine (sat_is _ _ _ _ c0.out c2.out hs.out).mono ?_); rintro e w' ⟨rfl, rfl⟩
  go_wp2_with fail
  (with_reducible refine (clamp_is _ _ _ _ _ hx2.out).mono ?_); rintro e w' ⟨rfl, rfl⟩
  go_wp2_with fail
  (with_reducible refine (sat_is _ _ _ _ c2.out c2.out st.out).mono ?_); rintro e w' ⟨rfl, rfl⟩
  go_wp2
  go_ret
  exact ⟨rfl, by repeat (first | exact Grown.refl _ | apply Grown.drew | apply Grown.alloc)⟩

set_option maxRecDepth 100000 in
set_option maxHeartbeats 1000000 in
theorem b_lt_at (a0 a1 a2 x s : Int) (w : World) (c0 : Hid (I64 a0)) (c1 : Hid (I64 a1)) (c2 : Hid (I64 a2))
    (hm : (if a2 < a1 then a2 else a1) = a1) (hM : (if a2 > a1 then a2 else a1) = a2)
    (hx : Hid (clamp a0 a1 a2 = x)) (hx2 : Hid (clamp x a1 a2 = x)) (hs : Hid (sat a0 a2 = s))
    (t1 : decide (a1 ≤ x) = true) (t2 : decide (x ≤ a2) = true) (t10 : decide (s ≤ a2) = true)
    (t3 : decide (a0 < a1) = false) (t4 : decide (a2 < a0) = false) (t5 : (x == a0) = true) (t6 : decide (a1 ≤ a0) = true) (t8 : decide (a0 ≤ a2) = true) (t11 : decide (a2 ≤ a0) = true) :
    Calls Try.prog 4 #[.int .i64 a0, .int .i64 a1, .int .i64 a2] w fun e w' => e = .returned (.bool true) ∧ Grown w w' := by
  have st := Lib.hid (sat_no (Int.le_refl a2))
  go_enter Try.func4, Try.ntmps4
  try dsimp only [List.append]
  go_wp2_with fail
  refine (shown_any _).mono ?_; rintro e w' ⟨rfl, rfl⟩
  go_wp2_with fail
  clear hm hM
  (with_reducible refine (clamp_is _ _ _ _ _ hx.out).mono ?_); rintro e w' ⟨rfl, rfl⟩
  go_wp2_with fail
  (with_reducible refine (sat_is _ _ _ _ c0.out c2.out hs.out).mono ?_); rintro e w' ⟨rfl, rfl⟩
  go_wp2_with fail
  (with_reducible refine (clamp_is _ _ _ _ _ hx2.out).mono ?_); rintro e w' ⟨rfl, rfl⟩
  go_wp2_with fail
  (with_reducible refine (sat_is _ _ _ _ c2.out c2.out st.out).mono ?_); rintro e w' ⟨rfl, rfl⟩
  go_wp2
  go_ret
  exact ⟨rfl, by repeat (first | exact Grown.refl _ | apply Grown.drew | apply Grown.alloc)⟩

set_option maxRecDepth 100000 in
set_option maxHeartbeats 1000000 in
theorem b_lt_hi (a0 a1 a2 x s : Int) (w : World) (c0 : Hid (I64 a0)) (c1 : Hid (I64 a1)) (c2 : Hid (I64 a2))
    (hm : (if a2 < a1 then a2 else a1) = a1) (hM : (if a2 > a1 then a2 else a1) = a2)
    (hx : Hid (clamp a0 a1 a2 = x)) (hx2 : Hid (clamp x a1 a2 = x)) (hs : Hid (sat a0 a2 = s))
    (t1 : decide (a1 ≤ x) = true) (t2 : decide (x ≤ a2) = true) (t10 : decide (s ≤ a2) = true)
    (t3 : decide (a0 < a1) = false) (t4 : decide (a2 < a0) = true) (t6 : decide (a1 ≤ a0) = true) (t8 : decide (a0 ≤ a2) = false) (t9 : (x == a2) = true) (t11 : decide (a2 ≤ a0) = true) :
    Calls Try.prog 4 #[.int .i64 a0, .int .i64 a1, .int .i64 a2] w fun e w' => e = .returned (.bool true) ∧ Grown w w' := by
  have st := Lib.hid (sat_no (Int.le_refl a2))
  go_enter Try.func4, Try.ntmps4
  try dsimp only [List.append]
  go_wp2_with fail
  refine (shown_any _).mono ?_; rintro e w' ⟨rfl, rfl⟩
  go_wp2_with fail
  clear hm hM
  (with_reducible refine (clamp_is _ _ _ _ _ hx.out).mono ?_); rintro e w' ⟨rfl, rfl⟩
  go_wp2_with fail
  (with_reducible refine (sat_is _ _ _ _ c0.out c2.out hs.out).mono ?_); rintro e w' ⟨rfl, rfl⟩
  go_wp2_with fail
  (with_reducible refine (clamp_is _ _ _ _ _ hx2.out).mono ?_); rintro e w' ⟨rfl, rfl⟩
  go_wp2_with fail
  (with_reducible refine (sat_is _ _ _ _ c2.out c2.out st.out).mono ?_); rintro e w' ⟨rfl, rfl⟩
  go_wp2
  go_ret
  exact ⟨rfl, by repeat (first | exact Grown.refl _ | apply Grown.drew | apply Grown.alloc)⟩

set_option maxRecDepth 100000 in
set_option maxHeartbeats 1000000 in
theorem b_gt_lo (a0 a1 a2 x s : Int) (w : World) (c0 : Hid (I64 a0)) (c1 : Hid (I64 a1)) (c2 : Hid (I64 a2))
    (hm : (if a2 < a1 then a2 else a1) = a2) (hM : (if a2 > a1 then a2 else a1) = a1)
    (hx : Hid (clamp a0 a2 a1 = x)) (hx2 : Hid (clamp x a2 a1 = x)) (hs : Hid (sat a0 a1 = s))
    (t1 : decide (a2 ≤ x) = true) (t2 : decide (x ≤ a1) = true) (t10 : decide (s ≤ a1) = true)
    (t3 : decide (a0 < a2) = true) (t6 : decide (a2 ≤ a0) = false) (t7 : (x == a2) = true) (t8 : decide (a0 ≤ a1) = true) (t11 : decide (a1 ≤ a0) = false) (t12 : decide (a0 < s) = true) (t13 : (wrap64 (s - a0) == 1) = true) :
    Calls Try.prog 4 #[.int .i64 a0, .int .i64 a1, .int .i64 a2] w fun e w' => e = .returned (.bool true) ∧ Grown w w' := by
  have st := Lib.hid (sat_no (Int.le_refl a1))
  go_enter Try.func4, Try.ntmps4
  try dsimp only [List.append]
  go_wp2_with fail
  refine (shown_any _).mono ?_; rintro e w' ⟨rfl, rfl⟩
  go_wp2_with fail
  clear hm hM
  (with_reducible refine (clamp_is _ _ _ _ _ hx.out).mono ?_); rintro e w' ⟨rfl, rfl⟩
  go_wp2_with fail
  (with_reducible refine (sat_is _ _ _ _ c0.out c1.out hs.out).mono ?_); rintro e w' ⟨rfl, rfl⟩
  go_wp2_with fail
  (with_reducible refine (clamp_is _ _ _ _ _ hx2.out).mono ?_); rintro e w' ⟨rfl, rfl⟩
  go_wp2_with fail
  (with_reducible refine (sat_is _ _ _ _ c1.out c1.out st.out).mono ?_); rintro e w' ⟨rfl, rfl⟩
  go_wp2
  go_ret
  exact ⟨rfl, by repeat (first | exact Grown.refl _ | apply Grown.drew | apply Grown.alloc)⟩

set_option maxRecDepth 100000 in
set_option maxHeartbeats 1000000 in
theorem b_gt_in (a0 a1 a2 x s : Int) (w : World) (c0 : Hid (I64 a0)) (c1 : Hid (I64 a1)) (c2 : Hid (I64 a2))
    (hm : (if a2 < a1 then a2 else a1) = a2) (hM : (if a2 > a1 then a2 else a1) = a1)
    (hx : Hid (clamp a0 a2 a1 = x)) (hx2 : Hid (clamp x a2 a1 = x)) (hs : Hid (sat a0 a1 = s))
    (t1 : decide (a2 ≤ x) = true) (t2 : decide (x ≤ a1) = true) (t10 : decide (s ≤ a1) = true)
    (t3 : decide (a0 < a2) = false) (t4 : decide (a1 < a0) = false) (t5 : (x == a0) = true) (t6 : decide (a2 ≤ a0) = true) (t8 : decide (a0 ≤ a1) = true) (t11 : decide (a1 ≤ a0) = false) (t12 : decide (a0 < s) = true) (t13 : (wrap64 (s - a0) == 1) = true) :
    Calls Try.prog 4 #[.int .i64 a0, .int .i64 a1, .int .i64 a2] w fun e w' => e = .returned (.bool true) ∧ Grown w w' := by
  have st := Lib.hid (sat_no (Int.le_refl a1))
  go_enter Try.func4, Try.ntmps4
  try dsimp only [List.append]
  go_wp2_with fail
  refine (shown_any _).mono ?_; rintro e w' ⟨rfl, rfl⟩
  go_wp2_with fail
  clear hm hM
  (with_reducible refine (clamp_is _ _ _ _ _ hx.out).mono ?_); rintro e w' ⟨rfl, rfl⟩
  go_wp2_with fail
  (with_reducible refine (sat_is _ _ _ _ c0.out c1.out hs.out).mono ?_); rintro e w' ⟨rfl, rfl⟩
  go_wp2_with fail
  (with_reducible refine (clamp_is _ _ _ _ _ hx2.out).mono ?_); rintro e w' ⟨rfl, rfl⟩
  go_wp2_with fail
  (with_reducible refine (sat_is _ _ _ _ c1.out c1.out st.out).mono ?_); rintro e w' ⟨rfl, rfl⟩
  go_wp2
  go_ret
  exact ⟨rfl, by repeat (first | exact Grown.refl _ | apply Grown.drew | apply Grown.alloc)⟩

set_option maxRecDepth 100000 in
set_option maxHeartbeats 1000000 in
theorem b_gt_at (a0 a1 a2 x s : Int) (w : World) (c0 : Hid (I64 a0)) (c1 : Hid (I64 a1)) (c2 : Hid (I64 a2))
    (hm : (if a2 < a1 then a2 else a1) = a2) (hM : (if a2 > a1 then a2 else a1) = a1)
    (hx : Hid (clamp a0 a2 a1 = x)) (hx2 : Hid (clamp x a2 a1 = x)) (hs : Hid (sat a0 a1 = s))
    (t1 : decide (a2 ≤ x) = true) (t2 : decide (x ≤ a1) = true) (t10 : decide (s ≤ a1) = true)
    (t3 : decide (a0 < a2) = false) (t4 : decide (a1 < a0) = false) (t5 : (x == a0) = true) (t6 : decide (a2 ≤ a0) = true) (t8 : decide (a0 ≤ a1) = true) (t11 : decide (a1 ≤ a0) = true) :
    Calls Try.prog 4 #[.int .i64 a0, .int .i64 a1, .int .i64 a2] w fun e w' => e = .returned (.bool true) ∧ Grown w w' := by
  have st := Lib.hid (sat_no (Int.le_refl a1))
  go_enter Try.func4, Try.ntmps4
  try dsimp only [List.append]
  go_wp2_with fail
  refine (shown_any _).mono ?_; rintro e w' ⟨rfl, rfl⟩
  go_wp2_with fail
  clear hm hM
  (with_reducible refine (clamp_is _ _ _ _ _ hx.out).mono ?_); rintro e w' ⟨rfl, rfl⟩
  go_wp2_with fail
  (with_reducible refine (sat_is _ _ _ _ c0.out c1.out hs.out).mono ?_); rintro e w' ⟨rfl, rfl⟩
  go_wp2_with fail
  (with_reducible refine (clamp_is _ _ _ _ _ hx2.out).mono ?_); rintro e w' ⟨rfl, rfl⟩
  go_wp2_with fail
  (with_reducible refine (sat_is _ _ _ _ c1.out c1.out st.out).mono ?_); rintro e w' ⟨rfl, rfl⟩
  go_wp2
  go_ret
  exact ⟨rfl, by repeat (first | exact Grown.refl _ | apply Grown.drew | apply Grown.alloc)⟩

set_option maxRecDepth 100000 in
set_option maxHeartbeats 1000000 in
theorem b_gt_hi (a0 a1 a2 x s : Int) (w : World) (c0 : Hid (I64 a0)) (c1 : Hid (I64 a1)) (c2 : Hid (I64 a2))
    (hm : (if a2 < a1 then a2 else a1) = a2) (hM : (if a2 > a1 then a2 else a1) = a1)
    (hx : Hid (clamp a0 a2 a1 = x)) (hx2 : Hid (clamp x a2 a1 = x)) (hs : Hid (sat a0 a1 = s))
    (t1 : decide (a2 ≤ x) = true) (t2 : decide (x ≤ a1) = true) (t10 : decide (s ≤ a1) = true)
    (t3 : decide (a0 < a2) = false) (t4 : decide (a1 < a0) = true) (t6 : decide (a2 ≤ a0) = true) (t8 : decide (a0 ≤ a1) = false) (t9 : (x == a1) = true) (t11 : decide (a1 ≤ a0) = true) :
    Calls Try.prog 4 #[.int .i64 a0, .int .i64 a1, .int .i64 a2] w fun e w' => e = .returned (.bool true) ∧ Grown w w' := by
  have st := Lib.hid (sat_no (Int.le_refl a1))
  go_enter Try.func4, Try.ntmps4
  try dsimp only [List.append]
  go_wp2_with fail
  refine (shown_any _).mono ?_; rintro e w' ⟨rfl, rfl⟩
  go_wp2_with fail
  clear hm hM
  (with_reducible refine (clamp_is _ _ _ _ _ hx.out).mono ?_); rintro e w' ⟨rfl, rfl⟩
  go_wp2_with fail
  (with_reducible refine (sat_is _ _ _ _ c0.out c1.out hs.out).mono ?_); rintro e w' ⟨rfl, rfl⟩
  go_wp2_with fail
  (with_reducible refine (clamp_is _ _ _ _ _ hx2.out).mono ?_); rintro e w' ⟨rfl, rfl⟩
  go_wp2_with fail
  (with_reducible refine (sat_is _ _ _ _ c1.out c1.out st.out).mono ?_); rintro e w' ⟨rfl, rfl⟩
  go_wp2
  go_ret
  exact ⟨rfl, by repeat (first | exact Grown.refl _ | apply Grown.drew | apply Grown.alloc)⟩

set_option maxRecDepth 100000 in
set_option maxHeartbeats 1000000 in
theorem b_eq_lo (a0 a1 x s : Int) (w : World) (c0 : Hid (I64 a0)) (c1 : Hid (I64 a1))
    (hm : (if a1 < a1 then a1 else a1) = a1) (hM : (if a1 > a1 then a1 else a1) = a1)
    (hx : Hid (clamp a0 a1 a1 = x)) (hx2 : Hid (clamp x a1 a1 = x)) (hs : Hid (sat a0 a1 = s))
    (t1 : decide (a1 ≤ x) = true) (t2 : decide (x ≤ a1) = true) (t10 : decide (s ≤ a1) = true)
    (t3 : decide (a0 < a1) = true) (t6 : decide (a1 ≤ a0) = false) (t7 : (x == a1) = true) (t8 : decide (a0 ≤ a1) = true) (t11 : decide (a1 ≤ a0) = false) (t12 : decide (a0 < s) = true) (t13 : (wrap64 (s - a0) == 1) = true) :
    Calls Try.prog 4 #[.int .i64 a0, .int .i64 a1, .int .i64 a1] w fun e w' => e = .returned (.bool true) ∧ Grown w w' := by
  have st := Lib.hid (sat_no (Int.le_refl a1))
  go_enter Try.func4, Try.ntmps4
  try dsimp only [List.append]
  go_wp2_with fail
  refine (shown_any _).mono ?_; rintro e w' ⟨rfl, rfl⟩
  go_wp2_with fail
  clear hm hM
  (with_reducible refine (clamp_is _ _ _ _ _ hx.out).mono ?_); rintro e w' ⟨rfl, rfl⟩
  go_wp2_with fail
  (with_reducible refine (sat_is _ _ _ _ c0.out c1.out hs.out).mono ?_); rintro e w' ⟨rfl, rfl⟩
  go_wp2_with fail
  (with_reducible refine (clamp_is _ _ _ _ _ hx2.out).mono ?_); rintro e w' ⟨rfl, rfl⟩
  go_wp2_with fail
  (with_reducible refine (sat_is _ _ _ _ c1.out c1.out st.out).mono ?_); rintro e w' ⟨rfl, rfl⟩
  go_wp2
  go_ret
  exact ⟨rfl, by repeat (first | exact Grown.refl _ | apply Grown.drew | apply Grown.alloc)⟩

set_option maxRecDepth 100000 in
set_option maxHeartbeats 1000000 in
theorem b_eq_at (a0 a1 x s : Int) (w : World) (c0 : Hid (I64 a0)) (c1 : Hid (I64 a1))
    (hm : (if a1 < a1 then a1 else a1) = a1) (hM : (if a1 > a1 then a1 else a1) = a1)
    (hx : Hid (clamp a0 a1 a1 = x)) (hx2 : Hid (clamp x a1 a1 = x)) (hs : Hid (sat a0 a1 = s))
    (t1 : decide (a1 ≤ x) = true) (t2 : decide (x ≤ a1) = true) (t10 : decide (s ≤ a1) = true)
    (t3 : decide (a0 < a1) = false) (t4 : decide (a1 < a0) = false) (t5 : (x == a0) = true) (t6 : decide (a1 ≤ a0) = true) (t8 : decide (a0 ≤ a1) = true) (t11 : decide (a1 ≤ a0) = true) :
    Calls Try.prog 4 #[.int .i64 a0, .int .i64 a1, .int .i64 a1] w fun e w' => e = .returned (.bool true) ∧ Grown w w' := by
  have st := Lib.hid (sat_no (Int.le_refl a1))
  go_enter Try.func4, Try.ntmps4
  try dsimp only [List.append]
  go_wp2_with fail
  refine (shown_any _).mono ?_; rintro e w' ⟨rfl, rfl⟩
  go_wp2_with fail
  clear hm hM
  (with_reducible refine (clamp_is _ _ _ _ _ hx.out).mono ?_); rintro e w' ⟨rfl, rfl⟩
  go_wp2_with fail
  (with_reducible refine (sat_is _ _ _ _ c0.out c1.out hs.out).mono ?_); rintro e w' ⟨rfl, rfl⟩
  go_wp2_with fail
  (with_reducible refine (clamp_is _ _ _ _ _ hx2.out).mono ?_); rintro e w' ⟨rfl, rfl⟩
  go_wp2_with fail
  (with_reducible refine (sat_is _ _ _ _ c1.out c1.out st.out).mono ?_); rintro e w' ⟨rfl, rfl⟩
  go_wp2
  go_ret
  exact ⟨rfl, by repeat (first | exact Grown.refl _ | apply Grown.drew | apply Grown.alloc)⟩

set_option maxRecDepth 100000 in
set_option maxHeartbeats 1000000 in
theorem b_eq_hi (a0 a1 x s : Int) (w : World) (c0 : Hid (I64 a0)) (c1 : Hid (I64 a1))
    (hm : (if a1 < a1 then a1 else a1) = a1) (hM : (if a1 > a1 then a1 else a1) = a1)
    (hx : Hid (clamp a0 a1 a1 = x)) (hx2 : Hid (clamp x a1 a1 = x)) (hs : Hid (sat a0 a1 = s))
    (t1 : decide (a1 ≤ x) = true) (t2 : decide (x ≤ a1) = true) (t10 : decide (s ≤ a1) = true)
    (t3 : decide (a0 < a1) = false) (t4 : decide (a1 < a0) = true) (t6 : decide (a1 ≤ a0) = true) (t8 : decide (a0 ≤ a1) = false) (t9 : (x == a1) = true) (t11 : decide (a1 ≤ a0) = true) :
    Calls Try.prog 4 #[.int .i64 a0, .int .i64 a1, .int .i64 a1] w fun e w' => e = .returned (.bool true) ∧ Grown w w' := by
  have st := Lib.hid (sat_no (Int.le_refl a1))
  go_enter Try.func4, Try.ntmps4
  try dsimp only [List.append]
  go_wp2_with fail
  refine (shown_any _).mono ?_; rintro e w' ⟨rfl, rfl⟩
  go_wp2_with fail
  clear hm hM
  (with_reducible refine (clamp_is _ _ _ _ _ hx.out).mono ?_); rintro e w' ⟨rfl, rfl⟩
  go_wp2_with fail
  (with_reducible refine (sat_is _ _ _ _ c0.out c1.out hs.out).mono ?_); rintro e w' ⟨rfl, rfl⟩
  go_wp2_with fail
  (with_reducible refine (clamp_is _ _ _ _ _ hx2.out).mono ?_); rintro e w' ⟨rfl, rfl⟩
  go_wp2_with fail
  (with_reducible refine (sat_is _ _ _ _ c1.out c1.out st.out).mono ?_); rintro e w' ⟨rfl, rfl⟩
  go_wp2
  go_ret
  exact ⟨rfl, by repeat (first | exact Grown.refl _ | apply Grown.drew | apply Grown.alloc)⟩

theorem numBounds (a0 : Int) (a1 : Int) (a2 : Int) (w0 : (Lit.int .i64 a0).wf = true) (w1 : (Lit.int .i64 a1).wf = true) (w2 : (Lit.int .i64 a2).wf = true) (w : World) :
    Calls Try.prog 4 #[.int .i64 a0, .int .i64 a1, .int .i64 a2] w fun e w' => e = .returned (.bool true) ∧ Grown w w' := by
  have b0 := i64_of w0
  have b1 := i64_of w1
  have b2 := i64_of w2
  by_cases h : a1 < a2
  · by_cases x1 : a0 < a1
    · exact b_lt_lo a0 a1 a2 a1 (a0 + 1) w (Lib.hid b0) (Lib.hid b1) (Lib.hid b2) (if_neg (by omega)) (if_pos (by omega)) (Lib.hid (clamp_lo x1)) (Lib.hid (clamp_in (by omega) (by omega))) (Lib.hid (sat_up (by omega))) (decide_eq_true (by omega)) (decide_eq_true (by omega)) (decide_eq_true (by omega)) (decide_eq_true (by omega)) (decide_eq_false (by omega)) (eqb _ _ rfl) (decide_eq_true (by omega)) (decide_eq_false (by omega)) (decide_eq_true (by omega)) (step_one _ b0)
    · by_cases x2 : a2 < a0
      · exact b_lt_hi a0 a1 a2 a2 a2 w (Lib.hid b0) (Lib.hid b1) (Lib.hid b2) (if_neg (by omega)) (if_pos (by omega)) (Lib.hid (clamp_hi (by omega) (by omega))) (Lib.hid (clamp_in (by omega) (by omega))) (Lib.hid (sat_no (by omega))) (decide_eq_true (by omega)) (decide_eq_true (by omega)) (decide_eq_true (by omega)) (decide_eq_false (by omega)) (decide_eq_true (by omega)) (decide_eq_true (by omega)) (decide_eq_false (by omega)) (eqb _ _ rfl) (decide_eq_true (by omega))
      · by_cases x3 : a0 < a2
        · exact b_lt_in a0 a1 a2 a0 (a0 + 1) w (Lib.hid b0) (Lib.hid b1) (Lib.hid b2) (if_neg (by omega)) (if_pos (by omega)) (Lib.hid (clamp_in (by omega) (by omega))) (Lib.hid (clamp_in (by omega) (by omega))) (Lib.hid (sat_up (by omega))) (decide_eq_true (by omega)) (decide_eq_true (by omega)) (decide_eq_true (by omega)) (decide_eq_false (by omega)) (decide_eq_false (by omega)) (eqb _ _ rfl) (decide_eq_true (by omega)) (decide_eq_true (by omega)) (decide_eq_false (by omega)) (decide_eq_true (by omega)) (step_one _ b0)
        · exact b_lt_at a0 a1 a2 a0 a2 w (Lib.hid b0) (Lib.hid b1) (Lib.hid b2) (if_neg (by omega)) (if_pos (by omega)) (Lib.hid (clamp_in (by omega) (by omega))) (Lib.hid (clamp_in (by omega) (by omega))) (Lib.hid (sat_no (by omega))) (decide_eq_true (by omega)) (decide_eq_true (by omega)) (decide_eq_true (by omega)) (decide_eq_false (by omega)) (decide_eq_false (by omega)) (eqb _ _ rfl) (decide_eq_true (by omega)) (decide_eq_true (by omega)) (decide_eq_true (by omega))
  · by_cases h' : a2 < a1
    · by_cases x1 : a0 < a2
      · exact b_gt_lo a0 a1 a2 a2 (a0 + 1) w (Lib.hid b0) (Lib.hid b1) (Lib.hid b2) (if_pos (by omega)) (if_neg (by omega)) (Lib.hid (clamp_lo x1)) (Lib.hid (clamp_in (by omega) (by omega))) (Lib.hid (sat_up (by omega))) (decide_eq_true (by omega)) (decide_eq_true (by omega)) (decide_eq_true (by omega)) (decide_eq_true (by omega)) (decide_eq_false (by omega)) (eqb _ _ rfl) (decide_eq_true (by omega)) (decide_eq_false (by omega)) (decide_eq_true (by omega)) (step_one _ b0)
      · by_cases x2 : a1 < a0
        · exact b_gt_hi a0 a1 a2 a1 a1 w (Lib.hid b0) (Lib.hid b1) (Lib.hid b2) (if_pos (by omega)) (if_neg (by omega)) (Lib.hid (clamp_hi (by omega) (by omega))) (Lib.hid (clamp_in (by omega) (by omega))) (Lib.hid (sat_no (by omega))) (decide_eq_true (by omega)) (decide_eq_true (by omega)) (decide_eq_true (by omega)) (decide_eq_false (by omega)) (decide_eq_true (by omega)) (decide_eq_true (by omega)) (decide_eq_false (by omega)) (eqb _ _ rfl) (decide_eq_true (by omega))
        · by_cases x3 : a0 < a1
          · exact b_gt_in a0 a1 a2 a0 (a0 + 1) w (Lib.hid b0) (Lib.hid b1) (Lib.hid b2) (if_pos (by omega)) (if_neg (by omega)) (Lib.hid (clamp_in (by omega) (by omega))) (Lib.hid (clamp_in (by omega) (by omega))) (Lib.hid (sat_up (by omega))) (decide_eq_true (by omega)) (decide_eq_true (by omega)) (decide_eq_true (by omega)) (decide_eq_false (by omega)) (decide_eq_false (by omega)) (eqb _ _ rfl) (decide_eq_true (by omega)) (decide_eq_true (by omega)) (decide_eq_false (by omega)) (decide_eq_true (by omega)) (step_one _ b0)
          · exact b_gt_at a0 a1 a2 a0 a1 w (Lib.hid b0) (Lib.hid b1) (Lib.hid b2) (if_pos (by omega)) (if_neg (by omega)) (Lib.hid (clamp_in (by omega) (by omega))) (Lib.hid (clamp_in (by omega) (by omega))) (Lib.hid (sat_no (by omega))) (decide_eq_true (by omega)) (decide_eq_true (by omega)) (decide_eq_true (by omega)) (decide_eq_false (by omega)) (decide_eq_false (by omega)) (eqb _ _ rfl) (decide_eq_true (by omega)) (decide_eq_true (by omega)) (decide_eq_true (by omega))
    · obtain rfl : a1 = a2 := by omega
      by_cases x1 : a0 < a1
      · exact b_eq_lo a0 a1 a1 (a0 + 1) w (Lib.hid b0) (Lib.hid b1) (if_neg (by omega)) (if_neg (by omega)) (Lib.hid (clamp_lo x1)) (Lib.hid (clamp_in (by omega) (by omega))) (Lib.hid (sat_up (by omega))) (decide_eq_true (by omega)) (decide_eq_true (by omega)) (decide_eq_true (by omega)) (decide_eq_true (by omega)) (decide_eq_false (by omega)) (eqb _ _ rfl) (decide_eq_true (by omega)) (decide_eq_false (by omega)) (decide_eq_true (by omega)) (step_one _ b0)
      · by_cases x2 : a1 < a0
        · exact b_eq_hi a0 a1 a1 a1 w (Lib.hid b0) (Lib.hid b1) (if_neg (by omega)) (if_neg (by omega)) (Lib.hid (clamp_hi (by omega) (by omega))) (Lib.hid (clamp_in (by omega) (by omega))) (Lib.hid (sat_no (by omega))) (decide_eq_true (by omega)) (decide_eq_true (by omega)) (decide_eq_true (by omega)) (decide_eq_false (by omega)) (decide_eq_true (by omega)) (decide_eq_true (by omega)) (decide_eq_false (by omega)) (eqb _ _ rfl) (decide_eq_true (by omega))
        · exact b_eq_at a0 a1 a0 a1 w (Lib.hid b0) (Lib.hid b1) (if_neg (by omega)) (if_neg (by omega)) (Lib.hid (clamp_in (by omega) (by omega))) (Lib.hid (clamp_in (by omega) (by omega))) (Lib.hid (sat_no (by omega))) (decide_eq_true (by omega)) (decide_eq_true (by omega)) (decide_eq_true (by omega)) (decide_eq_false (by omega)) (decide_eq_false (by omega)) (eqb _ _ rfl) (decide_eq_true (by omega)) (decide_eq_true (by omega)) (decide_eq_true (by omega))
end Go.Proofs.Ytofhhdnllloliaa.walks
