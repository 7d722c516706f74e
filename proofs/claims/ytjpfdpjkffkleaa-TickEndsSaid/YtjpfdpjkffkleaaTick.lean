/-
  TIMERS: what is asked of the code's Start, Step, Due; the head of the statements of tick.
-/
import Derived.Test.YtjpfdpjkffkleaaArr
import Derived.Test.YtjpfdpjkffkleaaArgs
import Derived.Test.YtjpfdpjkffkleaaStructEq
import Derived.Laws.BitsLemmas
namespace Go.Proofs.Ytjpfdpjkffkleaa.tick
open Go.RowKit Go.Proofs.Ytjpfdpjkffkleaa.octets
set_option linter.unusedVariables false
set_option linter.unusedSimpArgs false

/-- one more, but not beyond the most (num.Sat) -/
def sat (n most : Int) : Int := if n < most then n + 1 else most
def tv (a m : Int) : Value := .agg #[.int .i64 a, .int .i64 m]
structure CodeOk : Prop where
  start : ∀ (m : Int) (w : World), Calls Try.prog 6 #[.int .i64 m] w fun e w' => e = .returned (tv 0 (max m 0)) ∧ Below w.heap.size w w'
  step : ∀ (a m : Int) (w : World), -9223372036854775808 ≤ a → a ≤ 9223372036854775807 → -9223372036854775808 ≤ m → m ≤ 9223372036854775807 → Calls Try.prog 8 #[tv a m] w fun e w' => e = .returned (tv (sat a m) m) ∧ Below w.heap.size w w'
  due : ∀ (a m : Int) (w : World), Calls Try.prog 7 #[tv a m] w fun e w' => e = .returned (.bool (decide (m ≤ a))) ∧ Below w.heap.size w w'
theorem CodeOk.step_at (H : CodeOk) (a m b : Int) (w : World) (h1 : -9223372036854775808 ≤ a) (h2 : a ≤ 9223372036854775807) (h3 : -9223372036854775808 ≤ m) (h4 : m ≤ 9223372036854775807) (hb : sat a m = b) : Calls Try.prog 8 #[.agg #[.int .i64 a, .int .i64 m]] w fun e w' => e = .returned (.agg #[.int .i64 b, .int .i64 m]) ∧ Below w.heap.size w w' := by
  subst hb
  exact H.step a m w h1 h2 h3 h4
theorem CodeOk.due_at (H : CodeOk) (a m : Int) (d : Bool) (w : World) (hd : decide (m ≤ a) = d) : Calls Try.prog 7 #[.agg #[.int .i64 a, .int .i64 m]] w fun e w' => e = .returned (.bool d) ∧ Below w.heap.size w w' := by
  subst hd
  exact H.due a m w
theorem CodeOk.start_at (H : CodeOk) (m k : Int) (w : World) (hk : max m 0 = k) : Calls Try.prog 6 #[.int .i64 m] w fun e w' => e = .returned (.agg #[.int .i64 0, .int .i64 k]) ∧ Below w.heap.size w w' := by
  subst hk
  exact H.start m w
set_option maxRecDepth 100000 in
set_option maxHeartbeats 1000000 in
theorem shown_any (H : CodeOk) (w : World) : Calls Try.prog 5 #[] w fun e w' => e = .returned (.bool true) ∧ Below w.heap.size w w' := by
  have k1 := fun W => H.start_at 2 2 W (by decide)
  have k2 := fun W => H.step_at 0 2 1 W (by decide) (by decide) (by decide) (by decide) (by decide)
  have k3 := fun W => H.step_at 1 2 2 W (by decide) (by decide) (by decide) (by decide) (by decide)
  have k4 := fun W => H.due_at 1 2 false W (by decide)
  have k5 := fun W => H.due_at 2 2 true W (by decide)
  replace k1 := Lib.hid k1
  replace k2 := Lib.hid k2
  replace k3 := Lib.hid k3
  replace k4 := Lib.hid k4
  replace k5 := Lib.hid k5
  go_enter Try.func5, Try.ntmps5
  go_wp2_with fail
  refine (k1.out _).mono ?_
  rintro e w1 ⟨rfl, hb1⟩
  go_wp2_with fail
  refine (k2.out _).mono ?_
  rintro e w2 ⟨rfl, hb2⟩
  have hw2 := hb1.trans (hb2.mono hb1.size)
  clear hb1 hb2
  have hA1 := Arr.new_at w2 [.int .i64 1, .int .i64 2] #[.int .i64 1, .int .i64 2] 25 rfl
  have hw3 := hw2.alloc hw2.size (.cells #[.int .i64 1, .int .i64 2] 25)
  clear hw2
  go_wp2_with fail
  refine (k3.out _).mono ?_
  rintro e w4 ⟨rfl, hb4⟩
  have hA4 := (hA1.since hb4).alloc (.cells #[.int .i64 2, .int .i64 2] 25)
  have hB4 := Arr.new_at w4 [.int .i64 2, .int .i64 2] #[.int .i64 2, .int .i64 2] 25 rfl
  have hw4 := hw3.trans (hb4.mono hw3.size)
  have hw5 := hw4.alloc hw4.size (.cells #[.int .i64 2, .int .i64 2] 25)
  have c0 := hA4.cell (i := 0) rfl
  have c1 := hA4.cell (i := 1) rfl
  clear hA1 hw3 hb4 hw4
  go_wp2_with fail
  refine (k4.out _).mono ?_
  rintro e w6 ⟨rfl, hb6⟩
  have hB6 := hB4.since hb6
  have d0 := hB6.cell (i := 0) rfl
  have d1 := hB6.cell (i := 1) rfl
  have hw6 := hw5.trans (hb6.mono hw5.size)
  clear hA4 hB4 hw5 hb6 c0 c1
  go_wp2_with fail
  refine (k5.out _).mono ?_
  rintro e w7 ⟨rfl, hb7⟩
  have hw7 := hw6.trans (hb7.mono hw6.size)
  go_wp2
  go_ret
  exact ⟨rfl, hw7⟩
theorem eql_timer (a m b n : Int) (W : World) : (binOp .eql 25 (.agg #[.int .i64 a, .int .i64 m]) (.agg #[.int .i64 b, .int .i64 n])).run Try.prog W = .ok (.bool (a == b && m == n)) W := by
  rw [run_eql_struct]
  have h := run_equalIn_fields (d := 9999) (t := 25) (xs := #[.int .i64 a, .int .i64 m]) (ys := #[.int .i64 b, .int .i64 n]) (W := W) [(3, 0), (3, 1)] [a == b, m == n]
    (by kernel_rfl) (by kernel_rfl) (by kernel_rfl) ⟨EqStep.int Try.underlying3 rfl rfl, EqStep.int Try.underlying3 rfl rfl, trivial⟩
  rw [h]
  simp
theorem and_1023 (x : Int) (h0 : 0 ≤ x) (h1 : x ≤ 65535) : bits BinOp.and IntKind.u16 x 1023 = x % 1024 := bits_mask IntKind.u16 16 (by decide) (fun m h0 h1 => by rw [IntKind.wrap_u16]; omega) 10 (by decide) x h0 (by omega)
end Go.Proofs.Ytjpfdpjkffkleaa.tick
