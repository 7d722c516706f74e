/-
  THE CONTRACTS OF tick's code.
-/
import Derived.Test.YtjpfdpjkffkleaaTick
namespace Go.Proofs.Ytjpfdpjkffkleaa.tick
open Go.RowKit Go.Proofs.Ytjpfdpjkffkleaa.octets
set_option linter.unusedVariables false
set_option maxHeartbeats 400000 in
theorem sat_ok (a m : Int) (w : World) (h1 : -9223372036854775808 ≤ a) (h2 : a ≤ 9223372036854775807) (h3 : -9223372036854775808 ≤ m) (h4 : m ≤ 9223372036854775807) :
    Calls Try.prog 9 #[.int .i64 a, .int .i64 m] w fun e w' => e = .returned (.int .i64 (sat a m)) ∧ w = w' := by
  by_cases h : a < m
  · have e : sat a m = a + 1 := if_pos h
    rw [e]
    clear e
    go_enter Try.func9, Try.ntmps9
    go_wp2
    go_ret
    exact ⟨rfl, rfl⟩
  · have e : sat a m = m := if_neg h
    rw [e]
    clear e
    go_enter Try.func9, Try.ntmps9
    go_wp2
    go_ret
    exact ⟨rfl, rfl⟩
theorem start_ok (m : Int) (w : World) : Calls Try.prog 6 #[.int .i64 m] w fun e w' => e = .returned (tv 0 (max m 0)) ∧ Below w.heap.size w w' := by
  by_cases h : m < 0
  · have hk : max m 0 = 0 := by omega
    rw [hk]
    have hA := Arr.new_at w [.int .i64 0, .int .i64 0] #[.int .i64 0, .int .i64 0] 25 rfl
    go_enter Try.func6, Try.ntmps6
    go_wp2
    exact ret_arr rfl w.heap.size _ _ rfl hA Try.underlying25 rfl (by kernel_rfl) rfl ⟨rfl, (Below.refl _ _).alloc (Nat.le_refl _) _⟩
  · have hk : max m 0 = m := by omega
    rw [hk]
    have hA := Arr.new_at w [.int .i64 0, .int .i64 m] #[.int .i64 0, .int .i64 m] 25 rfl
    go_enter Try.func6, Try.ntmps6
    go_wp2
    exact ret_arr rfl w.heap.size _ _ rfl hA Try.underlying25 rfl (by kernel_rfl) rfl ⟨rfl, (Below.refl _ _).alloc (Nat.le_refl _) _⟩
theorem due_ok (a m : Int) (w : World) : Calls Try.prog 7 #[tv a m] w fun e w' => e = .returned (.bool (decide (m ≤ a))) ∧ Below w.heap.size w w' := by
  unfold tv
  go_enter Try.func7, Try.ntmps7
  go_wp2
  go_ret
  exact ⟨rfl, (Below.refl _ _).alloc (Nat.le_refl _) _⟩
theorem step_ok (a m : Int) (w : World) (h1 : -9223372036854775808 ≤ a) (h2 : a ≤ 9223372036854775807) (h3 : -9223372036854775808 ≤ m) (h4 : m ≤ 9223372036854775807) :
    Calls Try.prog 8 #[tv a m] w fun e w' => e = .returned (tv (sat a m) m) ∧ Below w.heap.size w w' := by
  obtain ⟨b, hb⟩ : ∃ b, sat a m = b := ⟨_, rfl⟩
  have hs := fun W => sat_ok a m W h1 h2 h3 h4
  rw [hb] at hs ⊢
  replace hs := Lib.hid hs
  clear hb
  unfold tv
  have hA := Arr.new_at (w.alloc (.cells #[.int .i64 b, .int .i64 m] 25)) [.int .i64 b, .int .i64 m] #[.int .i64 b, .int .i64 m] 25 rfl
  rw [World.size_alloc] at hA
  go_enter Try.func8, Try.ntmps8
  go_wp2_with fail
  refine (hs.out _).mono ?_
  rintro e w2 ⟨rfl, rfl⟩
  go_wp2
  exact ret_arr rfl (w.heap.size + 1) _ _ rfl hA Try.underlying25 rfl (by kernel_rfl) rfl ⟨rfl, ((Below.refl _ _).alloc (Nat.le_refl _) _).alloc (by simp) _⟩
theorem codeOk : CodeOk := ⟨start_ok, step_ok, due_ok⟩
end Go.Proofs.Ytjpfdpjkffkleaa.tick
