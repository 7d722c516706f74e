/-
  THE WALK OF 'PackInts': each small number has two bytes of its own, and is taken from them; all others have none.
-/
import Derived.Test.YteeclciaifkneaaPackShown
import Derived.Deep.QuietTactic
import Derived.BigQuiet
namespace Go.Proofs.Yteeclciaifkneaa.walks
open Go.ChangeShapes Go.WideShapes Go.ChangeAt Go.RowKit Go.Proofs.Yteeclciaifkneaa.octets Go.Proofs.Yteeclciaifkneaa.pack
set_option linter.unusedVariables false

set_option maxRecDepth 100000 in
set_option maxHeartbeats 2000000 in
theorem ints_core (a0 b0 : Int) (u v : Nat) (w : World) (hu : u < 65536) (hv : v < 65536) (ha1 : -9223372036854775808 ≤ a0) (ha2 : a0 ≤ 9223372036854775807)
    (eN : bits BinOp.and IntKind.i64 a0 65535 = (u : Int)) (eM : bits BinOp.and IntKind.i64 b0 65535 = (v : Int)) (s r : Nat)
    (hs : Hid (sign ((u : Int) - 32768) = s)) (hr : Hid (sign ((v : Int) - 32768) = r)) (hs1 : s < 65536) (hr1 : r < 65536) :
    Calls Try.prog 4 #[.int .i64 a0, .int .i64 b0] w fun e w' => e = .returned (.bool true) ∧ Below w.heap.size w w' := by
  go_enter Try.func4, Try.ntmps4
  try dsimp only [List.append]
  go_wp2_with fail
  (with_reducible refine (shown_any _).mono ?_)
  rintro e w1 ⟨rfl, hw1⟩
  go_wp2_with fail
  clear eN eM
  (with_reducible refine (putInt_at _ s _ ?_ ?_ ?_).mono ?_)
  · omega
  · omega
  · exact hs.out
  rintro e w2 ⟨p, rfl, hp, hr2, hw2⟩
  go_wp2_with fail
  (with_reducible refine (putInt_at _ r _ ?_ ?_ ?_).mono ?_)
  · omega
  · omega
  · exact hr.out
  rintro e w3 ⟨q, rfl, hq, hr3, hw3⟩
  rw [octs_len, octs_len]
  have hr2 := hr2.since hw3
  have hw13 := (hw1.trans (hw2.mono hw1.size))
  have hw14 := hw13.trans (hw3.mono hw13.size)
  clear hw1 hw2 hw3 hw13
  go_wp2_with fail
  (with_reducible refine (takeInt_ok p _ _ (octs_len _ _) hr2).mono ?_)
  rintro e w' ⟨rfl, rfl⟩
  go_wp2_with fail
  (with_reducible refine (takeInt_ok q _ _ (octs_len _ _) hr3).mono ?_)
  rintro e w' ⟨rfl, rfl⟩
  have es : signed (num (octs 2 s)) = (u : Int) - 32768 := by
    rw [num_back (by omega), ← hs.out]; exact signed_sign (by omega) (by omega)
  have er : signed (num (octs 2 r)) = (v : Int) - 32768 := by
    rw [num_back (by omega), ← hr.out]; exact signed_sign (by omega) (by omega)
  have hE : (octs 2 s == octs 2 r) = (((u : Int) - 32768) == ((v : Int) - 32768)) := by
    rw [Bool.eq_iff_iff, beq_iff_eq, beq_iff_eq]
    refine ⟨fun h => ?_, fun h => ?_⟩
    · have h2 := octs_inj (by omega) (by omega) h
      have h3 := hs.out; have h4 := hr.out
      exact sign_inj (by omega) (by omega) (by omega) (by omega) (by rw [h3, h4, h2])
    · rw [← hs.out, ← hr.out, h]
  rw [es, er]
  clear es er
  by_cases hin : a0 < -32768 ∨ 32767 < a0
  · have c1 := hr2.str 2 (octs_len _ _) _ rfl
    have c2 := hr3.str 2 (octs_len _ _) _ rfl
    go_wp2_with fail
    (with_reducible refine (putInt_no _ _ hin).mono ?_)
    rintro e w' ⟨rfl, rfl⟩
    clear hr2 hr3
    by_cases h1 : a0 < -32768
    · have t1 : decide (-32768 ≤ a0) = false := decide_eq_false (by omega)
      clear hin h1
      go_wp2_with fail
      go_ret
      exact ⟨rfl, hw14⟩
    · have t1 : decide (-32768 ≤ a0) = true := decide_eq_true (by omega)
      have t2 : decide (a0 ≤ 32767) = false := decide_eq_false (by omega)
      clear hin h1
      go_wp2_with fail
      go_ret
      exact ⟨rfl, hw14⟩
  · have t1 : decide (-32768 ≤ a0) = true := decide_eq_true (by omega)
    have t2 : decide (a0 ≤ 32767) = true := decide_eq_true (by omega)
    go_wp2_with fail
    (with_reducible refine (putInt_ok _ _ (by omega) (by omega)).mono ?_)
    rintro e w4 ⟨z, rfl, hz, hr4, hw4⟩
    rw [octs_len]
    have c1 := (hr2.since hw4).str 2 (octs_len _ _) _ rfl
    have c2 := (hr3.since hw4).str 2 (octs_len _ _) _ rfl
    have hw15 := hw14.trans (hw4.mono hw14.size)
    clear hr2 hr3 hr4 hin hw14 hw4
    go_wp2_with fail
    go_ret
    exact ⟨rfl, hw15⟩

theorem packInts (a0 : Int) (a1 : Int) (w : World) (w0 : (Lit.int .i64 a0).wf = true) (w1 : (Lit.int .i64 a1).wf = true) :
    Calls Try.prog 4 #[.int .i64 a0, .int .i64 a1] w fun e w' => e = .returned (.bool true) ∧ Below w.heap.size w w' := by
  obtain ⟨u, hu⟩ := Int.eq_ofNat_of_zero_le (Int.emod_nonneg a0 (show (65536 : Int) ≠ 0 by decide))
  have hl := Int.emod_lt_of_pos a0 (show (0 : Int) < 65536 by decide)
  obtain ⟨v, hv⟩ := Int.eq_ofNat_of_zero_le (Int.emod_nonneg a1 (show (65536 : Int) ≠ 0 by decide))
  have hm := Int.emod_lt_of_pos a1 (show (0 : Int) < 65536 by decide)
  have hb : -9223372036854775808 ≤ a0 ∧ a0 ≤ 9223372036854775807 := by
    simpa [Lit.wf, IntKind.min, IntKind.max, IntKind.signed, IntKind.bits] using w0
  exact ints_core a0 a1 u v w (by omega) (by omega) hb.1 hb.2 ((and_16 a0).trans hu) ((and_16 a1).trans hv) _ _ (Lib.hid rfl) (Lib.hid rfl) (sign_lt _) (sign_lt _)
end Go.Proofs.Yteeclciaifkneaa.walks
