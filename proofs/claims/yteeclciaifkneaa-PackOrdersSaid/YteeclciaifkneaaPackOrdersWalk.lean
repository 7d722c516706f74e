/-
  THE WALK OF 'PackOrders': bytes of one length rise as their numbers do.
-/
import Derived.Test.YteeclciaifkneaaPackShown
namespace Go.Proofs.Yteeclciaifkneaa.walks
open Go.ChangeShapes Go.WideShapes Go.ChangeAt Go.RowKit Go.Proofs.Yteeclciaifkneaa.octets Go.Proofs.Yteeclciaifkneaa.pack
set_option linter.unusedVariables false

theorem u64_orders {n : Int} (h : (Lit.int .u64 n).wf = true) : 0 ≤ n ∧ n ≤ 18446744073709551615 := by
  simpa [Lit.wf, IntKind.min, IntKind.max, IntKind.signed, IntKind.bits] using h

theorem octs_front (k n : Nat) : octs (k + 1) n = UInt8.ofNat (n / 256 ^ k) :: octs k (n % 256 ^ k) := by
  have e := octs_add k 1 (n / 256 ^ k) (n % 256 ^ k) (Nat.mod_lt _ (Nat.pow_pos (by decide)))
  rw [Nat.div_add_mod' n (256 ^ k), Nat.add_comm] at e
  rw [e]; rfl
/-- bytes of one length rise as their numbers do -/
theorem less_octs : ∀ k a b, a < 256 ^ k → b < 256 ^ k → Op.bytesLess (octs k a) (octs k b) = decide (a < b)
  | 0, a, b, ha, hb => by
    have h1 : a = 0 := by simpa using ha
    have h2 : b = 0 := by simpa using hb
    subst h1 h2; rfl
  | k + 1, a, b, ha, hb => by
    have hp : 0 < 256 ^ k := Nat.pow_pos (by decide)
    have hP : (256 : Nat) ^ (k + 1) = 256 ^ k * 256 := Nat.pow_succ ..
    have ih := less_octs k (a % 256 ^ k) (b % 256 ^ k) (Nat.mod_lt _ hp) (Nat.mod_lt _ hp)
    rw [octs_front, octs_front, Op.bytesLess, ih]
    have da := Nat.div_add_mod a (256 ^ k)
    have db := Nat.div_add_mod b (256 ^ k)
    have la := Nat.mod_lt a hp
    have lb := Nat.mod_lt b hp
    have qa : a / 256 ^ k < 256 := Nat.div_lt_of_lt_mul (by rw [← hP]; exact ha)
    have qb : b / 256 ^ k < 256 := Nat.div_lt_of_lt_mul (by rw [← hP]; exact hb)
    generalize a / 256 ^ k = x at *
    generalize b / 256 ^ k = y at *
    generalize a % 256 ^ k = r at *
    generalize b % 256 ^ k = s at *
    generalize 256 ^ k = P at *
    have e1 : (UInt8.ofNat x < UInt8.ofNat y) ↔ x < y := by rw [UInt8.lt_iff_toNat_lt, UInt8.toNat_ofNat', UInt8.toNat_ofNat']; omega
    have e2 : (UInt8.ofNat x = UInt8.ofNat y) ↔ x = y := by rw [← UInt8.toNat_inj, UInt8.toNat_ofNat', UInt8.toNat_ofNat']; omega
    subst da db
    rcases Nat.lt_trichotomy x y with h | h | h
    · have h3 : P * x + r < P * y + s := by
        have := Nat.mul_le_mul_left P (show x + 1 ≤ y from h)
        rw [Nat.mul_add] at this; omega
      rw [decide_eq_true (e1.2 h), decide_eq_true h3]; rfl
    · subst h
      have h3 : (P * x + r < P * x + s) ↔ r < s := by omega
      have h4 : ¬ UInt8.ofNat x < UInt8.ofNat x := fun h => Nat.lt_irrefl _ (e1.1 h)
      rw [decide_eq_false h4, Bool.false_or, beq_self_eq_true, Bool.true_and]
      simp only [h3]
    · have h3 : ¬ P * x + r < P * y + s := by
        have := Nat.mul_le_mul_left P (show y + 1 ≤ x from h)
        rw [Nat.mul_add] at this; omega
      have h4 : ¬ UInt8.ofNat x < UInt8.ofNat y := fun h' => by have := e1.1 h'; omega
      have h5 : (UInt8.ofNat x == UInt8.ofNat y) = false := by rw [beq_eq_false_iff_ne]; intro h'; have := e2.1 h'; omega
      rw [decide_eq_false h4, h5, decide_eq_false h3]; rfl

set_option maxRecDepth 100000 in
set_option maxHeartbeats 1000000 in
theorem orders_core (a b : Nat) (w : World) (ha : a ≤ 18446744073709551615) (hb : b ≤ 18446744073709551615) :
    Calls Try.prog 5 #[.int .u64 a, .int .u64 b] w fun e w' => e = .returned (.bool true) ∧ Below w.heap.size w w' := by
  have h8 : (256 : Nat) ^ 8 = 18446744073709551616 := by decide
  have Ha : Hid (a < 256 ^ 8) := Lib.hid (by omega)
  have Hb : Hid (b < 256 ^ 8) := Lib.hid (by omega)
  clear h8
  go_enter Try.func5, Try.ntmps5
  try dsimp only [List.append]
  go_wp2_with fail
  (with_reducible refine (shown_any _).mono ?_)
  rintro e w1 ⟨rfl, hw1⟩
  go_wp2_with fail
  (with_reducible refine (put_at _ 8 a 8 _ rfl (by decide) (by decide) Ha.out).mono ?_)
  rintro e w2 ⟨p, rfl, hp, hr2, hw2⟩
  go_wp2_with fail
  (with_reducible refine (put_at _ 8 b 8 _ rfl (by decide) (by decide) Hb.out).mono ?_)
  rintro e w3 ⟨q, rfl, hq, hr3, hw3⟩
  rw [octs_len, octs_len]
  have c1 := (hr2.since hw3).str 8 (octs_len _ _) _ rfl
  have c2 := hr3.str 8 (octs_len _ _) _ rfl
  have hw13 := (hw1.trans (hw2.mono hw1.size))
  have hw14 := hw13.trans (hw3.mono hw13.size)
  clear hr2 hr3 hw1 hw2 hw3 hw13
  have hL := less_octs 8 a b Ha.out Hb.out
  have hE : (octs 8 a == octs 8 b) = ((a : Int) == (b : Int)) := by
    rw [Bool.eq_iff_iff, beq_iff_eq, beq_iff_eq]
    exact ⟨fun h => by have := octs_inj Ha.out Hb.out h; omega, fun h => by rw [Int.ofNat.inj h]⟩
  go_wp2_with fail
  go_ret
  exact ⟨rfl, hw14⟩

theorem packOrders (a0 : Int) (a1 : Int) (w : World) (w0 : (Lit.int .u64 a0).wf = true) (w1 : (Lit.int .u64 a1).wf = true) :
    Calls Try.prog 5 #[.int .u64 a0, .int .u64 a1] w fun e w' => e = .returned (.bool true) ∧ Below w.heap.size w w' := by
  have h0 := u64_orders w0
  have h1 := u64_orders w1
  obtain ⟨a, rfl⟩ := Int.eq_ofNat_of_zero_le h0.1
  obtain ⟨b, rfl⟩ := Int.eq_ofNat_of_zero_le h1.1
  exact orders_core a b w (by omega) (by omega)
end Go.Proofs.Yteeclciaifkneaa.walks
