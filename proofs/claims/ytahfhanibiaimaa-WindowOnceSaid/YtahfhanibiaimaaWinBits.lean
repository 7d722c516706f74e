/-
  WHAT THE WALK OF A See MEETS: shifts, '&' and '|' of 64 bits, as plain facts.
-/
import Derived.Test.YtahfhanibiaimaaWinMath
import Derived.Laws.Bits64b
namespace Go.Proofs.Ytahfhanibiaimaa.window
open Go.RowKit
set_option linter.unusedVariables false

theorem shl_nat (s k : Nat) : IntKind.u64.wrap ((s : Int) * 2 ^ k) = (((s <<< k) % max64 : Nat) : Int) := by
  rw [IntKind.wrap_u64, Nat.shiftLeft_eq]
  have e : ((s : Int) * 2 ^ k) = ((s * 2 ^ k : Nat) : Int) := by simp
  rw [e]
  unfold max64
  omega
theorem or_nat (a b : Nat) (ha : a < max64) (hb : b < max64) : bits BinOp.or IntKind.u64 (a : Int) (b : Int) = ((a ||| b : Nat) : Int) := bits_or_u64_nat a b (by unfold max64 at ha; omega) (by unfold max64 at hb; omega)
theorem shl_or (s k : Nat) : bits BinOp.or IntKind.u64 (IntKind.u64.wrap ((s : Int) * 2 ^ k)) 1 = ((((s <<< k) % max64) ||| 1 : Nat) : Int) := by
  rw [shl_nat]
  exact or_nat _ 1 (Nat.mod_lt _ (by decide)) (by decide)
theorem one_shl (k : Nat) (h : k < 64) : IntKind.u64.wrap (1 * 2 ^ k) = ((2 ^ k : Nat) : Int) := by
  have := shl_nat 1 k
  have hp : 2 ^ k < max64 := by rw [max64_pow]; exact Nat.pow_lt_pow_right (by decide) h
  rw [Nat.shiftLeft_eq, Nat.one_mul, Nat.mod_eq_of_lt hp] at this
  exact this
theorem or_bit (s k : Nat) (hs : s < max64) (h : k < 64) : bits BinOp.or IntKind.u64 (s : Int) (IntKind.u64.wrap (1 * 2 ^ k)) = ((s ||| 2 ^ k : Nat) : Int) := by
  rw [one_shl k h]
  exact or_nat s _ hs (by rw [max64_pow]; exact Nat.pow_lt_pow_right (by decide) h)
theorem and_bit (s k : Nat) (hs : s < max64) : bits BinOp.and IntKind.u64 ((s : Int) / 2 ^ k) 1 = if s.testBit k = true then 1 else 0 := by
  have e : ((s : Int) / 2 ^ k) = ((s / 2 ^ k : Nat) : Int) := by simp
  have hl : s / 2 ^ k < 18446744073709551616 := Nat.lt_of_le_of_lt (Nat.div_le_self _ _) hs
  rw [e]
  have := bits_and_u64_nat (s / 2 ^ k) 1 hl (by decide)
  rw [Nat.and_one_is_mod] at this
  rw [show ((1 : Nat) : Int) = 1 from rfl] at this
  rw [this]
  have ht : s.testBit k = decide ((s / 2 ^ k) % 2 = 1) := by rw [Nat.testBit_eq_decide_div_mod_eq]
  rw [ht]
  by_cases h : s / 2 ^ k % 2 = 1
  · rw [h]; simp
  · have : s / 2 ^ k % 2 = 0 := by omega
    rw [this]; simp
end Go.Proofs.Ytahfhanibiaimaa.window
