/-
  PLAIN FACTS OF BITS TURNED in a row of bytes, up to 16 in a row; and of frames so turned. No function of the program.
-/
import Derived.Test.YtafhfimkgaecjaaFrameMath
import Derived.Test.YtafhfimkgaecjaaCrc
namespace Go.Proofs.Ytafhfimkgaecjaa.frame
open Go.Proofs.Ytafhfimkgaecjaa.crc
set_option linter.unusedVariables false

/-- with bit q turned -/
def flip1 (l : List UInt8) (q : Nat) : List UInt8 := l.set (q / 8) (l.getD (q / 8) 0 ^^^ UInt8.ofNat (2 ^ (7 - q % 8)))
theorem flip_len (l : List UInt8) (q : Nat) : (flip1 l q).length = l.length := by simp [flip1]
theorem flip_bit (l : List UInt8) (q j : Nat) (h : q / 8 < l.length) : bitAt (flip1 l q) j = (bitAt l j ^^ decide (j = q)) := by
  unfold bitAt flip1
  simp only [List.getD_eq_getElem?_getD, List.getElem?_set]
  by_cases e : q / 8 = j / 8
  · rw [if_pos e, if_pos h, Option.getD_some, UInt8.toNat_xor, Nat.testBit_xor, ← e]
    congr 1
    have hp : 2 ^ (7 - q % 8) ≤ 2 ^ 7 := Nat.pow_le_pow_right (by decide) (by omega)
    have h7 : (2 : Nat) ^ 7 = 128 := by decide
    rw [UInt8.toNat_ofNat', Nat.mod_eq_of_lt (by omega), Nat.testBit_two_pow]
    apply decide_eq_decide.2
    omega
  · rw [if_neg e]
    have : decide (j = q) = false := decide_eq_false (by intro h'; exact e (by rw [h']))
    rw [this, Bool.xor_false]
def flips (l : List UInt8) (m k : Nat) : Nat → List UInt8
  | 0 => l
  | i + 1 => if m.testBit (15 - i) then flip1 (flips l m k i) (k + i) else flips l m k i
theorem flips_len (l : List UInt8) (m k : Nat) : ∀ i, (flips l m k i).length = l.length
  | 0 => rfl
  | i + 1 => by
    rw [flips]
    split
    · rw [flip_len, flips_len l m k i]
    · exact flips_len l m k i
theorem flips_bit (l : List UInt8) (m k : Nat) : ∀ i, k + i ≤ 8 * l.length → ∀ j, bitAt (flips l m k i) j = (bitAt l j ^^ (decide (k ≤ j ∧ j < k + i) && m.testBit (15 - (j - k))))
  | 0, _, j => by
    have : decide (k ≤ j ∧ j < k + 0) = false := decide_eq_false (by omega)
    rw [this, Bool.false_and, Bool.xor_false]; rfl
  | i + 1, h, j => by
    have ih := flips_bit l m k i (by omega) j
    rw [flips]
    by_cases hj : j = k + i
    · have e1 : decide (k ≤ j ∧ j < k + i) = false := decide_eq_false (by omega)
      have e2 : decide (k ≤ j ∧ j < k + (i + 1)) = true := decide_eq_true (by omega)
      rw [e1, Bool.false_and, Bool.xor_false] at ih
      rw [e2, Bool.true_and, show 15 - (j - k) = 15 - i by omega]
      split
      · rename_i hb
        rw [flip_bit _ _ _ (by rw [flips_len]; omega), ih, hb, decide_eq_true hj]
      · rename_i hb
        rw [ih, Bool.eq_false_iff.2 hb, Bool.xor_false]
    · have e1 : decide (k ≤ j ∧ j < k + (i + 1)) = decide (k ≤ j ∧ j < k + i) := decide_eq_decide.2 (by omega)
      rw [e1]
      split
      · rw [flip_bit _ _ _ (by rw [flips_len]; omega), ih, decide_eq_false hj, Bool.xor_false]
      · exact ih
theorem flip_low (l : List UInt8) (q j : Nat) (h : j < q / 8) : (flip1 l q).getD j 0 = l.getD j 0 := by
  unfold flip1
  rw [List.getD_eq_getElem?_getD, List.getElem?_set, if_neg (by omega), ← List.getD_eq_getElem?_getD]
theorem flips_low (l : List UInt8) (m k j : Nat) (h : j < k / 8) : ∀ i, (flips l m k i).getD j 0 = l.getD j 0
  | 0 => rfl
  | i + 1 => by
    rw [flips]
    split
    · rw [flip_low _ _ _ (by omega), flips_low l m k j h i]
    · exact flips_low l m k j h i
/-- a frame with bits of its body or its sum turned, within 16 in a row, is none -/
theorem next_turned (x : List UInt8) (m k i : Nat) (hx : x.length ≤ 32) (hi : 1 ≤ i) (hi2 : i ≤ 16) (hk : k + i ≤ 8 * (x.length + 2)) (hm : m.testBit 15 = true) : nextB (flips (putB x) m (24 + k) i) = rej 12 := by
  have hl := putB_len x
  have hk8 : 24 + k + i ≤ 8 * (putB x).length := by omega
  refine next_bad _ x.length hx (by rw [flips_len, hl]) ?_ ?_ ?_ ?_
  · rw [flips_low _ _ _ _ (by omega)]; rfl
  · rw [flips_low _ _ _ _ (by omega)]; rfl
  · rw [flips_low _ _ _ _ (by omega), show (putB x).getD 2 0 = UInt8.ofNat x.length from rfl, small_len hx]
  · rw [← put_sum x]
    have hll : ((flips (putB x) m (24 + k) i).drop 1).length = ((putB x).drop 1).length := by simp [flips_len]
    refine unlike 65535 _ _ hll (16 + k) (by simp [hl]; omega) (fun j hj => ?_) ?_ (fun j hj => ?_)
    · rw [bit_drop, bit_drop, flips_bit _ _ _ _ hk8, decide_eq_false (by omega), Bool.false_and, Bool.xor_false]
    · rw [bit_drop, bit_drop, flips_bit _ _ _ _ hk8, decide_eq_true (by omega), Bool.true_and, show 15 - (8 * 1 + (16 + k) - (24 + k)) = 15 by omega, hm, Bool.xor_true]
    · rw [bit_drop, bit_drop, flips_bit _ _ _ _ hk8, decide_eq_false (by omega), Bool.false_and, Bool.xor_false]
/-- one of another version is none -/
theorem next_odd (x : List UInt8) (c : UInt8) (h : c ≠ 1) : nextB ((putB x).set 1 c) = rej 10 := by
  have hl : ((putB x).set 1 c).length = x.length + 5 := by rw [List.length_set, putB_len]
  unfold nextB
  rw [hl, if_neg (by omega), if_neg (by simp [putB]), if_neg (by omega), if_pos (by simpa [putB, headB] using h)]
/-- one that says that it is too long is none -/
theorem next_long (x : List UInt8) (c : UInt8) (h : 32 < c.toNat) : nextB (((putB x).take 3).set 2 c) = rej 11 := by
  unfold nextB measB
  rw [if_neg (by simp [putB, headB]), if_neg (by simp [putB, headB]), if_neg (by simp [putB, headB]), if_neg (by simp [putB, headB]), if_neg (by simp [putB, headB]), if_pos (by simpa [putB, headB] using h)]

theorem bit_test (m j : Nat) (hm : m < 65536) : (bits BinOp.and IntKind.u16 ((m : Int) / 2 ^ j) 1 == 1) = m.testBit j := by
  have e : ((m : Int) / 2 ^ j) = ((m / 2 ^ j : Nat) : Int) := by simp
  have h1 : m / 2 ^ j < 65536 := Nat.lt_of_le_of_lt (Nat.div_le_self _ _) hm
  have h2 := u16_and_nat (m / 2 ^ j) 1 h1 (by decide)
  rw [Nat.and_one_is_mod] at h2
  rw [e]
  rw [show ((1 : Nat) : Int) = 1 by rfl] at h2
  rw [h2, Nat.testBit_eq_decide_div_mod_eq, Bool.eq_iff_iff, beq_iff_eq, decide_eq_true_iff]
  omega
theorem turn_bit (c : UInt8) (s : Nat) (hs : s < 8) : bits BinOp.xor IntKind.u8 (c.toNat : Int) (128 / 2 ^ s) = ((c ^^^ UInt8.ofNat (2 ^ (7 - s))).toNat : Int) := by
  have e : ((128 : Int) / 2 ^ s) = ((2 ^ (7 - s) : Nat) : Int) ∧ 2 ^ (7 - s) < 256 := by
    have h : s = 0 ∨ s = 1 ∨ s = 2 ∨ s = 3 ∨ s = 4 ∨ s = 5 ∨ s = 6 ∨ s = 7 := by omega
    rcases h with rfl | rfl | rfl | rfl | rfl | rfl | rfl | rfl <;> decide
  rw [e.1, u8_xor_nat _ _ c.toNat_lt e.2, UInt8.toNat_xor, UInt8.toNat_ofNat', Nat.mod_eq_of_lt e.2]
theorem or_top (t : Nat) (h : t < 65536) : bits BinOp.or IntKind.u16 (t : Int) 32768 = ((t ||| 32768 : Nat) : Int) := u16_or_nat t 32768 h (by decide)
theorem and_127 (t : Nat) (h : t < 65536) : bits BinOp.and IntKind.u16 (t : Int) 127 = ((t % 128 : Nat) : Int) := by
  have := u16_and_nat t 127 h (by decide)
  rw [show (127 : Nat) = 2 ^ 7 - 1 by decide, Nat.and_two_pow_sub_one_eq_mod] at this
  exact this
end Go.Proofs.Ytafhfimkgaecjaa.frame
