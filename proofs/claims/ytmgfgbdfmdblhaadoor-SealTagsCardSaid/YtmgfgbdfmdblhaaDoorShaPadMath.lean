/-
  PLAIN FACTS OF WHAT IS SUMMED, AND OF THE SUM AS BYTES. No program.
-/
import Derived.Test.YtmgfgbdfmdblhaaDoorShaMath
import Derived.Test.YtmgfgbdfmdblhaaDoorBytes
namespace Go.Proofs.YtmgfgbdfmdblhaaDoor.sha
open Go.RowKit Go.Proofs.YtmgfgbdfmdblhaaDoor.octets
set_option linter.unusedVariables false

/-! ### what is summed -/
/-- so many bytes, filled up -/
def padN (n : Nat) : Nat := (n + 72) / 64 * 64
def padL (l : List UInt8) : List UInt8 := l ++ 128 :: (List.replicate (padN l.length - l.length - 9) 0 ++ octs 8 (8 * l.length))
theorem padN_ge (n : Nat) : n + 9 ≤ padN n := by unfold padN; omega
theorem padN_le (n : Nat) : padN n ≤ n + 72 := by unfold padN; omega
theorem padN_mod (n : Nat) : padN n % 64 = 0 := by unfold padN; omega
theorem padL_len (l : List UInt8) : (padL l).length = padN l.length := by
  have := padN_ge l.length
  simp [padL, octs_len]; omega
theorem octs_front : ∀ (k n : Nat), octs (k + 1) n = UInt8.ofNat (n / 256 ^ k) :: octs k n
  | 0, n => by simp [octs]
  | k + 1, n => by
    rw [octs, octs_front k (n / 256), octs, Nat.div_div_eq_div_mul, ← Nat.pow_succ', List.cons_append]
/-- as pad is written, of which the last i bytes are there -/
def padS (l : List UInt8) (i : Nat) : List UInt8 := l ++ 128 :: (List.replicate (padN l.length - l.length - 1 - i) 0 ++ octs i (8 * l.length))
theorem padS_len (l : List UInt8) {i : Nat} (h : i ≤ 8) : (padS l i).length = padN l.length := by
  have := padN_ge l.length
  simp [padS, octs_len]; omega
theorem padS_eight (l : List UInt8) : padS l 8 = padL l := by
  have := padN_ge l.length
  rw [padS, padL, show padN l.length - l.length - 1 - 8 = padN l.length - l.length - 9 by omega]
theorem padS_set (l : List UInt8) {i : Nat} (h : i < 8) (c : UInt8) (hc : c = UInt8.ofNat (8 * l.length / 256 ^ i)) : (padS l i).set (padN l.length - 1 - i) c = padS l (i + 1) := by
  subst hc
  have hn := padN_ge l.length
  obtain ⟨m, hm⟩ : ∃ m, padN l.length - l.length - 1 - i = m + 1 := ⟨padN l.length - l.length - 1 - i - 1, by omega⟩
  have e1 : padN l.length - 1 - i = l.length + (1 + m) := by omega
  have e2 : padN l.length - l.length - 1 - (i + 1) = m := by omega
  rw [padS, padS, hm, e1, e2, octs_front, List.set_append_right _ _ (by omega), show l.length + (1 + m) - l.length = m + 1 by omega, List.set_cons_succ, List.replicate_succ', List.append_assoc, List.set_append_right _ _ (by simp)]
  simp
theorem padS_start (l : List UInt8) : (laid (List.replicate (padN l.length) 0) l).set l.length 128 = padS l 0 := by
  have hn := padN_ge l.length
  have e : laid (List.replicate (padN l.length) 0) l = l ++ List.replicate (padN l.length - l.length) 0 := by
    unfold laid
    rw [List.length_replicate, List.take_of_length_le (by omega), List.drop_replicate]
  obtain ⟨m, hm⟩ : ∃ m, padN l.length - l.length = m + 1 := ⟨padN l.length - l.length - 1, by omega⟩
  rw [e, List.set_append_right _ _ (Nat.le_refl _), Nat.sub_self, hm, List.replicate_succ, List.set_cons_zero, padS, hm]
  simp [octs]
end Go.Proofs.YtmgfgbdfmdblhaaDoor.sha
