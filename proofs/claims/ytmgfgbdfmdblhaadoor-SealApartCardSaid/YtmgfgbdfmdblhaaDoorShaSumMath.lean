/-
  PLAIN FACTS OF THE SUM AS BYTES. No program.
-/
import Derived.Test.YtmgfgbdfmdblhaaDoorShaPadMath
namespace Go.Proofs.YtmgfgbdfmdblhaaDoor.sha
open Go.RowKit Go.Proofs.YtmgfgbdfmdblhaaDoor.octets
set_option linter.unusedVariables false
def allB (h : List UInt32) : List UInt8 := (h.map fun n => octs 4 n.toNat).flatten
theorem allB_len : ∀ h : List UInt32, (allB h).length = 4 * h.length
  | [] => rfl
  | n :: h => by
    have := allB_len h
    simp only [allB, List.map_cons, List.flatten_cons, List.length_append, octs_len, List.length_cons] at this ⊢
    omega
theorem allB_snoc (h : List UInt32) (n : UInt32) : allB (h ++ [n]) = allB h ++ octs 4 n.toNat := by simp [allB]
theorem allB_get (h : List UInt32) (i j : Nat) (hi : i < h.length) (hj : j < 4) : (allB h)[4 * i + j]? = some ((octs 4 (h.getD i 0).toNat).getD j 0) := by
  have e : allB h = allB (h.take i) ++ (octs 4 (h.getD i 0).toNat ++ allB (h.drop (i + 1))) := by
    have h1 : h = h.take i ++ (h.getD i 0 :: h.drop (i + 1)) := by
      rw [List.getD_eq_getElem?_getD, List.getElem?_eq_getElem hi, Option.getD_some, ← List.drop_eq_getElem_cons hi, List.take_append_drop]
    conv => lhs; rw [h1]
    simp [allB]
  have hl : (allB (h.take i)).length = 4 * i := by rw [allB_len, List.length_take]; omega
  rw [e, List.getElem?_append_right (by rw [hl]; omega), hl, show 4 * i + j - 4 * i = j by omega, List.getElem?_append_left (by rw [octs_len]; exact hj)]
  generalize (h.getD i 0).toNat = n
  rw [List.getD_eq_getElem?_getD, List.getElem?_eq_getElem (by rw [octs_len]; exact hj)]
  rfl
/-- as the bytes are written: i numbers, and the last j bytes of the next one -/
def aS (h : List UInt32) (i j : Nat) : List UInt8 := allB (h.take i) ++ (List.replicate (4 - j) 0 ++ (octs j (h.getD i 0).toNat ++ List.replicate (28 - 4 * i) 0))
theorem aS_len (h : List UInt32) (hh : h.length = 8) (i j : Nat) (hi : i < 8) (hj : j ≤ 4) : (aS h i j).length = 32 := by
  have hl : (allB (h.take i)).length = 4 * i := by rw [allB_len, List.length_take]; omega
  simp [aS, hl, octs_len]; omega
theorem aS_set (h : List UInt32) (hh : h.length = 8) (i j : Nat) (hi : i < 8) (hj : j < 4) (c : UInt8) (hc : c = UInt8.ofNat ((h.getD i 0).toNat / 256 ^ j)) : (aS h i j).set (4 * i + 3 - j) c = aS h i (j + 1) := by
  subst hc
  have hl : (allB (h.take i)).length = 4 * i := by rw [allB_len, List.length_take]; omega
  obtain ⟨m, hm⟩ : ∃ m, 4 - j = m + 1 := ⟨3 - j, by omega⟩
  rw [aS, aS, List.set_append_right _ _ (by rw [hl]; omega), hl, show 4 * i + 3 - j - 4 * i = m by omega, hm, show 4 - (j + 1) = m by omega, octs_front, List.replicate_succ', List.append_assoc, List.set_append_right _ _ (by simp)]
  simp
/-- of the whole row, with i numbers there -/
def aR (h : List UInt32) (i : Nat) : List UInt8 := allB (h.take i) ++ List.replicate (32 - 4 * i) 0
theorem aR_len (h : List UInt32) (hh : h.length = 8) (i : Nat) (hi : i ≤ 8) : (aR h i).length = 32 := by
  have hl : (allB (h.take i)).length = 4 * i := by rw [allB_len, List.length_take]; omega
  simp [aR, hl]; omega
theorem aR_zero (h : List UInt32) : aR h 0 = List.replicate 32 0 := by simp [aR, allB]
theorem aR_all (h : List UInt32) (hh : h.length = 8) : aR h 8 = allB h := by simp [aR, List.take_of_length_le (show h.length ≤ 8 by omega)]
theorem aS_start (h : List UInt32) (i : Nat) (hi : i < 8) : aS h i 0 = aR h i := by
  rw [aS, aR, show 32 - 4 * i = 4 + (28 - 4 * i) by omega, ← List.replicate_append_replicate]
  simp [octs]
theorem aS_end (h : List UInt32) (hh : h.length = 8) (i : Nat) (hi : i < 8) : aS h i 4 = aR h (i + 1) := by
  have e : h.take (i + 1) = h.take i ++ [h.getD i 0] := by
    rw [List.take_succ_eq_append_getElem (by omega), List.getD_eq_getElem?_getD, List.getElem?_eq_getElem (by omega)]; rfl
  rw [aS, aR, e, allB_snoc, show 32 - 4 * (i + 1) = 28 - 4 * i by omega]
  simp
def sumB (l : List UInt8) : List UInt8 := allB (hs (padL l) (padN l.length / 64))
theorem sumB_len (l : List UInt8) : (sumB l).length = 32 := by rw [sumB, allB_len, hs_len]
end Go.Proofs.YtmgfgbdfmdblhaaDoor.sha
