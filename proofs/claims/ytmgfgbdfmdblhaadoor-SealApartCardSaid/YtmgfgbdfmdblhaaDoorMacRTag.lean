/-
  THE CONTRACTS OF the document's Of and Tag, for any key.
-/
import Derived.Test.YtmgfgbdfmdblhaaDoorMacRef
namespace Go.Proofs.YtmgfgbdfmdblhaaDoor.mac
open Go.RowKit Go.Proofs.YtmgfgbdfmdblhaaDoor.octets Go.Proofs.YtmgfgbdfmdblhaaDoor.sha Go.Proofs.YtmgfgbdfmdblhaaDoor.given
set_option linter.unusedVariables false
set_option linter.unusedSimpArgs false
/-- a tag written from the front on -/
def ft (T : List UInt8) (i : Nat) : List UInt8 := T.take i ++ List.replicate (8 - i) 0
theorem ft_len (T : List UInt8) (h : T.length = 8) (i : Nat) (hi : i ≤ 8) : (ft T i).length = 8 := by simp [ft, h]; omega
theorem ft_zero (T : List UInt8) : ft T 0 = List.replicate 8 0 := by simp [ft]
theorem ft_all (T : List UInt8) (h : T.length = 8) : ft T 8 = T := by rw [ft, List.take_of_length_le (by omega)]; simp
theorem ft_set (T : List UInt8) (h : T.length = 8) (i : Nat) (hi : i < 8) : (ft T i).set i (T[i]'(by omega)) = ft T (i + 1) := by
  have hl : (T.take i).length = i := by simp; omega
  rw [ft, ft, List.set_append_right _ _ (by omega), hl, Nat.sub_self, show 8 - i = (8 - (i + 1)) + 1 by omega, List.replicate_succ, List.set_cons_zero, List.take_succ_eq_append_getElem (by omega), List.append_assoc]
  rfl
end Go.Proofs.YtmgfgbdfmdblhaaDoor.mac
