/-
  PLAIN FACTS OF NUMBERS WITH A SIGN IN TWO BYTES, AND OF '&' WITH A ROW OF ONES. No function of the program.
-/
import Derived.Test.YtmgfgbdfmdblhaaDoorOctets
import Derived.OpenShut
import Derived.Laws.Bits64b
import Derived.WalkLawsBesides
namespace Go.Proofs.YtmgfgbdfmdblhaaDoor.pack
open Go.RowKit Go.Proofs.YtmgfgbdfmdblhaaDoor.octets

/-- '&' with a row of ones, of whatever number -/
theorem and_ones (x : Int) (j : Nat) (hj : j ≤ 62) : bits BinOp.and IntKind.i64 x ((2 ^ j - 1 : Nat) : Int) = x % ((2 ^ j : Nat) : Int) := by
  have hp : 2 ^ j ≤ 2 ^ 62 := Nat.pow_le_pow_right (by decide) hj
  have hpos : 0 < 2 ^ j := Nat.two_pow_pos j
  have h62 : (2 : Nat) ^ 62 = 4611686018427387904 := by decide
  have hd : (2 : Nat) ^ 64 = 2 ^ j * 2 ^ (64 - j) := by rw [← Nat.pow_add]; congr 1; omega
  show IntKind.i64.wrap ((BitVec.ofInt 64 x &&& BitVec.ofInt 64 ((2 ^ j - 1 : Nat) : Int)).toNat : Int) = _
  rw [BitVec.toNat_and, BitVec.ofInt_natCast, BitVec.toNat_ofNat, Nat.mod_eq_of_lt (by omega : 2 ^ j - 1 < 2 ^ 64), Nat.and_two_pow_sub_one_eq_mod, BitVec.toNat_ofInt]
  have h1 : ((x % ((2 ^ 64 : Nat) : Int)).toNat % 2 ^ j : Nat) < 2 ^ j := Nat.mod_lt _ hpos
  have h2 : (((x % ((2 ^ 64 : Nat) : Int)).toNat % 2 ^ j : Nat) : Int) = x % ((2 ^ j : Nat) : Int) := by
    have h0 : 0 ≤ x % ((2 ^ 64 : Nat) : Int) := Int.emod_nonneg _ (by decide)
    rw [Int.natCast_emod, Int.toNat_of_nonneg h0]
    have hdI : ((2 ^ 64 : Nat) : Int) = ((2 ^ j : Nat) : Int) * ((2 ^ (64 - j) : Nat) : Int) := by
      rw [hd]; exact Int.natCast_mul _ _
    rw [hdI]
    exact Int.emod_emod_of_dvd _ ⟨_, rfl⟩
  rw [← h2]
  generalize ((x % ((2 ^ 64 : Nat) : Int)).toNat % 2 ^ j : Nat) = m at h1
  rw [IntKind.wrap_i64]; omega
theorem and_16 (x : Int) : bits BinOp.and IntKind.i64 x 65535 = x % 65536 := and_ones x 16 (by decide)

/-- the number that a small one with a sign is told as -/
def sign (n : Int) : Nat := (n % 65536).toNat
theorem sign_lt (n : Int) : sign n < 65536 := by unfold sign; omega
def signed (n : Nat) : Int := if 32767 < n then (n : Int) - 65536 else n
theorem signed_sign {n : Int} (h1 : -32768 ≤ n) (h2 : n ≤ 32767) : signed (sign n) = n := by unfold signed sign; omega
theorem sign_inj {a b : Int} (a1 : -32768 ≤ a) (a2 : a ≤ 32767) (b1 : -32768 ≤ b) (b2 : b ≤ 32767) (h : sign a = sign b) : a = b := by unfold sign at h; omega
end Go.Proofs.YtmgfgbdfmdblhaaDoor.pack
