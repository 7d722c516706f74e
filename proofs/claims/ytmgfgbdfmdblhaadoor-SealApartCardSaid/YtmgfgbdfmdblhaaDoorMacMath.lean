/-
  PLAIN FACTS OF mac: rows of bytes. No program.
-/
import Derived.Test.YtmgfgbdfmdblhaaDoorShaSumMath
namespace Go.Proofs.YtmgfgbdfmdblhaaDoor.mac
open Go.RowKit Go.Proofs.YtmgfgbdfmdblhaaDoor.octets Go.Proofs.YtmgfgbdfmdblhaaDoor.sha
set_option linter.unusedVariables false

/-- noughts behind it, up to 64 -/
def fillB (k : List UInt8) : List UInt8 := k ++ List.replicate (64 - k.length) 0
/-- the key's 64 bytes -/
def keyB (k : List UInt8) : List UInt8 := fillB (if 64 < k.length then sumB k else k)
def turnB (c : UInt8) (k : List UInt8) : List UInt8 := k.map (· ^^^ c)
def innerB (k b : List UInt8) : List UInt8 := sumB (turnB 54 (keyB k) ++ b)
def macB (k b : List UInt8) : List UInt8 := sumB (turnB 92 (keyB k) ++ innerB k b)
theorem fillB_len {k : List UInt8} (h : k.length ≤ 64) : (fillB k).length = 64 := by simp [fillB]; omega
theorem keyB_len (k : List UInt8) : (keyB k).length = 64 := by
  unfold keyB
  split
  · exact fillB_len (by rw [sumB_len]; decide)
  · exact fillB_len (by omega)
theorem turnB_len (c : UInt8) (k : List UInt8) : (turnB c k).length = k.length := by simp [turnB]
theorem innerB_len (k b : List UInt8) : (innerB k b).length = 32 := sumB_len _
theorem macB_len (k b : List UInt8) : (macB k b).length = 32 := sumB_len _
theorem keyB_long {k : List UInt8} (h : 64 < k.length) : keyB k = fillB (sumB k) := by rw [keyB, if_pos h]
theorem keyB_short {k : List UInt8} (h : ¬ 64 < k.length) : keyB k = fillB k := by rw [keyB, if_neg h]
theorem keyB_sum {k : List UInt8} (h : 64 < k.length) : keyB (sumB k) = keyB k := by
  rw [keyB_long h, keyB_short (by rw [sumB_len]; decide)]
theorem fillB_noughts (k : List UInt8) (n : Nat) (h : k.length + n ≤ 64) : fillB (k ++ List.replicate n 0) = fillB k := by
  rw [fillB, fillB, List.append_assoc, List.replicate_append_replicate, List.length_append, List.length_replicate, show n + (64 - (k.length + n)) = 64 - k.length by omega]
theorem keyB_noughts (k : List UInt8) (n : Nat) (h : k.length + n ≤ 64) : keyB (k ++ List.replicate n 0) = keyB k := by
  rw [keyB_short (by rw [List.length_append, List.length_replicate]; omega), keyB_short (by omega), fillB_noughts k n h]
theorem macB_sum {k : List UInt8} (b : List UInt8) (h : 64 < k.length) : macB (sumB k) b = macB k b := by
  unfold macB innerB; rw [keyB_sum h]
theorem macB_noughts (k b : List UInt8) (n : Nat) (h : k.length + n ≤ 64) : macB (k ++ List.replicate n 0) b = macB k b := by
  unfold macB innerB; rw [keyB_noughts k n h]
theorem macB_made (k b : List UInt8) : macB k b = sumB (turnB 92 (keyB k) ++ sumB (turnB 54 (keyB k) ++ b)) := rfl

/-! ### the key, turned byte by byte -/
def tr (c : UInt8) (k : List UInt8) (i : Nat) : List UInt8 := turnB c (k.take i) ++ k.drop i
theorem tr_len (c : UInt8) (k : List UInt8) (i : Nat) : (tr c k i).length = k.length := by simp [tr, turnB_len]; omega
theorem tr_zero (c : UInt8) (k : List UInt8) : tr c k 0 = k := by simp [tr, turnB]
theorem tr_all (c : UInt8) (k : List UInt8) (i : Nat) (h : k.length ≤ i) : tr c k i = turnB c k := by
  rw [tr, List.take_of_length_le h, List.drop_of_length_le h, List.append_nil]
theorem tr_get (c : UInt8) (k : List UInt8) (i : Nat) (h : i < k.length) : (tr c k i)[i]? = some k[i] := by
  rw [tr, List.getElem?_append_right (by rw [turnB_len]; simp; omega), turnB_len, List.length_take, show i - min i k.length = 0 by omega]
  simp [h]
theorem take_snoc {α} (l : List α) (i : Nat) (h : i < l.length) : l.take (i + 1) = l.take i ++ [l[i]] := List.take_succ_eq_append_getElem h
theorem turn_snoc (c : UInt8) (k : List UInt8) (i : Nat) (h : i < k.length) : turnB c (k.take i) ++ [k[i] ^^^ c] = turnB c (k.take (i + 1)) := by
  rw [take_snoc k i h, turnB, turnB, List.map_append]; rfl
theorem tr_set (c : UInt8) (k : List UInt8) (i : Nat) (h : i < k.length) : (tr c k i).set i (k[i] ^^^ c) = tr c k (i + 1) := by
  have hl : (turnB c (k.take i)).length = i := by rw [turnB_len, List.length_take]; omega
  rw [tr, tr, List.drop_eq_getElem_cons h, List.set_append_right _ _ (by omega), hl, Nat.sub_self, List.set_cons_zero, ← turn_snoc c k i h]
  simp
/-! ### bytes that are apart -/
def ap (a b : List UInt8) : Nat → UInt8
  | 0 => 0
  | i + 1 => ap a b i ||| (a.getD i 0 ^^^ b.getD i 0)
theorem or_zero (x y : UInt8) : x ||| y = 0 ↔ x = 0 ∧ y = 0 := by
  constructor
  · intro h
    have := congrArg UInt8.toNat h
    rw [UInt8.toNat_or] at this
    have h2 : x.toNat ||| y.toNat = 0 := this
    have := Nat.or_eq_zero_iff.1 h2
    exact ⟨UInt8.toNat_inj.1 this.1, UInt8.toNat_inj.1 this.2⟩
  · rintro ⟨rfl, rfl⟩; rfl
theorem xor_zero (x y : UInt8) : x ^^^ y = 0 ↔ x = y := by
  constructor
  · intro h
    have := congrArg UInt8.toNat h
    rw [UInt8.toNat_xor] at this
    have h2 : x.toNat ^^^ y.toNat = 0 := this
    exact UInt8.toNat_inj.1 (by
      have h3 : x.toNat ^^^ (x.toNat ^^^ y.toNat) = y.toNat := by rw [← Nat.xor_assoc, Nat.xor_self, Nat.zero_xor]
      rw [h2, Nat.xor_zero] at h3
      exact h3)
  · rintro rfl; simp
theorem ap_zero (a b : List UInt8) : ∀ n, ap a b n = 0 ↔ ∀ i, i < n → a.getD i 0 = b.getD i 0
  | 0 => by simp [ap]
  | n + 1 => by
    rw [ap, or_zero, ap_zero a b n, xor_zero]
    constructor
    · rintro ⟨h1, h2⟩ i hi
      by_cases e : i = n
      · subst e; exact h2
      · exact h1 i (by omega)
    · intro h
      exact ⟨fun i hi => h i (by omega), h n (by omega)⟩
theorem ap_same (a b : List UInt8) (h : a.length = b.length) : decide (ap a b a.length = 0) = decide (a = b) := by
  have : (ap a b a.length = 0) ↔ a = b := by
    rw [ap_zero]
    constructor
    · intro hi
      apply List.ext_getElem h
      intro i h1 h2
      have := hi i h1
      simpa [List.getD_eq_getElem?_getD, h1, h2] using this
    · rintro rfl i _; rfl
  simp [this]
/-! ### what the program's operations are on bytes -/
theorem u8_lt (x : UInt8) : x.toNat < 256 := x.toNat_lt
theorem u8_xor (x y : UInt8) : bits BinOp.xor IntKind.u8 (x.toNat : Int) (y.toNat : Int) = ((x ^^^ y).toNat : Int) := by
  rw [u8_xor_nat _ _ (u8_lt x) (u8_lt y), UInt8.toNat_xor]
theorem u8_or (x y : UInt8) : bits BinOp.or IntKind.u8 (x.toNat : Int) (y.toNat : Int) = ((x ||| y).toNat : Int) := by
  rw [u8_or_nat _ _ (u8_lt x) (u8_lt y), UInt8.toNat_or]
theorem u8_zero (x : UInt8) : decide ((x.toNat : Int) = 0) = decide (x = 0) := by
  have : ((x.toNat : Int) = 0) ↔ x = 0 := by
    rw [← UInt8.toNat_inj]; simp
  exact decide_eq_decide.2 this
end Go.Proofs.YtmgfgbdfmdblhaaDoor.mac
