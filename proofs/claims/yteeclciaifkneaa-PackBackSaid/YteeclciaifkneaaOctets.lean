/-
  PLAIN FACTS OF BYTES: a number as so many bytes, the highest one first, and back. No program.
-/
import Derived.Test.YteeclciaifkneaaRows
import Derived.WalkKit
import Derived.ProofKit
import Derived.Deep.OwnRows
import Derived.Lib.SlBytesRow
import Derived.Lib.Hide
namespace Go.Proofs.Yteeclciaifkneaa.octets
open Go.RowKit

/-- n as k bytes, the highest one first (what is too great counts modulo what there is room for) -/
def octs : Nat → Nat → List UInt8
  | 0, _ => []
  | k + 1, n => octs k (n / 256) ++ [UInt8.ofNat n]
/-- the number that bytes are -/
def num (l : List UInt8) : Nat := l.foldl (fun a c => a * 256 + c.toNat) 0

theorem octs_len : ∀ k n, (octs k n).length = k
  | 0, _ => rfl
  | k + 1, n => by simp [octs, octs_len k]
theorem num_snoc (l : List UInt8) (c : UInt8) : num (l ++ [c]) = num l * 256 + c.toNat := by simp [num, List.foldl_append]
theorem num_octs : ∀ k n, num (octs k n) = n % 256 ^ k
  | 0, n => by simp [octs, num, Nat.mod_one]
  | k + 1, n => by
    have hp : (256 : Nat) ^ (k + 1) = 256 * 256 ^ k := Nat.pow_succ' ..
    rw [octs, num_snoc, num_octs k, UInt8.toNat_ofNat', hp, Nat.mod_mul (a := 256) (b := 256 ^ k)]
    omega
theorem num_back {k n : Nat} (h : n < 256 ^ k) : num (octs k n) = n := by rw [num_octs, Nat.mod_eq_of_lt h]
theorem octs_num_aux : ∀ k (l : List UInt8), l.length = k → octs k (num l) = l
  | 0, l, h => by rw [List.length_eq_zero_iff.1 h]; rfl
  | k + 1, l, h => by
    have hne : l ≠ [] := by intro e; rw [e] at h; cases h
    obtain ⟨m, c, rfl⟩ : ∃ m c, l = m ++ [c] := ⟨l.dropLast, l.getLast hne, (List.dropLast_concat_getLast hne).symm⟩
    have hm : m.length = k := by simpa using h
    have hc := c.toNat_lt
    have e1 : (num m * 256 + c.toNat) / 256 = num m := by omega
    have e2 : UInt8.ofNat (num m * 256 + c.toNat) = c := by
      apply UInt8.toNat_inj.1
      rw [UInt8.toNat_ofNat']
      omega
    rw [num_snoc, octs, e1, e2, octs_num_aux k m hm]
theorem octs_num (l : List UInt8) : octs l.length (num l) = l := octs_num_aux _ l rfl
theorem num_lt (l : List UInt8) : num l < 256 ^ l.length := by
  have h := num_octs l.length (num l)
  rw [octs_num] at h
  rw [h]
  exact Nat.mod_lt _ (Nat.pow_pos (by decide))
theorem octs_inj {k a b : Nat} (ha : a < 256 ^ k) (hb : b < 256 ^ k) (h : octs k a = octs k b) : a = b := by
  rw [← num_back ha, ← num_back hb, h]
theorem octs_get : ∀ k n j, j < k → (octs k n).getD j 0 = UInt8.ofNat (n / 256 ^ (k - 1 - j))
  | 0, _, _, h => by omega
  | k + 1, n, j, h => by
    rw [octs]
    by_cases hj : j < k
    · have := octs_get k (n / 256) j hj
      rw [List.getD_eq_getElem?_getD, List.getElem?_append_left (by rw [octs_len]; exact hj), ← List.getD_eq_getElem?_getD, this, Nat.div_div_eq_div_mul, ← Nat.pow_succ']
      congr 3
      omega
    · obtain rfl : j = k := by omega
      rw [List.getD_eq_getElem?_getD, List.getElem?_append_right (by rw [octs_len]; omega), octs_len]
      simp
theorem octs_byte {k n j : Nat} (h : j < k) : ((octs k n).getD j 0).toNat = n / 256 ^ (k - 1 - j) % 256 := by
  rw [octs_get k n j h, UInt8.toNat_ofNat']
/-- put together: the bytes of the higher part, those of the lower one behind them -/
theorem octs_add : ∀ k m x y, y < 256 ^ k → octs (m + k) (x * 256 ^ k + y) = octs m x ++ octs k y
  | 0, m, x, y, h => by
    obtain rfl : y = 0 := by simpa using h
    simp [octs]
  | k + 1, m, x, y, h => by
    rw [← Nat.add_assoc, octs, octs]
    have hp : (256 : Nat) ^ (k + 1) = 256 ^ k * 256 := Nat.pow_succ ..
    have h2 : y / 256 < 256 ^ k := by rw [hp] at h; exact Nat.div_lt_of_lt_mul (by rw [Nat.mul_comm]; exact h)
    have e : (x * 256 ^ (k + 1) + y) / 256 = x * 256 ^ k + y / 256 := by rw [hp, ← Nat.mul_assoc]; omega
    have e3 : UInt8.ofNat (x * 256 ^ (k + 1) + y) = UInt8.ofNat y := by
      apply UInt8.toNat_inj.1
      rw [UInt8.toNat_ofNat', UInt8.toNat_ofNat', hp, ← Nat.mul_assoc]
      omega
    rw [e, octs_add k m x (y / 256) h2, e3, List.append_assoc]
/-- in one byte fewer just if the first one is 0 -/
theorem octs_cons (k n : Nat) (h : n < 256 ^ k) : octs (k + 1) n = 0 :: octs k n := by
  have e := octs_add k 1 0 n h
  rw [Nat.zero_mul, Nat.zero_add, Nat.add_comm] at e
  rw [e]; rfl
theorem octs_head (k n : Nat) (h : n < 256 ^ (k + 1)) : ((octs (k + 1) n).getD 0 0).toNat = n / 256 ^ k := by
  rw [octs_byte (by omega), Nat.mod_eq_of_lt]
  · simp
  · rw [Nat.add_sub_cancel, Nat.sub_zero]
    rw [Nat.pow_succ] at h
    exact Nat.div_lt_of_lt_mul h

/-- block b holds the bytes l, all of it, and none of them is frozen -/
def Row (w : World) (b : Nat) (l : List UInt8) : Prop := w.rowIs b 5 l.length (fun i => .int .u8 ((l.getD i 0).toNat : Int))

theorem Row.bytes {w : World} {b : Nat} {l : List UInt8} (h : Row w b l) : Lib.Bytes w b 0 ⟨l.toArray⟩ := by
  intro i hi
  have hi' : i < l.length := by simpa [ByteArray.size] using hi
  rw [Nat.zero_add, h.cell hi']
  congr 3
  simp only [List.getD, List.getElem?_eq_getElem hi', Option.getD_some]
  rfl
theorem Row.below {w w' : World} {b B : Nat} {l : List UInt8} (h : Row w b l) (hb : Below B w w') (hB : b < B) : Row w' b l := h.of_block (hb.block b hB)
theorem Row.since {w w' : World} {b : Nat} {l : List UInt8} (h : Row w b l) (hb : Below w.heap.size w w') : Row w' b l := h.of_block (hb.block b h.lt)

theorem Row.drewN {w : World} {b : Nat} {l : List UInt8} (h : Row w b l) (q : Nat) : Row (w.drewN q) b l := h.of_block rfl

/-- 'string(b)' -/
theorem Row.text {w : World} {b : Nat} {l : List UInt8} (h : Row w b l) : (convert 24 9 (.slice (some ⟨b, 0, none⟩) l.length l.length)).run Try.prog w = .ok (.string ⟨l.toArray⟩) w := by
  have e := Lib.run_convert_whole (P := Try.prog) w 24 5 9 Try.underlying24 Try.underlying5 Try.underlying9 b 0 ⟨l.toArray⟩ h.bytes l.length
  have hs : (⟨l.toArray⟩ : ByteArray).size = l.length := by simp [ByteArray.size]
  rw [hs] at e
  exact e
/-- the same, how many there are told apart -/
theorem Row.str {w : World} {b : Nat} {l : List UInt8} (h : Row w b l) (n : Nat) (hn : l.length = n) (s : ByteArray) (hs : s = ⟨l.toArray⟩) : (convert 24 9 (.slice (some ⟨b, 0, none⟩) n n)).run Try.prog w = .ok (.string s) w := by
  subst hn hs; exact h.text
theorem text_ext {s : ByteArray} {l : List UInt8} (h : s.data.toList = l) : s = ⟨l.toArray⟩ := by
  subst h; cases s; simp
/-- 'string(b[j:j+n])' -/
theorem Row.window {w : World} {b : Nat} {l : List UInt8} (h : Row w b l) (j n c : Nat) (hj : j + n ≤ l.length) :
    (convert 24 9 (.slice (some ⟨b, j, none⟩) n c)).run Try.prog w = .ok (.string ⟨((l.drop j).take n).toArray⟩) w := by
  have e := Lib.run_convert_window (P := Try.prog) w 24 5 9 Try.underlying24 Try.underlying5 Try.underlying9 b 0 ⟨l.toArray⟩ h.bytes j n c (by simpa [ByteArray.size] using hj)
  rw [Nat.zero_add] at e
  rw [e]
  congr 2
  apply text_ext
  rw [Lib.extract_data]
  simp
theorem size_u8 (W : World) : (Go.sizeOf 5).run Try.prog W = .ok 1 W := by kernel_rfl
/-- 'b[1:]', and its string -/
theorem cut_one (b k : Nat) (hk : 0 < k) : ∃ A : Addr, (∀ W, (Instr.slice 24 (.slice (some ⟨b, 0, none⟩) k k) (some (.int .i64 1)) none none).run Try.prog W = .ok (.slice (some A) (k - 1) (k - 1)) W) ∧
    ∀ (W : World) (l : List UInt8), Row W b l → l.length = k → (convert 24 9 (.slice (some A) (k - 1) (k - 1))).run Try.prog W = .ok (.string ⟨l.tail.toArray⟩) W := by
  have he : (Try.prog).elem 24 = 5 := by simp [Program.elem, Try.underlying24]
  have ht : (Try.prog).underlying 24 = some (.slice ((Try.prog).elem 24)) := by rw [he]; exact Try.underlying24
  by_cases h1 : k = 1
  · subst h1
    refine ⟨⟨b, 0, none⟩, fun W => ?_, fun W l h hl => ?_⟩
    · rw [run_slice_l W _ _ _ _ ht .i64 1 (by decide) (by decide), he, size_u8]
      simp [Result.andThen, sliced]
    · rw [h.window 0 0 _ (by omega)]
      have : l.tail = [] := by apply List.eq_nil_of_length_eq_zero; simp; omega
      rw [this]; rfl
  · refine ⟨⟨b, 1, none⟩, fun W => ?_, fun W l h hl => ?_⟩
    · rw [run_slice_l W _ _ _ _ ht .i64 1 (by decide) (by omega), he, size_u8]
      simp [Result.andThen, sliced, Addr.add, h1]
    · rw [h.window 1 (k - 1) _ (by omega), List.take_of_length_le (by simp; omega), List.drop_one]
end Go.Proofs.Yteeclciaifkneaa.octets
