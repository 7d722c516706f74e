/-
  PLAIN FACTS OF BYTES: a number as so many bytes, the highest one first, and back. No program.
-/
import Derived.Test.YtjpfdpjkffkleaaRows
import Derived.WalkKit
import Derived.ProofKit
import Derived.Deep.OwnRows
import Derived.Lib.SlBytesRow
import Derived.Lib.Hide
import Derived.Laws.OwnMore
import Derived.Maps.AppendAt
import Derived.OwnWalk
namespace Go.Proofs.Ytjpfdpjkffkleaa.octets
open Go.RowKit

/-- n as k bytes, the highest one first (what is too great counts modulo what there is room for) -/
def octs : Nat → Nat → List UInt8
  | 0, _ => []
  | k + 1, n => octs k (n / 256) ++ [UInt8.ofNat n]
/-- the number that bytes are -/
def num (l : List UInt8) : Nat := l.foldl (fun a c => a * 256 + c.toNat) 0

theorem octs_len : ∀ k n, (octs k n).length = k
  | 0, _ => rfl
  | k + 1, n => by simp [octs, octs_len k]
theorem num_snoc (l : List UInt8) (c : UInt8) : num (l ++ [c]) = num l * 256 + c.toNat := by simp [num, List.foldl_append]
theorem num_octs : ∀ k n, num (octs k n) = n % 256 ^ k
  | 0, n => by simp [octs, num, Nat.mod_one]
  | k + 1, n => by
    have hp : (256 : Nat) ^ (k + 1) = 256 * 256 ^ k := Nat.pow_succ' ..
    rw [octs, num_snoc, num_octs k, UInt8.toNat_ofNat', hp, Nat.mod_mul (a := 256) (b := 256 ^ k)]
    omega
theorem num_back {k n : Nat} (h : n < 256 ^ k) : num (octs k n) = n := by rw [num_octs, Nat.mod_eq_of_lt h]
theorem octs_num_aux : ∀ k (l : List UInt8), l.length = k → octs k (num l) = l
  | 0, l, h => by rw [List.length_eq_zero_iff.1 h]; rfl
  | k + 1, l, h => by
    have hne : l ≠ [] := by intro e; rw [e] at h; cases h
    obtain ⟨m, c, rfl⟩ : ∃ m c, l = m ++ [c] := ⟨l.dropLast, l.getLast hne, (List.dropLast_concat_getLast hne).symm⟩
    have hm : m.length = k := by simpa using h
    have hc := c.toNat_lt
    have e1 : (num m * 256 + c.toNat) / 256 = num m := by omega
    have e2 : UInt8.ofNat (num m * 256 + c.toNat) = c := by
      apply UInt8.toNat_inj.1
      rw [UInt8.toNat_ofNat']
      omega
    rw [num_snoc, octs, e1, e2, octs_num_aux k m hm]
theorem octs_num (l : List UInt8) : octs l.length (num l) = l := octs_num_aux _ l rfl
theorem num_lt (l : List UInt8) : num l < 256 ^ l.length := by
  have h := num_octs l.length (num l)
  rw [octs_num] at h
  rw [h]
  exact Nat.mod_lt _ (Nat.pow_pos (by decide))
theorem octs_inj {k a b : Nat} (ha : a < 256 ^ k) (hb : b < 256 ^ k) (h : octs k a = octs k b) : a = b := by
  rw [← num_back ha, ← num_back hb, h]
theorem octs_get : ∀ k n j, j < k → (octs k n).getD j 0 = UInt8.ofNat (n / 256 ^ (k - 1 - j))
  | 0, _, _, h => by omega
  | k + 1, n, j, h => by
    rw [octs]
    by_cases hj : j < k
    · have := octs_get k (n / 256) j hj
      rw [List.getD_eq_getElem?_getD, List.getElem?_append_left (by rw [octs_len]; exact hj), ← List.getD_eq_getElem?_getD, this, Nat.div_div_eq_div_mul, ← Nat.pow_succ']
      congr 3
      omega
    · obtain rfl : j = k := by omega
      rw [List.getD_eq_getElem?_getD, List.getElem?_append_right (by rw [octs_len]; omega), octs_len]
      simp
theorem octs_byte {k n j : Nat} (h : j < k) : ((octs k n).getD j 0).toNat = n / 256 ^ (k - 1 - j) % 256 := by
  rw [octs_get k n j h, UInt8.toNat_ofNat']
/-- put together: the bytes of the higher part, those of the lower one behind them -/
theorem octs_add : ∀ k m x y, y < 256 ^ k → octs (m + k) (x * 256 ^ k + y) = octs m x ++ octs k y
  | 0, m, x, y, h => by
    obtain rfl : y = 0 := by simpa using h
    simp [octs]
  | k + 1, m, x, y, h => by
    rw [← Nat.add_assoc, octs, octs]
    have hp : (256 : Nat) ^ (k + 1) = 256 ^ k * 256 := Nat.pow_succ ..
    have h2 : y / 256 < 256 ^ k := by rw [hp] at h; exact Nat.div_lt_of_lt_mul (by rw [Nat.mul_comm]; exact h)
    have e : (x * 256 ^ (k + 1) + y) / 256 = x * 256 ^ k + y / 256 := by rw [hp, ← Nat.mul_assoc]; omega
    have e3 : UInt8.ofNat (x * 256 ^ (k + 1) + y) = UInt8.ofNat y := by
      apply UInt8.toNat_inj.1
      rw [UInt8.toNat_ofNat', UInt8.toNat_ofNat', hp, ← Nat.mul_assoc]
      omega
    rw [e, octs_add k m x (y / 256) h2, e3, List.append_assoc]
/-- in one byte fewer just if the first one is 0 -/
theorem octs_cons (k n : Nat) (h : n < 256 ^ k) : octs (k + 1) n = 0 :: octs k n := by
  have e := octs_add k 1 0 n h
  rw [Nat.zero_mul, Nat.zero_add, Nat.add_comm] at e
  rw [e]; rfl
theorem octs_head (k n : Nat) (h : n < 256 ^ (k + 1)) : ((octs (k + 1) n).getD 0 0).toNat = n / 256 ^ k := by
  rw [octs_byte (by omega), Nat.mod_eq_of_lt]
  · simp
  · rw [Nat.add_sub_cancel, Nat.sub_zero]
    rw [Nat.pow_succ] at h
    exact Nat.div_lt_of_lt_mul h

/-- block b holds the bytes l, all of it, and none of them is frozen -/
def Row (w : World) (b : Nat) (l : List UInt8) : Prop := w.rowIs b 5 l.length (fun i => .int .u8 ((l.getD i 0).toNat : Int))

theorem Row.bytes {w : World} {b : Nat} {l : List UInt8} (h : Row w b l) : Lib.Bytes w b 0 ⟨l.toArray⟩ := by
  intro i hi
  have hi' : i < l.length := by simpa [ByteArray.size] using hi
  rw [Nat.zero_add, h.cell hi']
  congr 3
  simp only [List.getD, List.getElem?_eq_getElem hi', Option.getD_some]
  rfl
theorem Row.below {w w' : World} {b B : Nat} {l : List UInt8} (h : Row w b l) (hb : Below B w w') (hB : b < B) : Row w' b l := h.of_block (hb.block b hB)
theorem Row.since {w w' : World} {b : Nat} {l : List UInt8} (h : Row w b l) (hb : Below w.heap.size w w') : Row w' b l := h.of_block (hb.block b h.lt)

theorem Row.drewN {w : World} {b : Nat} {l : List UInt8} (h : Row w b l) (q : Nat) : Row (w.drewN q) b l := h.of_block rfl

theorem Row.alloc_ {w : World} {b : Nat} {l : List UInt8} (h : Row w b l) (o : Obj) : Row (w.alloc o) b l := h.alloc o
theorem Row.grown {w w' : World} {b : Nat} {l : List UInt8} {row : Option Nat} (h : Row w b l) (hg : w.grownBy w' row) (hne : some b ≠ row) : Row w' b l := h.of_block (hg.block b h.lt hne)

theorem text_ext {s : ByteArray} {l : List UInt8} (h : s.data.toList = l) : s = ⟨l.toArray⟩ := by
  subst h; cases s; simp
/-- what the cells of bytes hold -/
def vals (l : List UInt8) : List Value := l.map fun c => .int .u8 (c.toNat : Int)
theorem vals_len (l : List UInt8) : (vals l).length = l.length := by simp [vals]
theorem vals_add (l m : List UInt8) : vals (l ++ m) = vals l ++ vals m := by simp [vals]
theorem vals_get {l : List UInt8} {i : Nat} (h : i < l.length) : (vals l)[i]? = some (.int .u8 (l[i].toNat : Int)) := by simp [vals, h]
theorem vals_one (l : List UInt8) : ∀ u ∈ vals l, u.oneCell' = true := by
  intro u hu
  obtain ⟨c, _, rfl⟩ := List.mem_map.1 hu
  rfl

/-- from A on the bytes l can be read -/
def Seen (w : World) (A : Option Addr) (l : List UInt8) : Prop :=
  l ≠ [] → ∃ b o, A = some ⟨b, o, none⟩ ∧ b < w.heap.size ∧ ∀ i (h : i < l.length), w.cell? ⟨b, o + i, none⟩ = some (.int .u8 (l[i].toNat : Int))

theorem Row.seen {w : World} {b : Nat} {l : List UInt8} (h : Row w b l) : Seen w (some ⟨b, 0, none⟩) l := by
  intro _
  refine ⟨b, 0, rfl, h.lt, fun i hi => ?_⟩
  rw [Nat.zero_add, h.cell hi]
  simp [hi]
theorem Seen.none_ (w : World) (A : Option Addr) : Seen w A [] := fun h => absurd rfl h
theorem Seen.at_ {w : World} {A : Option Addr} {l : List UInt8} (h : Seen w A l) {k : Nat} (hk : k < l.length) : ∃ b o, A = some ⟨b, o, none⟩ ∧ b < w.heap.size ∧ ∀ i (h : i < l.length), w.cell? ⟨b, o + i, none⟩ = some (.int .u8 (l[i].toNat : Int)) :=
  h (by intro e; rw [e] at hk; simp at hk)
theorem Seen.keep {w w' : World} {A : Option Addr} {l : List UInt8} (h : Seen w A l) (hz : w.heap.size ≤ w'.heap.size) (hk : ∀ p : Addr, p.block < w.heap.size → w'.cell? p = w.cell? p) : Seen w' A l := by
  intro hn
  obtain ⟨b, o, e, hb, hc⟩ := h hn
  exact ⟨b, o, e, by omega, fun i hi => (hk _ hb).trans (hc i hi)⟩
theorem Seen.since {w w' : World} {A : Option Addr} {l : List UInt8} (h : Seen w A l) (hb : Below w.heap.size w w') : Seen w' A l := h.keep hb.size fun _ hp => hb.cell hp
theorem Seen.alloc {w : World} {A : Option Addr} {l : List UInt8} (h : Seen w A l) (o : Obj) : Seen (w.alloc o) A l := h.keep (by simp) fun p hp => World.cell?_alloc_lt w o p hp
theorem Seen.drewN {w : World} {A : Option Addr} {l : List UInt8} (h : Seen w A l) (q : Nat) : Seen (w.drewN q) A l := h
theorem Row.own {w : World} {base b : Nat} {l : List UInt8} (h : Row w b l) (hb : base ≤ b) (hm : l.length ≤ maxLen) : w.ownsRow base 5 1 (.slice (some ⟨b, 0, none⟩) l.length l.length) l.length (vals l) := by
  obtain ⟨c, h1, h2, h3⟩ := h
  refine ⟨by rw [vals_len, Nat.mul_one], .inr ⟨b, l.length, c, rfl, hb, h1, Nat.le_refl _, hm, by rw [h2, Nat.mul_one], ?_⟩⟩
  rw [Nat.mul_one, List.take_of_length_le (by simp [h2])]
  apply List.ext_getElem?
  intro i
  by_cases hi : i < l.length
  · rw [vals_get hi, Array.getElem?_toList, h3 i hi]
    simp [hi]
  · rw [List.getElem?_eq_none (by simp [h2]; omega), List.getElem?_eq_none (by rw [vals_len]; omega)]
theorem seen_own {w : World} {base : Nat} {v : Value} {l : List UInt8} (h : w.ownsRow base 5 1 v l.length (vals l)) : ∃ A c, v = .slice A l.length c ∧ Seen w A l := by
  rcases h.2 with ⟨rfl, h0⟩ | ⟨g, cap, cur, rfl, _, hh, hn, _, hs, ht⟩
  · have : l = [] := List.eq_nil_of_length_eq_zero h0
    subst this
    exact ⟨none, 0, rfl, Seen.none_ _ _⟩
  · refine ⟨_, cap, rfl, fun _ => ⟨g, 0, rfl, ?_, fun i hi => ?_⟩⟩
    · exact (Array.getElem?_eq_some_iff.1 hh).1
    · rw [Nat.zero_add]
      have e : cur.toList[i]? = some (.int .u8 (l[i].toNat : Int)) := by
        rw [← vals_get hi, ← ht, List.getElem?_take_of_lt (by omega)]
      simp [World.cell?, hh] at e ⊢
      exact e
theorem u8_info : (Try.prog.info? 5).map (fun i => (i.zero, i.size, i.bytes)) = some (some (.int .u8 0), 1, 1) := by kernel_rfl
/-- a slice of no bytes, just made -/
theorem own_none (w : World) (base : Nat) (hb : base ≤ w.heap.size) : (w.alloc (.cells #[] 5)).ownsRow base 5 1 (.slice (some ⟨w.heap.size, 0, none⟩) 0 0) ([] : List UInt8).length (vals []) :=
  ⟨rfl, .inr ⟨w.heap.size, 0, #[], rfl, hb, Go.Deep.blk_alloc_new _ _, Nat.le_refl _, Nat.zero_le _, rfl, rfl⟩⟩
theorem size_u8 (W : World) : (Go.sizeOf 5).run Try.prog W = .ok 1 W := by kernel_rfl
end Go.Proofs.Ytjpfdpjkffkleaa.octets
