/-
  PLAIN FACTS OF THE SUM of package sha, over numbers of 32 bits. No program.
-/
import Derived.Test.YtmgfgbdfmdblhaaDoorOctets
import Derived.Laws.BitsAllLaws
namespace Go.Proofs.YtmgfgbdfmdblhaaDoor.sha
open Go.RowKit Go.Proofs.YtmgfgbdfmdblhaaDoor.octets
set_option linter.unusedVariables false

/-- x as the program holds it -/
def c32 (x : UInt32) : Value := .int .u32 (x.toNat : Int)
def cells32 (l : List UInt32) : List Value := l.map c32
theorem cells32_len (l : List UInt32) : (cells32 l).length = l.length := by simp [cells32]
theorem cells32_get {l : List UInt32} {i : Nat} (h : i < l.length) : (cells32 l)[i]? = some (.int .u32 (l[i].toNat : Int)) := by simp [cells32, c32, h]
theorem cells32_one (l : List UInt32) : ∀ u ∈ cells32 l, u.oneCell' = true := by
  intro u hu
  obtain ⟨c, _, rfl⟩ := List.mem_map.1 hu
  rfl

/-! ### what the program's operations are on such numbers -/
theorem u_lt (x : UInt32) : x.toNat < 4294967296 := x.toNat_lt
theorem u_xor (x y : UInt32) : bits BinOp.xor IntKind.u32 (x.toNat : Int) (y.toNat : Int) = ((x ^^^ y).toNat : Int) := by
  rw [u32_xor_nat _ _ (u_lt x) (u_lt y), UInt32.toNat_xor]
theorem u_and (x y : UInt32) : bits BinOp.and IntKind.u32 (x.toNat : Int) (y.toNat : Int) = ((x &&& y).toNat : Int) := by
  rw [u32_and_nat _ _ (u_lt x) (u_lt y), UInt32.toNat_and]
theorem u_or (x y : UInt32) : bits BinOp.or IntKind.u32 (x.toNat : Int) (y.toNat : Int) = ((x ||| y).toNat : Int) := by
  rw [u32_or_nat _ _ (u_lt x) (u_lt y), UInt32.toNat_or]
theorem u_add (x y : UInt32) : IntKind.u32.wrap ((x.toNat : Int) + (y.toNat : Int)) = ((x + y).toNat : Int) := by
  rw [IntKind.wrap_u32', UInt32.toNat_add]; omega
theorem u_add' (x y : UInt32) : ((x.toNat : Int) + (y.toNat : Int)) % 4294967296 = ((x + y).toNat : Int) := by
  rw [UInt32.toNat_add]; omega
theorem u_sum6 (z s c n t m : UInt32) : ((z.toNat : Int) + s.toNat + c.toNat + n.toNat + (t.toNat + m.toNat)) % 4294967296 = ((z + s + c + n + (t + m)).toNat : Int) := by
  simp only [UInt32.toNat_add]; omega
theorem u_sum5 (d z s c n : UInt32) : ((d.toNat : Int) + (z.toNat + s.toNat + c.toNat + n.toNat)) % 4294967296 = ((d + (z + s + c + n)).toNat : Int) := by
  simp only [UInt32.toNat_add]; omega
theorem u_sum4 (a b c d : UInt32) : ((a.toNat : Int) + b.toNat + c.toNat + d.toNat) % 4294967296 = ((a + b + c + d).toNat : Int) := by
  simp only [UInt32.toNat_add]; omega
theorem u_not (x : UInt32) : bits BinOp.xor IntKind.u32 IntKind.u32.max (x.toNat : Int) = ((~~~x).toNat : Int) := by
  have e : IntKind.u32.max = (((-1 : UInt32)).toNat : Int) := by decide
  rw [e, u_xor]
  congr 2
theorem u_not' (x : UInt32) : bits BinOp.xor IntKind.u32 (if IntKind.u32.signed = true then -1 else IntKind.u32.max) (x.toNat : Int) = ((~~~x).toNat : Int) := by
  rw [if_neg (by decide)]; exact u_not x
/-- turned to the right -/
def rotr (x : UInt32) (k : Nat) : UInt32 := UInt32.ofNat ((x.toNat / 2 ^ k) ||| (x.toNat * 2 ^ (32 - k) % 4294967296))
/-- moved down -/
def shr (x : UInt32) (k : Nat) : UInt32 := UInt32.ofNat (x.toNat / 2 ^ k)
theorem shr_nat (x : UInt32) (k : Nat) : (shr x k).toNat = x.toNat / 2 ^ k := by
  have h : x.toNat / 2 ^ k ≤ x.toNat := Nat.div_le_self _ _
  have := u_lt x
  rw [shr, UInt32.toNat_ofNat', Nat.mod_eq_of_lt (by omega)]
theorem rotr_nat (x : UInt32) (k : Nat) : (rotr x k).toNat = (x.toNat / 2 ^ k) ||| (x.toNat * 2 ^ (32 - k) % 4294967296) := by
  have h : x.toNat / 2 ^ k ≤ x.toNat := Nat.div_le_self _ _
  have := u_lt x
  have h2 : (x.toNat / 2 ^ k) ||| (x.toNat * 2 ^ (32 - k) % 4294967296) < 2 ^ 32 := Nat.or_lt_two_pow (by omega) (Nat.mod_lt _ (by decide))
  rw [rotr, UInt32.toNat_ofNat', Nat.mod_eq_of_lt h2]

/-! ### one round -/
def ch (e f g : UInt32) : UInt32 := e &&& f ||| ~~~e &&& g
def maj (a b c : UInt32) : UInt32 := a &&& b ||| a &&& c ||| b &&& c
def bs1 (e : UInt32) : UInt32 := rotr e 6 ^^^ rotr e 11 ^^^ rotr e 25
def bs0 (a : UInt32) : UInt32 := rotr a 2 ^^^ rotr a 13 ^^^ rotr a 22
def ss0 (x : UInt32) : UInt32 := rotr x 7 ^^^ rotr x 18 ^^^ shr x 3
def ss1 (y : UInt32) : UInt32 := rotr y 17 ^^^ rotr y 19 ^^^ shr y 10
theorem ch_xor (e f g : UInt32) : (e &&& f) ^^^ (~~~e &&& g) = ch e f g := by
  unfold ch
  apply UInt32.toBitVec_inj.1
  simp only [UInt32.toBitVec_xor, UInt32.toBitVec_and, UInt32.toBitVec_or, UInt32.toBitVec_not]
  apply BitVec.eq_of_getLsbD_eq
  intro i hi
  simp only [BitVec.getLsbD_xor, BitVec.getLsbD_and, BitVec.getLsbD_or, BitVec.getLsbD_not, hi, decide_true, Bool.true_and]
  cases e.toBitVec.getLsbD i <;> simp
def rnd (h : List UInt32) (n : UInt32) : List UInt32 :=
  let s := h.getD 7 0 + bs1 (h.getD 4 0) + ch (h.getD 4 0) (h.getD 5 0) (h.getD 6 0) + n
  let t := bs0 (h.getD 0 0) + maj (h.getD 0 0) (h.getD 1 0) (h.getD 2 0)
  [s + t, h.getD 0 0, h.getD 1 0, h.getD 2 0, h.getD 3 0 + s, h.getD 4 0, h.getD 5 0, h.getD 6 0]
theorem rnd_len (h : List UInt32) (n : UInt32) : (rnd h n).length = 8 := rfl
theorem eight {α : Type} {h : List α} (e : h.length = 8) : ∃ a b c d x f g z, h = [a, b, c, d, x, f, g, z] := by
  match h, e with
  | [a, b, c, d, x, f, g, z], _ => exact ⟨a, b, c, d, x, f, g, z, rfl⟩

/-! ### the words of a block -/
def wrd (b : List UInt8) (i : Nat) : UInt32 := UInt32.ofNat (num ((b.drop (4 * i)).take 4))
def nxt (l : List UInt32) : UInt32 := l.getD (l.length - 16) 0 + l.getD (l.length - 7) 0 + ss0 (l.getD (l.length - 15) 0) + ss1 (l.getD (l.length - 2) 0)
def wl (b : List UInt8) : Nat → List UInt32
  | 0 => []
  | i + 1 => wl b i ++ [if i < 16 then wrd b i else nxt (wl b i)]
theorem wl_len (b : List UInt8) : ∀ i, (wl b i).length = i
  | 0 => rfl
  | i + 1 => by simp [wl, wl_len b i]
/-- the 64 words, of which the first i are there -/
def wpart (b : List UInt8) (i : Nat) : List UInt32 := wl b i ++ List.replicate (64 - i) 0
theorem wpart_len (b : List UInt8) {i : Nat} (h : i ≤ 64) : (wpart b i).length = 64 := by simp [wpart, wl_len]; omega
theorem wpart_set (b : List UInt8) {i : Nat} (h : i < 64) (x : UInt32) (hx : x = if i < 16 then wrd b i else nxt (wl b i)) : (wpart b i).set i x = wpart b (i + 1) := by
  subst hx
  rw [wpart, wpart, List.set_append_right _ _ (by rw [wl_len]; omega), wl_len, Nat.sub_self, show 64 - i = (64 - (i + 1)) + 1 by omega, List.replicate_succ, List.set_cons_zero, wl, List.append_assoc]
  rfl
theorem wpart_get (b : List UInt8) {i j : Nat} (h : j < i) (hi : i ≤ 64) : (wpart b i)[j]? = some ((wl b i).getD j 0) := by
  rw [wpart, List.getElem?_append_left (by rw [wl_len]; exact h), List.getD_eq_getElem?_getD, List.getElem?_eq_getElem (by rw [wl_len]; exact h)]
  rfl
theorem wl_get (b : List UInt8) : ∀ {i j k : Nat}, j < i → i ≤ k → (wl b k).getD j 0 = (wl b i).getD j 0
  | i, j, 0, h, hk => by omega
  | i, j, k + 1, h, hk => by
    by_cases e : i = k + 1
    · rw [e]
    · rw [wl, List.getD_eq_getElem?_getD, List.getElem?_append_left (by rw [wl_len]; omega), ← List.getD_eq_getElem?_getD]
      exact wl_get b h (by omega)

/-! ### a block -/
def roots : List UInt32 := [0x428a2f98, 0x71374491, 0xb5c0fbcf, 0xe9b5dba5, 0x3956c25b, 0x59f111f1, 0x923f82a4, 0xab1c5ed5, 0xd807aa98, 0x12835b01, 0x243185be, 0x550c7dc3, 0x72be5d74, 0x80deb1fe, 0x9bdc06a7, 0xc19bf174, 0xe49b69c1, 0xefbe4786, 0x0fc19dc6, 0x240ca1cc, 0x2de92c6f, 0x4a7484aa, 0x5cb0a9dc, 0x76f988da, 0x983e5152, 0xa831c66d, 0xb00327c8, 0xbf597fc7, 0xc6e00bf3, 0xd5a79147, 0x06ca6351, 0x14292967, 0x27b70a85, 0x2e1b2138, 0x4d2c6dfc, 0x53380d13, 0x650a7354, 0x766a0abb, 0x81c2c92e, 0x92722c85, 0xa2bfe8a1, 0xa81a664b, 0xc24b8b70, 0xc76c51a3, 0xd192e819, 0xd6990624, 0xf40e3585, 0x106aa070, 0x19a4c116, 0x1e376c08, 0x2748774c, 0x34b0bcb5, 0x391c0cb3, 0x4ed8aa4a, 0x5b9cca4f, 0x682e6ff3, 0x748f82ee, 0x78a5636f, 0x84c87814, 0x8cc70208, 0x90befffa, 0xa4506ceb, 0xbef9a3f7, 0xc67178f2]
def start : List UInt32 := [0x6a09e667, 0xbb67ae85, 0x3c6ef372, 0xa54ff53a, 0x510e527f, 0x9b05688c, 0x1f83d9ab, 0x5be0cd19]
theorem roots_len : roots.length = 64 := rfl
theorem start_len : start.length = 8 := rfl
def rs (h W : List UInt32) : Nat → List UInt32
  | 0 => h
  | i + 1 => rnd (rs h W i) (roots.getD i 0 + W.getD i 0)
theorem rs_len (h W : List UInt32) (hh : h.length = 8) : ∀ i, (rs h W i).length = 8
  | 0 => hh
  | i + 1 => rnd_len _ _
/-- r, to whose first i numbers those of h were added -/
def adds (r h : List UInt32) (i : Nat) : List UInt32 := (List.range 8).map fun j => if j < i then r.getD j 0 + h.getD j 0 else r.getD j 0
theorem adds_len (r h : List UInt32) (i : Nat) : (adds r h i).length = 8 := by simp [adds]
theorem adds_zero (r h : List UInt32) (hr : r.length = 8) : adds r h 0 = r := by
  apply List.ext_getElem (by simp [adds, hr])
  intro j h1 h2
  simp [adds, h2]
theorem adds_get (r h : List UInt32) (i j : Nat) (hj : j < 8) : (adds r h i)[j]? = some (if j < i then r.getD j 0 + h.getD j 0 else r.getD j 0) := by
  simp [adds, hj]
theorem adds_set (r h : List UInt32) (i : Nat) (hi : i < 8) (x : UInt32) (hx : x = r.getD i 0 + h.getD i 0) : (adds r h i).set i x = adds r h (i + 1) := by
  subst hx
  apply List.ext_getElem (by simp [adds])
  intro j h1 h2
  simp only [adds, List.getElem_set, List.getElem_map, List.getElem_range]
  by_cases e : i = j
  · subst e; rw [if_pos rfl, if_pos (by omega)]
  · rw [if_neg e]
    by_cases e2 : j < i
    · rw [if_pos e2, if_pos (by omega)]
    · rw [if_neg e2, if_neg (by omega)]
def blk (h : List UInt32) (b : List UInt8) : List UInt32 := adds (rs h (wl b 64) 64) h 8
theorem blk_len (h : List UInt32) (b : List UInt8) : (blk h b).length = 8 := adds_len _ _ _
/-- the reference adds the other way about -/
theorem adds_swap (r h : List UInt32) (i : Nat) (hi : 8 ≤ i) : adds r h i = adds h r i := by
  unfold adds
  apply List.map_congr_left
  intro j hj
  have : j < 8 := List.mem_range.1 hj
  rw [if_pos (by omega), if_pos (by omega), UInt32.add_comm]

/-! ### the sum -/
def hs (p : List UInt8) : Nat → List UInt32
  | 0 => start
  | i + 1 => blk (hs p i) ((p.drop (64 * i)).take 64)
theorem hs_len (p : List UInt8) : ∀ i, (hs p i).length = 8
  | 0 => rfl
  | i + 1 => blk_len _ _
end Go.Proofs.YtmgfgbdfmdblhaaDoor.sha
