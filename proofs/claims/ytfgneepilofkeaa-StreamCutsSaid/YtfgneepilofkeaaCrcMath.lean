/-
  PLAIN FACTS OF THE SUM of package crc, over natural numbers: it is linear, bit by bit, and finds what is turned within 16 bits. No program.
-/
import Derived.Test.YtfgneepilofkeaaOctets
namespace Go.Proofs.Ytfgneepilofkeaa.crc
set_option linter.unusedVariables false

/-- a sum, moved up by one place -/
def dbl (s : Nat) : Nat := (s <<< 1) ^^^ (if s.testBit 15 then 69665 else 0)
def dn : Nat → Nat → Nat
  | 0, s => s
  | k + 1, s => dbl (dn k s)
def stp (s c : Nat) : Nat := dn 8 (s ^^^ c <<< 8)
def sumL (s : Nat) (l : List UInt8) : Nat := l.foldl (fun a c => stp a c.toNat) s

theorem top_bit {s : Nat} (h : s < 65536) : s.testBit 15 = decide (32768 ≤ s) := by
  rw [Nat.testBit_eq_decide_div_mod_eq]
  apply decide_eq_decide.2
  omega
theorem dbl_low {s : Nat} (h : s < 32768) : dbl s = 2 * s := by
  rw [dbl, top_bit (by omega), decide_eq_false (by omega)]
  simp [Nat.shiftLeft_eq]; omega
theorem xor_top {x : Nat} (h : x < 65536) : (65536 + x) ^^^ 69665 = x ^^^ 4129 := by
  have e1 : 65536 + x = 65536 ^^^ x := by
    apply Nat.eq_of_testBit_eq
    intro i
    rw [Nat.testBit_xor]
    by_cases hi : i < 16
    · have : (65536 : Nat) = 2 ^ 16 := by decide
      rw [this, Nat.testBit_two_pow_add_gt (by omega), Nat.testBit_two_pow_of_ne (by omega), Bool.false_xor]
    · by_cases hi2 : i = 16
      · subst hi2
        have e : (65536 : Nat) = 2 ^ 16 := by decide
        rw [e, Nat.testBit_two_pow_add_eq, Nat.testBit_two_pow_self, Nat.testBit_lt_two_pow (by omega)]
        rfl
      · have hp : 2 ^ 17 ≤ 2 ^ i := Nat.pow_le_pow_right (by decide) (by omega)
        have h17 : (2 : Nat) ^ 17 = 131072 := by decide
        rw [Nat.testBit_lt_two_pow (by omega), Nat.testBit_lt_two_pow (by omega), Nat.testBit_lt_two_pow (by omega)]
        rfl
  have e2 : (69665 : Nat) = 65536 ^^^ 4129 := by decide
  rw [e1, e2, Nat.xor_comm 65536 x, Nat.xor_assoc, ← Nat.xor_assoc 65536 65536, Nat.xor_self, Nat.zero_xor]
theorem dbl_high {s : Nat} (h : 32768 ≤ s) (h2 : s < 65536) : dbl s = (2 * s - 65536) ^^^ 4129 := by
  have e : s * 2 ^ 1 = 65536 + (2 * s - 65536) := by omega
  rw [dbl, top_bit h2, decide_eq_true h, if_pos rfl, Nat.shiftLeft_eq, e, xor_top (by omega)]
theorem dbl_lt {s : Nat} (h : s < 65536) : dbl s < 65536 := by
  by_cases h1 : s < 32768
  · rw [dbl_low h1]; omega
  · rw [dbl_high (by omega) h]
    have := Nat.xor_lt_two_pow (x := 2 * s - 65536) (y := 4129) (n := 16) (by omega) (by decide)
    omega
theorem dn_lt {s : Nat} (h : s < 65536) : ∀ k, dn k s < 65536
  | 0 => h
  | k + 1 => dbl_lt (dn_lt h k)
theorem dbl_xor (a b : Nat) : dbl (a ^^^ b) = dbl a ^^^ dbl b := by
  unfold dbl
  rw [Nat.shiftLeft_xor_distrib, Nat.testBit_xor]
  cases a.testBit 15 <;> cases b.testBit 15 <;> simp
  · rw [Nat.xor_assoc]
  · rw [Nat.xor_assoc, Nat.xor_assoc, Nat.xor_comm (b <<< 1)]
  · rw [Nat.xor_assoc, Nat.xor_comm 69665, Nat.xor_assoc, Nat.xor_self, Nat.xor_zero]
theorem dn_xor (a b : Nat) : ∀ k, dn k (a ^^^ b) = dn k a ^^^ dn k b
  | 0 => rfl
  | k + 1 => by rw [dn, dn_xor a b k, dbl_xor]; rfl
theorem xor_zero_eq {a b : Nat} (h : a ^^^ b = 0) : a = b := by
  have : a ^^^ b ^^^ b = b := by rw [h, Nat.zero_xor]
  rwa [Nat.xor_assoc, Nat.xor_self, Nat.xor_zero] at this
theorem dbl_odd {s : Nat} (h : 32768 ≤ s) (h2 : s < 65536) : dbl s % 2 = 1 := by
  have e := Nat.xor_mod_two_pow (a := 2 * s - 65536) (b := 4129) (n := 1)
  rw [dbl_high h h2]
  have e1 : (2 * s - 65536) % 2 ^ 1 = 0 := by omega
  rw [e1] at e
  exact e
theorem dbl_zero {s : Nat} (h2 : s < 65536) (h : dbl s = 0) : s = 0 := by
  by_cases h1 : s < 32768
  · rw [dbl_low h1] at h; omega
  · have := dbl_odd (by omega) h2
    omega
theorem xor_lt {a b : Nat} (ha : a < 65536) (hb : b < 65536) : a ^^^ b < 65536 := Nat.xor_lt_two_pow (n := 16) ha hb
theorem dn_zero {s : Nat} (h2 : s < 65536) : ∀ k, dn k s = 0 → s = 0
  | 0, h => h
  | k + 1, h => dn_zero h2 k (dbl_zero (dn_lt h2 k) h)
theorem dn_inj {a b : Nat} (ha : a < 65536) (hb : b < 65536) (k : Nat) (h : dn k a = dn k b) : a = b := by
  apply xor_zero_eq
  apply dn_zero (xor_lt ha hb) k
  rw [dn_xor, h, Nat.xor_self]
theorem shl_lt {c : Nat} (h : c < 256) : c <<< 8 < 65536 := by rw [Nat.shiftLeft_eq]; omega
theorem stp_lt {s c : Nat} (h : s < 65536) (hc : c < 256) : stp s c < 65536 := dn_lt (xor_lt h (shl_lt hc)) 8
theorem stp_sum {a b c : Nat} (ha : a < 65536) (hb : b < 65536) (hc : c < 256) : stp a c = stp b c ↔ a = b := by
  refine ⟨fun h => ?_, fun h => by rw [h]⟩
  have := dn_inj (xor_lt ha (shl_lt hc)) (xor_lt hb (shl_lt hc)) 8 h
  have e : a ^^^ c <<< 8 ^^^ c <<< 8 = b ^^^ c <<< 8 ^^^ c <<< 8 := by rw [this]
  rwa [Nat.xor_assoc, Nat.xor_self, Nat.xor_zero, Nat.xor_assoc, Nat.xor_self, Nat.xor_zero] at e
theorem stp_byte {a c d : Nat} (ha : a < 65536) (hc : c < 256) (hd : d < 256) : stp a c = stp a d ↔ c = d := by
  refine ⟨fun h => ?_, fun h => by rw [h]⟩
  have := dn_inj (xor_lt ha (shl_lt hc)) (xor_lt ha (shl_lt hd)) 8 h
  have e : a ^^^ (a ^^^ c <<< 8) = a ^^^ (a ^^^ d <<< 8) := by rw [this]
  rw [← Nat.xor_assoc, Nat.xor_self, Nat.zero_xor, ← Nat.xor_assoc, Nat.xor_self, Nat.zero_xor, Nat.shiftLeft_eq, Nat.shiftLeft_eq] at e
  omega
theorem stp_xor (a b c d : Nat) : stp (a ^^^ b) (c ^^^ d) = stp a c ^^^ stp b d := by
  unfold stp
  rw [← dn_xor, Nat.shiftLeft_xor_distrib]
  congr 1
  rw [Nat.xor_assoc, Nat.xor_assoc, ← Nat.xor_assoc b, Nat.xor_comm b, Nat.xor_assoc]

theorem sumL_nil (s : Nat) : sumL s [] = s := rfl
theorem sumL_add (s : Nat) (l m : List UInt8) : sumL s (l ++ m) = sumL (sumL s l) m := by simp [sumL, List.foldl_append]
theorem sumL_lt : ∀ (l : List UInt8) {s : Nat}, s < 65536 → sumL s l < 65536
  | [], s, h => h
  | c :: l, s, h => sumL_lt l (stp_lt h c.toNat_lt)
theorem sumL_take (s : Nat) (l : List UInt8) (i : Nat) (h : i < l.length) : sumL s (l.take (i + 1)) = stp (sumL s (l.take i)) l[i].toNat := by
  rw [List.take_succ_eq_append_getElem h, sumL_add]; rfl

/-- bit by bit -/
def bt (s : Nat) (b : Bool) : Nat := dbl (s ^^^ if b then 32768 else 0)
def cb (s : Nat) (f : Nat → Bool) : Nat → Nat
  | 0 => s
  | n + 1 => bt (cb s f n) (f n)
theorem bt_xor (a b : Nat) (x y : Bool) : bt (a ^^^ b) (x ^^ y) = bt a x ^^^ bt b y := by
  unfold bt
  rw [← dbl_xor]
  congr 1
  cases x <;> cases y <;> simp
  · rw [Nat.xor_assoc]
  · rw [Nat.xor_assoc, Nat.xor_assoc, Nat.xor_comm b]
  · rw [Nat.xor_assoc, Nat.xor_comm 32768, Nat.xor_assoc, Nat.xor_self, Nat.xor_zero]
theorem cb_xor (a b : Nat) (f g : Nat → Bool) : ∀ n, cb (a ^^^ b) (fun i => f i ^^ g i) n = cb a f n ^^^ cb b g n
  | 0 => rfl
  | n + 1 => by rw [cb, cb_xor a b f g n, bt_xor]; rfl
theorem cb_add (s : Nat) (f : Nat → Bool) (n : Nat) : ∀ m, cb s f (n + m) = cb (cb s f n) (fun i => f (n + i)) m
  | 0 => rfl
  | m + 1 => by rw [← Nat.add_assoc, cb, cb_add s f n m]; rfl
theorem cb_congr (s : Nat) (f g : Nat → Bool) : ∀ n, (∀ i, i < n → f i = g i) → cb s f n = cb s g n
  | 0, _ => rfl
  | n + 1, h => by rw [cb, cb, cb_congr s f g n (fun i hi => h i (by omega)), h n (by omega)]
theorem bt_lt {s : Nat} (h : s < 65536) (b : Bool) : bt s b < 65536 := dbl_lt (xor_lt h (by cases b <;> decide))
theorem cb_lt {s : Nat} (h : s < 65536) (f : Nat → Bool) : ∀ n, cb s f n < 65536
  | 0 => h
  | n + 1 => bt_lt (cb_lt h f n) _
theorem cb_no (s : Nat) : ∀ n, cb s (fun _ => false) n = dn n s
  | 0 => rfl
  | n + 1 => by rw [cb, cb_no s n]; simp [bt]; rfl
theorem byte_bits : ∀ c : Fin 256, dn 8 (c.val <<< 8) = cb 0 (fun i => c.val.testBit (7 - i)) 8 := by decide +kernel
theorem stp_bits (s c : Nat) (h : c < 256) : stp s c = cb s (fun i => c.testBit (7 - i)) 8 := by
  have e := cb_xor s 0 (fun _ => false) (fun i => c.testBit (7 - i)) 8
  simp only [Nat.xor_zero, Bool.false_xor] at e
  rw [e, cb_no, ← byte_bits ⟨c, h⟩, ← dn_xor]; rfl
def bitAt (l : List UInt8) (i : Nat) : Bool := ((l.getD (i / 8) 0).toNat).testBit (7 - i % 8)
theorem sumL_bits_take (s : Nat) (l : List UInt8) : ∀ m, m ≤ l.length → sumL s (l.take m) = cb s (bitAt l) (8 * m)
  | 0, _ => rfl
  | m + 1, h => by
    rw [sumL_take s l m (by omega), sumL_bits_take s l m (by omega), Nat.mul_add, Nat.mul_one, cb_add, stp_bits _ _ (l[m].toNat_lt)]
    apply cb_congr
    intro i hi
    unfold bitAt
    have e1 : (8 * m + i) / 8 = m := by omega
    have e2 : (8 * m + i) % 8 = i := by omega
    rw [e1, e2]
    have : m < l.length := by omega
    simp [List.getD, List.getElem?_eq_getElem this]
theorem sumL_bits (s : Nat) (l : List UInt8) : sumL s l = cb s (bitAt l) (8 * l.length) := by
  rw [← sumL_bits_take s l l.length (Nat.le_refl _), List.take_length]

/-- what is turned within 16 bits in a row is found -/
theorem burst_near (g : Nat → Bool) (p : Nat) (h0 : ∀ i, i < p → g i = false) (h1 : g p = true) (j : Nat) (hj : j ≤ 15) : cb 0 g (p + 1 + j) ≠ 0 := by
  intro hz
  have hp : cb 0 g p = 0 := by
    rw [cb_congr 0 g (fun _ => false) p h0, cb_no]
    have : ∀ k, dn k 0 = 0 := by
      intro k
      induction k with
      | zero => rfl
      | succ k ih => rw [dn, ih]; rfl
    exact this p
  have hp1 : cb 0 g (p + 1) = 4129 := by rw [cb, hp, h1]; rfl
  have key : ∀ t, t ≤ j → cb 0 g (p + 1 + (j - t)) % 2 ^ (16 - t) = 0 := by
    intro t
    induction t with
    | zero => intro _; rw [Nat.sub_zero, hz, Nat.zero_mod]
    | succ t ih =>
      intro ht
      have hs := ih (by omega)
      have e : p + 1 + (j - t) = p + 1 + (j - (t + 1)) + 1 := by omega
      rw [e, cb, bt] at hs
      have hlt := cb_lt (s := 0) (by decide) g (p + 1 + (j - (t + 1)))
      generalize cb 0 g (p + 1 + (j - (t + 1))) = s at hs hlt
      have hx : (if g (p + 1 + (j - (t + 1))) = true then 32768 else 0) < 65536 ∧ (if g (p + 1 + (j - (t + 1))) = true then 32768 else 0) % 2 ^ (16 - (t + 1)) = 0 := by
        split
        · refine ⟨by decide, ?_⟩
          have : (32768 : Nat) = 2 ^ (16 - (t + 1)) * 2 ^ t := by rw [← Nat.pow_add, show 16 - (t + 1) + t = 15 by omega]
          rw [this, Nat.mul_mod_right]
        · exact ⟨by decide, Nat.zero_mod _⟩
      generalize (if g (p + 1 + (j - (t + 1))) = true then 32768 else 0) = x at hs hx
      have hy := xor_lt hlt hx.1
      have hP : 2 ^ (16 - t) = 2 * 2 ^ (16 - (t + 1)) := by rw [← Nat.pow_succ']; congr 1; omega
      have hlow : s ^^^ x < 32768 := by
        rcases Nat.lt_or_ge (s ^^^ x) 32768 with h | h
        · exact h
        · have hodd := dbl_odd h hy
          have : dbl (s ^^^ x) % 2 = 0 := by
            have hd : 2 ∣ dbl (s ^^^ x) := Nat.dvd_trans ⟨_, hP⟩ (Nat.dvd_of_mod_eq_zero hs)
            exact Nat.mod_eq_zero_of_dvd hd
          omega
      rw [dbl_low hlow, hP, Nat.mul_mod_mul_left] at hs
      have hs' : (s ^^^ x) % 2 ^ (16 - (t + 1)) = 0 := by omega
      have e2 : s = s ^^^ x ^^^ x := by rw [Nat.xor_assoc, Nat.xor_self, Nat.xor_zero]
      rw [e2, Nat.xor_mod_two_pow, hs', hx.2]; rfl
  have hk := key j (Nat.le_refl _)
  rw [Nat.sub_self, Nat.add_zero, hp1] at hk
  have hd : 2 ∣ 4129 := Nat.dvd_trans ⟨2 ^ (15 - j), by rw [← Nat.pow_succ']; congr 1; omega⟩ (Nat.dvd_of_mod_eq_zero hk)
  omega
theorem burst_far (g : Nat → Bool) (p : Nat) (h0 : ∀ i, i < p → g i = false) (h1 : g p = true) (h2 : ∀ i, p + 16 ≤ i → g i = false) : ∀ m, cb 0 g (p + 16 + m) ≠ 0
  | 0 => burst_near g p h0 h1 15 (by decide)
  | m + 1 => by
    rw [← Nat.add_assoc, cb, h2 _ (by omega)]
    intro h
    exact burst_far g p h0 h1 h2 m (dbl_zero (cb_lt (by decide) g _) (by simpa [bt] using h))
theorem burst (g : Nat → Bool) (p : Nat) (h0 : ∀ i, i < p → g i = false) (h1 : g p = true) (h2 : ∀ i, p + 16 ≤ i → g i = false) (n : Nat) (hn : p < n) : cb 0 g n ≠ 0 := by
  rcases Nat.lt_or_ge n (p + 16) with h | h
  · have := burst_near g p h0 h1 (n - (p + 1)) (by omega)
    rwa [show p + 1 + (n - (p + 1)) = n by omega] at this
  · have := burst_far g p h0 h1 h2 (n - (p + 16))
    rwa [show p + 16 + (n - (p + 16)) = n by omega] at this
/-- two rows of one length whose bits differ within 16 in a row have unlike sums -/
theorem unlike (s : Nat) (l m : List UInt8) (hl : m.length = l.length) (p : Nat) (hp : p < 8 * l.length) (h0 : ∀ i, i < p → bitAt m i = bitAt l i) (h1 : bitAt m p = !bitAt l p) (h2 : ∀ i, p + 16 ≤ i → bitAt m i = bitAt l i) : sumL s m ≠ sumL s l := by
  rw [sumL_bits, sumL_bits, hl]
  have e := cb_xor s 0 (bitAt l) (fun i => bitAt l i ^^ bitAt m i) (8 * l.length)
  have e2 : (fun i => bitAt l i ^^ (bitAt l i ^^ bitAt m i)) = bitAt m := by funext i; cases bitAt l i <;> cases bitAt m i <;> rfl
  rw [Nat.xor_zero, e2] at e
  rw [e]
  intro h
  refine burst (fun i => bitAt l i ^^ bitAt m i) p (fun i hi => ?_) ?_ (fun i hi => ?_) (8 * l.length) hp ?_
  · simp [h0 i hi]
  · simp [h1]
  · simp [h2 i hi]
  · generalize cb s (bitAt l) (8 * l.length) = a at h
    generalize cb 0 (fun i => bitAt l i ^^ bitAt m i) (8 * l.length) = b at h ⊢
    have : a ^^^ (a ^^^ b) = a ^^^ a := by rw [h]
    rwa [← Nat.xor_assoc, Nat.xor_self, Nat.zero_xor] at this
/-- bytes with their sum behind them -/
theorem sum_behind (s hi lo : Nat) (h1 : s = hi * 256 + lo) (h2 : hi < 256) (h3 : lo < 256) : stp (stp s hi) lo = 0 := by
  have e0 : ∀ k, dn k 0 = 0 := by
    intro k
    induction k with
    | zero => rfl
    | succ k ih => rw [dn, ih]; rfl
  have e1 : s ^^^ hi <<< 8 = lo := by
    have : s = hi <<< 8 ^^^ lo := by
      rw [h1, Nat.shiftLeft_eq]
      apply Nat.eq_of_testBit_eq
      intro i
      rw [Nat.testBit_xor, Nat.mul_comm hi, show (256 : Nat) = 2 ^ 8 by decide, Nat.testBit_two_pow_mul_add hi (by omega)]
      split
      · rename_i h
        rw [Nat.testBit_two_pow_mul, decide_eq_false (by omega), Bool.false_and, Bool.false_xor]
      · rename_i h
        have : lo.testBit i = false := Nat.testBit_lt_two_pow (Nat.lt_of_lt_of_le h3 (by rw [show (256 : Nat) = 2 ^ 8 by decide]; exact Nat.pow_le_pow_right (by decide) (by omega)))
        rw [this, Nat.testBit_two_pow_mul, decide_eq_true (by omega), Bool.true_and, Bool.xor_false]
    rw [this, Nat.xor_comm, ← Nat.xor_assoc, Nat.xor_self, Nat.zero_xor]
  have e2 : ∀ k, k ≤ 8 → dn k lo = lo * 2 ^ k := by
    intro k
    induction k with
    | zero => intro _; simp [dn]
    | succ k ih =>
      intro hk
      have hp : 2 ^ k ≤ 2 ^ 7 := Nat.pow_le_pow_right (by decide) (by omega)
      have h7 : (2 : Nat) ^ 7 = 128 := by decide
      have : lo * 2 ^ k ≤ 255 * 128 := Nat.mul_le_mul (by omega) (by omega)
      rw [dn, ih (by omega), dbl_low (by omega), Nat.pow_succ, Nat.mul_comm (2 ^ k) 2, Nat.mul_left_comm]
  unfold stp
  rw [e1, e2 8 (by decide), ← Nat.shiftLeft_eq, Nat.xor_self, e0]
end Go.Proofs.Ytfgneepilofkeaa.crc
