/-
  THE WALK OF 'CrcBursts': bytes with their sum behind them have the sum 0, and with some bits turned within 16 in a row another one.
-/
import Derived.Test.YtlepghjfbcbcpaaCrcApartWalk
import Derived.StillTailTactics
namespace Go.Proofs.Ytlepghjfbcbcpaa.walks
open Go.ChangeShapes Go.WideShapes Go.ChangeAt Go.RowKit Go.Proofs.Ytlepghjfbcbcpaa.octets Go.Proofs.Ytlepghjfbcbcpaa.crc Go.Proofs.Ytlepghjfbcbcpaa.given
set_option linter.unusedVariables false

/-- bytes, and their sum behind them -/
def withSum (x : List UInt8) : List UInt8 := x ++ [UInt8.ofNat (sumL 65535 x / 256), UInt8.ofNat (sumL 65535 x % 256)]
theorem withSum_len (x : List UInt8) : (withSum x).length = x.length + 2 := by simp [withSum]
theorem withSum_zero (x : List UInt8) : sumL 65535 (withSum x) = 0 := by
  have h := sumL_lt x (s := 65535) (by decide)
  rw [withSum, sumL_add]
  show stp (stp _ _) _ = 0
  exact sum_behind _ _ _ (by rw [UInt8.toNat_ofNat', UInt8.toNat_ofNat']; omega) (UInt8.toNat_lt _) (UInt8.toNat_lt _)

set_option maxHeartbeats 400000 in
theorem whole_ok (A : Option Addr) (p cap : Nat) (x : List UInt8) (w : World) (hl : x.length = p) (hp : p ≤ 1048576) (hx : Seen w A x) :
    Calls Try.prog 15 #[.slice A p cap] w fun e w' => Below w.heap.size w w' ∧ ∃ b c, e = .returned (.slice (some ⟨b, 0, none⟩) (p + 2) c) ∧ w.heap.size ≤ b ∧ Held w' b c (withSum x) := by
  obtain ⟨s, hs⟩ : ∃ s, sumL 65535 x = s := ⟨_, rfl⟩
  have hlt : s < 65536 := by rw [← hs]; exact sumL_lt _ (by decide)
  have e1 : bits BinOp.and IntKind.u16 (s : Int) 255 = ((s % 256 : Nat) : Int) := by
    have := u16_and_nat s 255 hlt (by decide)
    rw [show (255 : Nat) = 2 ^ 8 - 1 by decide, Nat.and_two_pow_sub_one_eq_mod] at this
    exact this
  replace hs := Lib.hid hs
  replace hl := Lib.hid hl
  go_enter Try.func15, Try.ntmps15
  try dsimp only [List.append]
  go_wp2_with fail
  (with_reducible refine (sum_at _ p cap x s _ hl.out hp hx hs.out).mono ?_)
  rintro e w' ⟨rfl, rfl⟩
  go_wp2_with (at_builtin; refine wpList_append_own_any _ rfl (.tmp 6) (.tmp 7) rfl w.heap.size _ [] rfl (own_none _ _ (Nat.le_refl _)) A p cap rfl x hl.out (hx.alloc _) (by rw [hl.out]; simp; omega) (by simp) ?_)
  intro v1 w3 hown3 hg3 hat3
  have hw3 : Below w.heap.size w w3 := ((Below.refl _ _).alloc (Nat.le_refl _) _).grown hg3 (by simp) (by intro g hg; simp [Value.ownBlock] at hg; omega)
  have hz3 := hw3.size
  have hlit : Seen (w3.alloc (.cells #[.int .u8 ((s : Int) / 256), .int .u8 ((s : Int) % 256)] 5)) (some ⟨w3.heap.size, 0, none⟩) [UInt8.ofNat (s / 256), UInt8.ofNat (s % 256)] := by
    refine (Held.lit w3 [UInt8.ofNat (s / 256), UInt8.ofNat (s % 256)] _ ?_ (by simp [maxLen])).seen
    have q1 : (UInt8.ofNat (s / 256)).toNat = s / 256 := by rw [UInt8.toNat_ofNat']; omega
    have q2 : (UInt8.ofNat (s % 256)).toNat = s % 256 := by rw [UInt8.toNat_ofNat']; omega
    simp only [vals, List.map_cons, List.map_nil, q1, q2]
    rfl
  have hown3' := hown3.alloc (.cells #[.int .u8 ((s : Int) / 256), .int .u8 ((s : Int) % 256)] 5)
  have hw3' := hw3.alloc hz3 (.cells #[.int .u8 ((s : Int) / 256), .int .u8 ((s : Int) % 256)] 5)
  have hz3' := hw3'.size
  go_wp2_with (at_builtin; refine wpList_append_own_any _ rfl (.tmp 8) (.tmp 15) rfl w.heap.size v1 _ rfl hown3' (some ⟨w3.heap.size, 0, none⟩) 2 2 rfl _ rfl hlit (by simp [hl.out]; omega) hz3' ?_)
  intro v2 w4 hown4 hg4 hat4
  have hw4 : Below w.heap.size w w4 := hown3'.grew hw3' (Nat.le_refl _) hz3' hg4
  have e5 : [] ++ x ++ [UInt8.ofNat (s / 256), UInt8.ofNat (s % 256)] = withSum x := by rw [withSum, hs.out]; rfl
  replace hown4 : Own w4 w.heap.size v2 (withSum x) := by rw [← e5]; exact hown4
  obtain ⟨b, c, rfl, hb, hheld⟩ := hown4.held (by rw [withSum_len]; omega)
  rw [withSum_len, hl.out]
  go_wp2
  go_ret
  exact ⟨hw4, b, c, rfl, hb, hheld⟩

/-- with bit q turned -/
def flip (l : List UInt8) (q : Nat) : List UInt8 := l.set (q / 8) (l.getD (q / 8) 0 ^^^ UInt8.ofNat (2 ^ (7 - q % 8)))
theorem flip_len (l : List UInt8) (q : Nat) : (flip l q).length = l.length := by simp [flip]
theorem flip_bit (l : List UInt8) (q j : Nat) (h : q / 8 < l.length) : bitAt (flip l q) j = (bitAt l j ^^ decide (j = q)) := by
  unfold bitAt flip
  simp only [List.getD_eq_getElem?_getD, List.getElem?_set]
  by_cases e : q / 8 = j / 8
  · rw [if_pos e, if_pos h, Option.getD_some, UInt8.toNat_xor, Nat.testBit_xor, ← e]
    congr 1
    have hp : 2 ^ (7 - q % 8) ≤ 2 ^ 7 := Nat.pow_le_pow_right (by decide) (by omega)
    have h7 : (2 : Nat) ^ 7 = 128 := by decide
    rw [UInt8.toNat_ofNat', Nat.mod_eq_of_lt (by omega), Nat.testBit_two_pow]
    apply decide_eq_decide.2
    omega
  · rw [if_neg e]
    have : decide (j = q) = false := decide_eq_false (by intro h'; exact e (by rw [h']))
    rw [this, Bool.xor_false]
def flips (l : List UInt8) (m k : Nat) : Nat → List UInt8
  | 0 => l
  | i + 1 => if m.testBit (15 - i) then flip (flips l m k i) (k + i) else flips l m k i
theorem flips_len (l : List UInt8) (m k : Nat) : ∀ i, (flips l m k i).length = l.length
  | 0 => rfl
  | i + 1 => by
    rw [flips]
    split
    · rw [flip_len, flips_len l m k i]
    · exact flips_len l m k i
theorem flips_bit (l : List UInt8) (m k : Nat) : ∀ i, k + i ≤ 8 * l.length → ∀ j, bitAt (flips l m k i) j = (bitAt l j ^^ (decide (k ≤ j ∧ j < k + i) && m.testBit (15 - (j - k))))
  | 0, _, j => by
    have : decide (k ≤ j ∧ j < k + 0) = false := decide_eq_false (by omega)
    rw [this, Bool.false_and, Bool.xor_false]; rfl
  | i + 1, h, j => by
    have ih := flips_bit l m k i (by omega) j
    rw [flips]
    by_cases hj : j = k + i
    · have e1 : decide (k ≤ j ∧ j < k + i) = false := decide_eq_false (by omega)
      have e2 : decide (k ≤ j ∧ j < k + (i + 1)) = true := decide_eq_true (by omega)
      rw [e1, Bool.false_and, Bool.xor_false] at ih
      rw [e2, Bool.true_and, show 15 - (j - k) = 15 - i by omega]
      split
      · rename_i hb
        rw [flip_bit _ _ _ (by rw [flips_len]; omega), ih, hb, decide_eq_true hj]
      · rename_i hb
        rw [ih, Bool.eq_false_iff.2 hb, Bool.xor_false]
    · have e1 : decide (k ≤ j ∧ j < k + (i + 1)) = decide (k ≤ j ∧ j < k + i) := decide_eq_decide.2 (by omega)
      rw [e1]
      split
      · rw [flip_bit _ _ _ (by rw [flips_len]; omega), ih, decide_eq_false hj, Bool.xor_false]
      · exact ih
theorem flips_sum (l : List UInt8) (m k i : Nat) (hi : 1 ≤ i) (hi2 : i ≤ 16) (hk : k + i ≤ 8 * l.length) (hm : m.testBit 15 = true) : sumL 65535 (flips l m k i) ≠ sumL 65535 l := by
  refine unlike 65535 l _ (flips_len l m k i) k (by omega) (fun j hj => ?_) ?_ (fun j hj => ?_)
  · rw [flips_bit l m k i hk, decide_eq_false (by omega), Bool.false_and, Bool.xor_false]
  · rw [flips_bit l m k i hk, decide_eq_true (by omega), Bool.true_and, Nat.sub_self, Nat.sub_zero, hm, Bool.xor_true]
  · rw [flips_bit l m k i hk, decide_eq_false (by omega), Bool.false_and, Bool.xor_false]

theorem bit_test (m j : Nat) (hm : m < 65536) : (bits BinOp.and IntKind.u16 ((m : Int) / 2 ^ j) 1 == 1) = m.testBit j := by
  have e : ((m : Int) / 2 ^ j) = ((m / 2 ^ j : Nat) : Int) := by simp
  have h1 : m / 2 ^ j < 65536 := Nat.lt_of_le_of_lt (Nat.div_le_self _ _) hm
  have h2 := u16_and_nat (m / 2 ^ j) 1 h1 (by decide)
  rw [Nat.and_one_is_mod] at h2
  rw [e]
  rw [show ((1 : Nat) : Int) = 1 by rfl] at h2
  rw [h2, Nat.testBit_eq_decide_div_mod_eq, Bool.eq_iff_iff, beq_iff_eq, decide_eq_true_iff]
  omega

theorem turn_bit (c : UInt8) (s : Nat) (hs : s < 8) : bits BinOp.xor IntKind.u8 (c.toNat : Int) (128 / 2 ^ s) = ((c ^^^ UInt8.ofNat (2 ^ (7 - s))).toNat : Int) := by
  have e : ((128 : Int) / 2 ^ s) = ((2 ^ (7 - s) : Nat) : Int) ∧ 2 ^ (7 - s) < 256 := by
    have h : s = 0 ∨ s = 1 ∨ s = 2 ∨ s = 3 ∨ s = 4 ∨ s = 5 ∨ s = 6 ∨ s = 7 := by omega
    rcases h with rfl | rfl | rfl | rfl | rfl | rfl | rfl | rfl <;> decide
  rw [e.1, u8_xor_nat _ _ c.toNat_lt e.2, UInt8.toNat_xor, UInt8.toNat_ofNat', Nat.mod_eq_of_lt e.2]

set_option maxRecDepth 100000 in
set_option maxHeartbeats 1000000 in
theorem bursts_core (a : Option Addr) (n cap : Nat) (x : List UInt8) (p t : Nat) (at_ : Int) (k m : Nat) (w : World) (hx : Seen w a x) (hp : p = min n 300) (hxl : x.length = p) (hc : n ≤ cap) (ht : t < 65536) (a1 : -9223372036854775808 ≤ at_) (a2 : at_ ≤ 9223372036854775807)
    (hk : k < 8 * (p + 2)) (u : Int) (u1 : -(8 * ((p : Int) + 2)) < u) (u2 : u < 8 * ((p : Int) + 2)) (eU : at_.tmod (8 * ((p : Int) + 2)) = u) (eK : (u + 8 * ((p : Int) + 2)).tmod (8 * ((p : Int) + 2)) = (k : Int)) (eM : bits BinOp.or IntKind.u16 (t : Int) 32768 = (m : Int)) (hm : m < 65536) (hm15 : Hid (m.testBit 15 = true)) :
    Calls Try.prog 5 #[.slice a n cap, .int .i64 at_, .int .u16 t] w fun e w' => e = .returned (.bool true) ∧ Below w.heap.size w w' := by
  have hp3 : p ≤ 300 := by omega
  replace hp := Lib.hid hp
  replace hxl := Lib.hid hxl
  go_enter Try.func5, Try.ntmps5
  try dsimp only [List.append]
  go_wp2_with fail
  (with_reducible refine (shown_any _).mono ?_)
  rintro e w1 ⟨rfl, hw1⟩
  have hx1 := hx.since hw1
  have hz1 := hw1.size
  go_wp2_with fail
  (with_reducible refine (few_ok a n cap p _ hc hp.out).mono ?_)
  rintro e w' ⟨rfl, rfl⟩
  go_wp2_with fail
  (with_reducible refine (whole_ok a p cap x _ hxl.out (by omega) hx1).mono ?_)
  rintro e w2 ⟨hw2, b, c, rfl, hb, hheld⟩
  have hlen : (withSum x).length = p + 2 := by rw [withSum_len, hxl.out]
  replace hlen := Lib.hid hlen
  have hw02 := hw1.trans (hw2.mono hz1)
  go_wp2_with fail
  (with_reducible refine (sum_at _ (p + 2) c (withSum x) 0 _ hlen.out (by omega) hheld.seen (withSum_zero x)).mono ?_)
  rintro e w' ⟨rfl, rfl⟩
  go_wp2
  go_loopw [12] (fun t wr => ∃ i : Nat, i ≤ 16 ∧ k + i ≤ 8 * (p + 2) ∧ t = .int .i64 i ∧ Below w.heap.size w wr ∧ Held wr b c (flips (withSum x) m k i)) (fun t _ => 16 - (intOf t).toNat)
  case atStart => exact ⟨0, by omega, by omega, rfl, hw02, hheld⟩
  case round =>
    obtain ⟨i, hi, hki, rfl, hwr, hr⟩ := hrel
    by_cases hlt : i < 16 ∧ k + i < 8 * (p + 2)
    · obtain ⟨hl1, hl2⟩ := hlt
      have t2 : decide ((k : Int) + (i : Int) < 8 * ((p : Int) + 2)) = true := decide_eq_true (by omega)
      have ht3 := bit_test m (15 - i) hm
      have hstep : flips (withSum x) m k (i + 1) = if m.testBit (15 - i) then flip (flips (withSum x) m k i) (k + i) else flips (withSum x) m k i := rfl
      by_cases hbit : m.testBit (15 - i) = true
      · rw [hbit] at ht3
        rw [if_pos hbit] at hstep
        obtain ⟨L, hL⟩ : ∃ L, flips (withSum x) m k i = L := ⟨_, rfl⟩
        rw [hL] at hr hstep
        have hLl : L.length = p + 2 := by rw [← hL, flips_len, hlen.out]
        have ewr : IntKind.i64.wrap ((k : Int) + (i : Int)) = ((k + i : Nat) : Int) := by rw [IntKind.wrap_i64]; omega
        obtain ⟨r, hr'⟩ : ∃ r, k + i = r := ⟨_, rfl⟩
        have hrb : r < 8 * (p + 2) := by omega
        rw [hr'] at ewr hstep
        obtain ⟨q, hq'⟩ : ∃ q, r / 8 = q := ⟨_, rfl⟩
        obtain ⟨s, hs'⟩ : ∃ s, r % 8 = s := ⟨_, rfl⟩
        have eq8 : IntKind.i64.wrap ((r : Int) / 8) = (q : Int) := by rw [IntKind.wrap_i64]; omega
        have es8 : (r : Int).tmod 8 = (s : Int) := by rw [Int.tmod_eq_emod_of_nonneg (by omega)]; omega
        have hs8 : s < 8 := by omega
        have hqb : (q : Int) < (p : Int) + 2 := by omega
        have hq : q < L.length := by rw [hLl]; omega
        have hcell := hr.cell hq
        have hfr := hr.frozen q
        replace hq' := Lib.hid hq'
        replace hs' := Lib.hid hs'
        clear hL hbit
        go_wp2_with fail
        replace hr' := Lib.hid hr'
        refine wp_region_still_tail 19 (by kernel_rfl) (by kernel_rfl) ?_
        simp only [List.take_succ_cons, List.take_zero, List.drop_succ_cons, List.drop_zero]
        repeat still_step
        refine wpStill_nil ?_
        change wpList _ _ _ _ _ wr.drew
        have fr' : wr.drew.frozen? ⟨b, q, none⟩ = false := hfr
        have c4' : wr.drew.cell? ⟨b, q, none⟩ = some (.int .u8 (L[q].toNat : Int)) := hcell
        have hb' : Below w.heap.size w wr.drew := hwr.drew
        have hr'' : Held wr.drew b c L := hr
        generalize wr.drew = w2' at fr' c4' hb' hr'' ⊢
        have hset := hr''.set q (L[q] ^^^ UInt8.ofNat (2 ^ (7 - s)))
        have eflip : L.set q (L[q] ^^^ UInt8.ofNat (2 ^ (7 - s))) = flips (withSum x) m k (i + 1) := by
          rw [hstep, flip, hq'.out, hs'.out]
          simp [List.getElem?_eq_getElem hq]
        rw [eflip, ← turn_bit L[q] s hs8] at hset
        replace hset := Lib.hid hset
        clear hr''
        go_wp2
        go_roundw
        case rel => exact ⟨i + 1, by omega, by have := hr'.out; omega, by go_num, hb'.setCell (by show w.heap.size ≤ b; omega) _, hset.out⟩
        case measure => simp [intOf]; omega
      · rw [if_neg hbit] at hstep
        rw [Bool.eq_false_iff.2 hbit] at ht3
        replace hstep := Lib.hid hstep
        clear hbit
        go_wp2
        go_roundw
        case rel => exact ⟨i + 1, by omega, by omega, by go_num, hwr, by rw [hstep.out]; exact hr⟩
        case measure => simp [intOf]; omega
    · have hi1 : 1 ≤ i := by omega
      have hsum := flips_sum (withSum x) m k i hi1 hi (by rw [hlen.out]; exact hki) hm15.out
      rw [withSum_zero] at hsum
      obtain ⟨v, hv⟩ : ∃ v, sumL 65535 (flips (withSum x) m k i) = v := ⟨_, rfl⟩
      rw [hv] at hsum
      have hv0 : ((v : Int) != 0) = true := by rw [bne_iff_ne]; omega
      have hfl : (flips (withSum x) m k i).length = p + 2 := by rw [flips_len, hlen.out]
      replace hv := Lib.hid hv
      clear hsum
      have hout : ∀ (h16 : i < 16), decide ((k : Int) + (i : Int) < 8 * ((p : Int) + 2)) = false := fun h16 => decide_eq_false (by omega)
      by_cases h16 : i < 16
      · have t2 := hout h16
        clear hout hlt
        go_wp2_with fail
        (with_reducible refine (sum_at _ (p + 2) c (flips (withSum x) m k i) v _ hfl (by omega) hr.seen hv.out).mono ?_)
        rintro e w' ⟨rfl, rfl⟩
        go_wp2
        go_ret
        exact ⟨rfl, hwr⟩
      · obtain rfl : i = 16 := by omega
        clear hout hlt
        go_wp2_with fail
        (with_reducible refine (sum_at _ (p + 2) c (flips (withSum x) m k 16) v _ hfl (by omega) hr.seen hv.out).mono ?_)
        rintro e w' ⟨rfl, rfl⟩
        go_wp2
        go_ret
        exact ⟨rfl, hwr⟩

theorem or_top (t : Nat) (h : t < 65536) : bits BinOp.or IntKind.u16 (t : Int) 32768 = ((t ||| 32768 : Nat) : Int) := u16_or_nat t 32768 h (by decide)
theorem crcBursts (a0 : Option Addr) (len0 cap0 : Nat) (z0 : List Int) (a1 a2 : Int) (w : World) (w0 : Nums .u8 w a0 len0 cap0 z0) (w1 : (Lit.int .i64 a1).wf = true) (w2 : (Lit.int .u16 a2).wf = true) :
    Calls Try.prog 5 #[.slice a0 len0 cap0, .int .i64 a1, .int .u16 a2] w fun e w' => e = .returned (.bool true) ∧ Below w.heap.size w w' := by
  obtain ⟨x, rfl, hx, hc⟩ := seen_nums w0
  obtain ⟨t, rfl, ht⟩ := u16_came w2
  have h1 : -9223372036854775808 ≤ a1 ∧ a1 ≤ 9223372036854775807 := by simpa [Lit.wf, IntKind.min, IntKind.max, IntKind.signed, IntKind.bits] using w1
  have hm : t ||| 32768 < 65536 := Nat.or_lt_two_pow (n := 16) ht (by decide)
  have hm15 : (t ||| 32768).testBit 15 = true := by rw [Nat.testBit_or, show (32768 : Nat) = 2 ^ 15 by decide, Nat.testBit_two_pow_self, Bool.or_true]
  obtain ⟨N, hN⟩ : ∃ N : Int, 8 * (((min x.length 300 : Nat) : Int) + 2) = N := ⟨_, rfl⟩
  have hNp : 0 < N := by omega
  have u1 := Int.lt_tmod_of_pos a1 hNp
  have u2 := Int.tmod_lt_of_pos a1 hNp
  obtain ⟨k, hk⟩ := Int.eq_ofNat_of_zero_le (a := (a1.tmod N + N).tmod N) (by rw [Int.tmod_eq_emod_of_nonneg (by omega)]; exact Int.emod_nonneg _ (by omega))
  have hkN : (k : Int) < N := by rw [← hk]; exact Int.tmod_lt_of_pos _ hNp
  refine bursts_core a0 _ cap0 (x.take 300) (min x.length 300) t a1 k (t ||| 32768) w (hx.take 300) rfl (by simp; omega) hc ht h1.1 h1.2 (by omega) (a1.tmod N) ?_ ?_ ?_ ?_ (or_top t ht) hm (Lib.hid hm15)
  · rw [hN]; exact u1
  · rw [hN]; exact u2
  · rw [hN]
  · rw [hN]; exact hk
end Go.Proofs.Ytlepghjfbcbcpaa.walks
