/-
  CONTRACTS OF PACKAGE pack: what each of its functions answers, whatever it is handed; what it makes is new.
-/
import Derived.Test.YtmibgmcgicphoaaPackMath
import Derived.OpenShut
import Derived.Laws.Bits64b
import Derived.WalkLawsBesides
namespace Go.Proofs.Ytmibgmcgicphoaa.pack
open Go.RowKit Go.Proofs.Ytmibgmcgicphoaa.octets

theorem u8_info : (Try.prog.info? 5).map (fun i => (i.zero, i.size, i.bytes)) = some (some (.int .u8 0), 1, 1) := by kernel_rfl

/-- bytes of its own, l, and no error -/
def Made (l : List UInt8) (w : World) (e : Ending) (w' : World) : Prop :=
  ∃ b, e = .returned (.tuple #[.slice (some ⟨b, 0, none⟩) l.length l.length, .int .i64 0]) ∧ w.heap.size ≤ b ∧ Row w' b l ∧ Below w.heap.size w w'

theorem pow_8 (k : Nat) : (256 : Nat) ^ k = 2 ^ (8 * k) := by rw [Nat.pow_mul]
theorem div_8 (n k : Nat) : ((n : Int) / 2 ^ (8 * k)) = ((n / 256 ^ k : Nat) : Int) := by rw [pow_8]; simp
theorem lt_64 {n k : Nat} (hk : k ≤ 8) (hf : n < 256 ^ k) : n ≤ 18446744073709551615 := by
  have : 256 ^ k ≤ 256 ^ 8 := Nat.pow_le_pow_right (by decide) hk
  have h8 : (256 : Nat) ^ 8 = 18446744073709551616 := by decide
  omega

/-- '&' with a row of ones -/
theorem and_low (n k : Nat) (hn : n ≤ 18446744073709551615) (hk : k < 8) : bits BinOp.and IntKind.u64 (n : Int) (IntKind.u64.wrap (IntKind.u64.wrap (2 ^ (8 * k)) - 1)) = ((n % 256 ^ k : Nat) : Int) := by
  have hp : 2 ^ (8 * k) ≤ 2 ^ 56 := Nat.pow_le_pow_right (by decide) (by omega)
  have hpos : 0 < 2 ^ (8 * k) := Nat.two_pow_pos _
  have h56 : (2 : Nat) ^ 56 = 72057594037927936 := by decide
  have e : (2 ^ (8 * k) : Int) = ((2 ^ (8 * k) : Nat) : Int) := by simp
  rw [e, pow_8, ← Nat.and_two_pow_sub_one_eq_mod]
  generalize 2 ^ (8 * k) = P at hp hpos
  have e2 : IntKind.u64.wrap (IntKind.u64.wrap (P : Int) - 1) = ((P - 1 : Nat) : Int) := by
    rw [IntKind.wrap_u64, IntKind.wrap_u64]; omega
  rw [e2, bits_and_u64_nat _ _ (by omega) (by omega)]

theorem row_made {w : World} {b k n : Nat} {f : Nat → Value} (h : w.rowIs b 5 k f) (hf : ∀ i, i < k → f i = .int .u8 (((octs k n).getD i 0).toNat : Int)) : Row w b (octs k n) := by
  unfold Row
  rw [octs_len]
  exact h.congr hf

theorem made_of {k n b : Nat} {w w' : World} (h1 : w.heap.size ≤ b) (h2 : Row w' b (octs k n)) (h3 : Below w.heap.size w w') :
    Made (octs k n) w (.returned (.tuple #[.slice (some ⟨b, 0, none⟩) k k, .int .i64 0])) w' := ⟨b, by rw [octs_len], h1, h2, h3⟩

set_option maxHeartbeats 400000 in
theorem put_ok (n k : Nat) (w : World) (hk : k ≤ 8) (hf : n < 256 ^ k) :
    Calls Try.prog 54 #[.int .u64 n, .int .i64 k] w (Made (octs k n) w) := by
  have hmk := fun W => run_make_row' (P := Try.prog) 29 5 (.int .u8 0) 1 Try.underlying29 u8_info rfl .i64 .i64 k (by omega) (by omega) W
  have hn := lt_64 hk hf
  have t1 : decide ((k : Int) < 0) = false := decide_eq_false (by omega)
  have t2 : decide ((8 : Int) < k) = false := decide_eq_false (by omega)
  have t3 : (((n : Int) / 2 ^ (8 * k)) != 0) = false := by
    rw [div_8, Nat.div_eq_of_lt hf]; rfl
  have Hf := Lib.hid hf
  clear hf
  go_enter Try.func54, Try.ntmps54
  go_wp2
  have hB : w.heap.size < (w.alloc (.cells (madeCells #[.int .u8 0] k) 5)).heap.size := by simp
  go_loopw [24] (fun t wr => ∃ i : Nat, i ≤ k ∧ t = .int .i64 i ∧ Below w.heap.size w wr ∧ wr.rowIs w.heap.size 5 k (fun j => if k - i ≤ j then .int .u8 (((octs k n).getD j 0).toNat : Int) else .int .u8 0)) (fun t _ => k - (intOf t).toNat)
  case atStart => exact ⟨0, by omega, rfl, (Below.refl _ _).alloc (Nat.le_refl _) _, (World.rowIs_made w (.int .u8 0) k 5).congr (fun i hi => by rw [if_neg (by omega)])⟩
  case round =>
    obtain ⟨i, hi, rfl, hb, hr⟩ := hrel
    by_cases hlt : i < k
    · have hcell := hr.cell (i := k - 1 - i) (by omega)
      rw [if_neg (by omega)] at hcell
      have hfr := hr.frozen (k - 1 - i)
      have Hv : Hid (((n : Int) / 2 ^ (8 * i) % 256) = (((octs k n).getD (k - 1 - i) 0).toNat : Int)) := by
        apply Lib.hid
        rw [div_8, octs_byte (by omega), show k - 1 - (k - 1 - i) = i by omega]
        rfl
      go_wp2
      go_roundw
      case rel =>
        refine ⟨i + 1, by omega, by go_num, hb.setCell (Nat.le_refl _) _, (hr.set (k - 1 - i) _).congr (fun j hj => ?_)⟩
        rw [Hv.out]
        by_cases e : j = k - 1 - i
        · subst e; rw [if_pos rfl, if_pos (by omega)]
        · rw [if_neg e]
          by_cases e2 : k - i ≤ j
          · rw [if_pos e2, if_pos (by omega)]
          · rw [if_neg e2, if_neg (by omega)]
      case measure => simp [intOf]; omega
    · obtain rfl : i = k := by omega
      go_wp2
      go_ret2
      exact made_of (Nat.le_refl _) (row_made hr (fun j hj => by rw [if_pos (by omega)])) hb

/-- the same, the arguments spelled as they come -/
theorem put_at (a s : Int) (n k : Nat) (w : World) (ea : a = n) (es : s = k) (hk : k ≤ 8) (hf : n < 256 ^ k) :
    Calls Try.prog 54 #[.int .u64 a, .int .i64 s] w (Made (octs k n) w) := by subst ea es; exact put_ok n k w hk hf

set_option maxHeartbeats 400000 in
theorem put_no (n k : Nat) (w : World) (_hn : n ≤ 18446744073709551615) (hk : k ≤ 8) (hf : 256 ^ k ≤ n) :
    Calls Try.prog 54 #[.int .u64 n, .int .i64 k] w fun e w' => e = .returned (.tuple #[.slice none 0 0, .int .i64 1]) ∧ w = w' := by
  have t1 : decide ((k : Int) < 0) = false := decide_eq_false (by omega)
  have t2 : decide ((8 : Int) < k) = false := decide_eq_false (by omega)
  have t3 : (((n : Int) / 2 ^ (8 * k)) != 0) = true := by
    have : 1 ≤ n / 256 ^ k := (Nat.le_div_iff_mul_le (Nat.pow_pos (by decide))).2 (by omega)
    rw [div_8, bne_iff_ne]; omega
  have Hf := Lib.hid hf
  clear hf
  go_enter Try.func54, Try.ntmps54
  go_wp2
  go_ret2
  exact ⟨rfl, rfl⟩

theorem or_8 (a c : Nat) (ha : a < 72057594037927936) (hc : c < 256) : bits BinOp.or IntKind.u64 (((a * 256 : Nat)) : Int) (c : Int) = ((a * 256 + c : Nat) : Int) := by
  rw [bits_or_u64_nat _ _ (by omega) (by omega)]
  have := Nat.shiftLeft_add_eq_or_of_lt (b := c) (i := 8) (by omega) a
  rw [Nat.shiftLeft_eq] at this
  rw [show a * 256 = a * 2 ^ 8 by rfl, ← this]

theorem put_no_at (a s : Int) (n k : Nat) (w : World) (ea : a = n) (es : s = k) (hn : n ≤ 18446744073709551615) (hk : k ≤ 8) (hf : 256 ^ k ≤ n) :
    Calls Try.prog 54 #[.int .u64 a, .int .i64 s] w fun e w' => e = .returned (.tuple #[.slice none 0 0, .int .i64 1]) ∧ w = w' := by subst ea es; exact put_no n k w hn hk hf

theorem num_take (l : List UInt8) (i : Nat) (h : i < l.length) : num (l.take (i + 1)) = num (l.take i) * 256 + l[i].toNat := by
  rw [List.take_succ_eq_append_getElem h, num_snoc]

set_option maxHeartbeats 400000 in
theorem take_seen (A : Option Addr) (cap : Nat) (l : List UInt8) (w : World) (hl : l.length ≤ 8) (hr : Seen w A l) :
    Calls Try.prog 56 #[.slice A l.length cap] w fun e w' => e = .returned (.tuple #[.int .u64 (num l), .int .i64 0]) ∧ w = w' := by
  have t2 : decide ((8 : Int) < (l.length : Int)) = false := decide_eq_false (by omega)
  go_enter Try.func56, Try.ntmps56
  go_wp2
  go_loop [4, 12] (fun n t => ∃ i : Nat, i ≤ l.length ∧ t = .int .i64 i ∧ n = .int .u64 (num (l.take i))) (fun _ t => l.length - (intOf t).toNat)
  case atStart => exact ⟨0, by omega, rfl, rfl⟩
  case round =>
    obtain ⟨i, hi, rfl, rfl⟩ := hrel
    by_cases hlt : i < l.length
    · obtain ⟨b, o, rfl, _, hc'⟩ := hr.at_ hlt
      have hcell := hc' i hlt
      clear hc'
      have hle := num_lt (l.take i)
      have hz : num (l.take i) < 72057594037927936 := by
        have h1 : (l.take i).length ≤ 7 := by simp; omega
        have : 256 ^ (l.take i).length ≤ 256 ^ 7 := Nat.pow_le_pow_right (by decide) h1
        have h7 : (256 : Nat) ^ 7 = 72057594037927936 := by decide
        omega
      have hc : l[i].toNat < 256 := l[i].toNat_lt
      have Hs : Hid (Value.int .u64 (bits BinOp.or IntKind.u64 ((num (l.take i) : Int) * 256) (l[i].toNat : Int)) = .int .u64 (num (l.take (i + 1)))) := by
        apply Lib.hid
        rw [num_take l i hlt, ← or_8 _ _ hz hc]
        simp
      clear hle
      go_wp2
      go_round
      case rel => exact ⟨i + 1, by omega, by go_num, Hs.out⟩
      case measure => simp [intOf]; omega
    · obtain rfl : i = l.length := by omega
      rw [List.take_length]
      go_wp2
      go_ret2
      exact ⟨rfl, rfl⟩

theorem take_seen_at (A : Option Addr) (cap n r : Nat) (l : List UInt8) (w : World) (hn : l.length = n) (hl : n ≤ 8) (hs : Seen w A l) (hr : num l = r) :
    Calls Try.prog 56 #[.slice A n cap] w fun e w' => e = .returned (.tuple #[.int .u64 r, .int .i64 0]) ∧ w = w' := by subst hn hr; exact take_seen A cap l w hl hs
theorem take_ok (b : Nat) (l : List UInt8) (w : World) (hl : l.length ≤ 8) (hr : Row w b l) :
    Calls Try.prog 56 #[.slice (some ⟨b, 0, none⟩) l.length l.length] w fun e w' => e = .returned (.tuple #[.int .u64 (num l), .int .i64 0]) ∧ w = w' := take_seen _ _ l w hl hr.seen
/-- the same, how many there are told apart -/
theorem take_at (b k : Nat) (l : List UInt8) (w : World) (hk : l.length = k) (hl : k ≤ 8) (hr : Row w b l) (n : Nat) (hn : num l = n) :
    Calls Try.prog 56 #[.slice (some ⟨b, 0, none⟩) k k] w fun e w' => e = .returned (.tuple #[.int .u64 n, .int .i64 0]) ∧ w = w' := by subst hk hn; exact take_ok b l w hl hr

set_option maxHeartbeats 400000 in
theorem putInt_ok (n : Int) (w : World) (h1 : -32768 ≤ n) (h2 : n ≤ 32767) :
    Calls Try.prog 58 #[.int .i64 n] w (Made (octs 2 (sign n)) w) := by
  have t1 : decide (n < -32768) = false := decide_eq_false (by omega)
  have t2 : decide ((32767 : Int) < n) = false := decide_eq_false (by omega)
  have hl := sign_lt n
  by_cases h : n < 0
  · have t3 : decide (n < 0) = true := decide_eq_true h
    have e : ((sign n : Nat) : Int) = n + 65536 := by unfold sign; omega
    have He := Lib.hid e.symm
    clear e
    go_enter Try.func58, Try.ntmps58
    go_wp2_with fail
    (with_reducible refine (put_at _ 2 (sign n) 2 _ He.out (by decide) (by omega) (by omega)).mono ?_)
    rintro e w' ⟨b, rfl, hb1, hr, hb⟩
    go_wp2
    go_ret2
    exact ⟨b, rfl, hb1, hr, hb⟩
  · have t3 : decide (n < 0) = false := decide_eq_false h
    have e : ((sign n : Nat) : Int) = n := by unfold sign; omega
    have He := Lib.hid e.symm
    clear e
    go_enter Try.func58, Try.ntmps58
    go_wp2_with fail
    (with_reducible refine (put_at _ 2 (sign n) 2 _ He.out (by decide) (by omega) (by omega)).mono ?_)
    rintro e w' ⟨b, rfl, hb1, hr, hb⟩
    go_wp2
    go_ret2
    exact ⟨b, rfl, hb1, hr, hb⟩

theorem putInt_at (n : Int) (s : Nat) (w : World) (h1 : -32768 ≤ n) (h2 : n ≤ 32767) (hs : sign n = s) :
    Calls Try.prog 58 #[.int .i64 n] w (Made (octs 2 s) w) := by subst hs; exact putInt_ok n w h1 h2
theorem octs2_0 {s : Nat} (h : s < 65536) : ((octs 2 s).getD 0 0).toNat = s / 256 := by rw [octs_byte (by decide)]; omega
theorem octs2_1 {s : Nat} : ((octs 2 s).getD 1 0).toNat = s % 256 := by rw [octs_byte (by decide)]; omega

set_option maxHeartbeats 400000 in
theorem putInt_no (n : Int) (w : World) (h : n < -32768 ∨ 32767 < n) :
    Calls Try.prog 58 #[.int .i64 n] w fun e w' => e = .returned (.tuple #[.slice none 0 0, .int .i64 1]) ∧ w = w' := by
  by_cases h1 : n < -32768
  · have t1 : decide (n < -32768) = true := decide_eq_true (by omega)
    go_enter Try.func58, Try.ntmps58
    go_wp2
    go_ret2
    exact ⟨rfl, rfl⟩
  · have t1 : decide (n < -32768) = false := decide_eq_false (by omega)
    have t2 : decide ((32767 : Int) < n) = true := decide_eq_true (by omega)
    go_enter Try.func58, Try.ntmps58
    go_wp2
    go_ret2
    exact ⟨rfl, rfl⟩

set_option maxHeartbeats 400000 in
theorem takeInt_ok (b : Nat) (l : List UInt8) (w : World) (hl : l.length = 2) (hr : Row w b l) :
    Calls Try.prog 60 #[.slice (some ⟨b, 0, none⟩) 2 2] w fun e w' => e = .returned (.tuple #[.int .i64 (signed (num l)), .int .i64 0]) ∧ w = w' := by
  have hs := take_ok b l w (by omega) hr
  have hlt := num_lt l
  rw [hl] at hs hlt
  have hlt' : num l < 65536 := by omega
  have Hs := Lib.hid hs
  clear hs hlt hl
  by_cases h : 32767 < num l
  · have t3 : decide ((32767 : Int) < (num l : Int)) = true := decide_eq_true (by omega)
    have e : signed (num l) = (num l : Int) - 65536 := by unfold signed; rw [if_pos h]
    rw [e]
    clear e
    go_enter Try.func60, Try.ntmps60
    go_wp2_with fail
    (with_reducible refine Hs.out.mono ?_)
    rintro e w' ⟨rfl, rfl⟩
    go_wp2
    go_ret2
    exact ⟨rfl, rfl⟩
  · have t3 : decide ((32767 : Int) < (num l : Int)) = false := decide_eq_false (by omega)
    have e : signed (num l) = (num l : Int) := by unfold signed; rw [if_neg h]
    rw [e]
    clear e
    go_enter Try.func60, Try.ntmps60
    go_wp2_with fail
    (with_reducible refine Hs.out.mono ?_)
    rintro e w' ⟨rfl, rfl⟩
    go_wp2
    go_ret2
    exact ⟨rfl, rfl⟩
end Go.Proofs.Ytmibgmcgicphoaa.pack
