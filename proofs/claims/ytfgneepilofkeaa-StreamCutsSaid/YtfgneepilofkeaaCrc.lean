/-
  CONTRACTS OF PACKAGE crc, and of its reference: what each function answers, whatever it is handed.
-/
import Derived.Test.YtfgneepilofkeaaCrcMath
import Derived.OpenShut
import Derived.Laws.BitsAllLaws
import Derived.WalkLawsBesides
namespace Go.Proofs.Ytfgneepilofkeaa.crc
open Go.RowKit Go.Proofs.Ytfgneepilofkeaa.octets

theorem top_u16 {s : Nat} (h : s < 65536) : (bits BinOp.and IntKind.u16 (s : Int) 32768 != 0) = decide (32768 ≤ s) := by
  have e : bits BinOp.and IntKind.u16 (s : Int) 32768 = ((s &&& 32768 : Nat) : Int) := u16_and_nat s 32768 h (by decide)
  have e2 : s &&& 32768 = if 32768 ≤ s then 32768 else 0 := by
    apply Nat.eq_of_testBit_eq
    intro i
    rw [Nat.testBit_and, show (32768 : Nat) = 2 ^ 15 by decide, Nat.testBit_two_pow]
    by_cases hi : 15 = i
    · subst hi
      rw [top_bit h]
      by_cases h2 : 2 ^ 15 ≤ s
      · rw [if_pos h2, decide_eq_true (by omega : 32768 ≤ s)]; rfl
      · rw [if_neg h2, decide_eq_false (by omega : ¬ 32768 ≤ s)]; rfl
    · rw [decide_eq_false hi, Bool.and_false]
      split
      · rw [Nat.testBit_two_pow, decide_eq_false hi]
      · rw [Nat.zero_testBit]
  rw [e, e2]
  split
  · rename_i h2; rw [decide_eq_true h2]; rfl
  · rename_i h2; rw [decide_eq_false h2]; rfl

theorem dbl_u16 {s : Nat} (h1 : 32768 ≤ s) (h : s < 65536) : bits BinOp.xor IntKind.u16 (IntKind.u16.wrap ((s : Int) * 2)) 4129 = (dbl s : Int) := by
  have e : ((s : Int) * 2) % 65536 = ((2 * s - 65536 : Nat) : Int) := by omega
  rw [IntKind.wrap_u16, e, dbl_high h1 h]
  exact u16_xor_nat _ 4129 (by omega) (by decide)
theorem i64_xor_nat (a b : Nat) (ha : a < 65536) (hb : b < 65536) : bits BinOp.xor IntKind.i64 (a : Int) (b : Int) = ((a ^^^ b : Nat) : Int) := by
  have h := xor_lt ha hb
  show IntKind.i64.wrap ((BitVec.ofInt 64 (a : Int) ^^^ BitVec.ofInt 64 (b : Int)).toNat : Int) = _
  rw [BitVec.toNat_xor, BitVec.ofInt_natCast, BitVec.ofInt_natCast, BitVec.toNat_ofNat, BitVec.toNat_ofNat, Nat.mod_eq_of_lt (by omega), Nat.mod_eq_of_lt (by omega), IntKind.wrap_i64]
  omega

set_option maxHeartbeats 400000 in
theorem double_ok (s : Nat) (w : World) (h : s < 65536) :
    Calls Try.prog 31 #[.int .u16 s] w fun e w' => e = .returned (.int .u16 (dbl s)) ∧ w = w' := by
  by_cases h1 : 32768 ≤ s
  · have t1 : (bits BinOp.and IntKind.u16 (s : Int) 32768 != 0) = true := by rw [top_u16 h, decide_eq_true h1]
    have E := Lib.hid (dbl_u16 h1 h)
    go_enter Try.func31, Try.ntmps31
    go_wp2
    go_ret
    refine ⟨?_, rfl⟩
    rw [← E.out]; rfl
  · have t1 : (bits BinOp.and IntKind.u16 (s : Int) 32768 != 0) = false := by rw [top_u16 h, decide_eq_false h1]
    have E := Lib.hid (dbl_low (s := s) (by omega))
    go_enter Try.func31, Try.ntmps31
    go_wp2
    go_ret
    refine ⟨?_, rfl⟩
    rw [E.out, Nat.mul_comm]; rfl

theorem start_u16 {s c : Nat} (h : s < 65536) (hc : c < 256) : bits BinOp.xor IntKind.u16 (s : Int) ((c : Int) * 256) = ((s ^^^ c <<< 8 : Nat) : Int) := by
  have e : (c : Int) * (256 : Int) = ((c <<< 8 : Nat) : Int) := by rw [Nat.shiftLeft_eq]; omega
  rw [e]
  exact u16_xor_nat _ _ h (shl_lt hc)

set_option maxHeartbeats 400000 in
theorem step_ok (s c : Nat) (w : World) (h : s < 65536) (hc : c < 256) :
    Calls Try.prog 30 #[.int .u16 s, .int .u8 c] w fun e w' => e = .returned (.int .u16 (stp s c)) ∧ w = w' := by
  have Hx := Lib.hid (xor_lt h (shl_lt hc))
  have E := Lib.hid (start_u16 h hc)
  go_enter Try.func30, Try.ntmps30
  go_wp2
  go_loop [0, 10] (fun x t => ∃ i : Nat, i ≤ 8 ∧ t = .int .i64 i ∧ x = .int .u16 (dn i (s ^^^ c <<< 8))) (fun _ t => 8 - (intOf t).toNat)
  case atStart => exact ⟨0, by omega, rfl, congrArg _ E.out⟩
  case round =>
    obtain ⟨i, hi, rfl, rfl⟩ := hrel
    by_cases hlt : i < 8
    · go_wp2_with fail
      (with_reducible refine (double_ok _ _ (dn_lt Hx.out i)).mono ?_)
      rintro e w' ⟨rfl, rfl⟩
      go_wp2
      go_round
      case rel => exact ⟨i + 1, by omega, by go_num, rfl⟩
      case measure => simp [intOf]; omega
    · obtain rfl : i = 8 := by omega
      go_wp2
      go_ret
      exact ⟨rfl, rfl⟩

theorem rstep_low {s : Nat} (h : s < 32768) : (s : Int) * 2 = (dbl s : Int) := by rw [dbl_low h]; omega
theorem rstep_high {s : Nat} (h : 32768 ≤ s) (h2 : s < 65536) : bits BinOp.xor IntKind.i64 ((s : Int) * 2 - 65536) 4129 = (dbl s : Int) := by
  have e : (s : Int) * 2 - 65536 = ((2 * s - 65536 : Nat) : Int) := by omega
  rw [e, dbl_high h h2]
  exact i64_xor_nat _ 4129 (by omega) (by decide)
theorem start_i64 {s c : Nat} (h : s < 65536) (hc : c < 256) : bits BinOp.xor IntKind.i64 (s : Int) ((c : Int) * 256) = ((s ^^^ c <<< 8 : Nat) : Int) := by
  have e : (c : Int) * (256 : Int) = ((c <<< 8 : Nat) : Int) := by rw [Nat.shiftLeft_eq]; omega
  rw [e]
  exact i64_xor_nat _ _ h (shl_lt hc)
set_option maxHeartbeats 400000 in
theorem rstep_ok (s c : Nat) (w : World) (h : s < 65536) (hc : c < 256) :
    Calls Try.prog 25 #[.int .u16 s, .int .u8 c] w fun e w' => e = .returned (.int .u16 (stp s c)) ∧ w = w' := by
  have Hx := Lib.hid (xor_lt h (shl_lt hc))
  have E := Lib.hid (start_i64 h hc)
  go_enter Try.func25, Try.ntmps25
  go_wp2
  go_loop [5, 6] (fun x t => ∃ i : Nat, i ≤ 8 ∧ t = .int .i64 i ∧ x = .int .i64 (dn i (s ^^^ c <<< 8))) (fun _ t => 8 - (intOf t).toNat)
  case atStart => exact ⟨0, by omega, rfl, congrArg _ E.out⟩
  case round =>
    obtain ⟨i, hi, rfl, rfl⟩ := hrel
    have hd := dn_lt Hx.out i
    have hn : dn (i + 1) (s ^^^ c <<< 8) = dbl (dn i (s ^^^ c <<< 8)) := rfl
    by_cases hlt : i < 8
    · generalize dn i (s ^^^ c <<< 8) = y at hd hn
      by_cases h1 : 32768 ≤ y
      · have F := Lib.hid (rstep_high h1 hd)
        have t1 : decide ((65536 : Int) ≤ (y : Int) * 2) = true := decide_eq_true (by omega)
        go_wp2
        go_round
        case rel => exact ⟨i + 1, by omega, by go_num, by rw [hn, ← F.out]⟩
        case measure => simp [intOf]; omega
      · have F := Lib.hid (rstep_low (s := y) (by omega))
        have t1 : decide ((65536 : Int) ≤ (y : Int) * 2) = false := decide_eq_false (by omega)
        go_wp2
        go_round
        case rel => exact ⟨i + 1, by omega, by go_num, by rw [hn, ← F.out]⟩
        case measure => simp [intOf]; omega
    · obtain rfl : i = 8 := by omega
      go_wp2
      go_ret
      exact ⟨rfl, rfl⟩

set_option maxHeartbeats 400000 in
theorem sum_ok (A : Option Addr) (cap : Nat) (l : List UInt8) (w : World) (hl : l.length ≤ 1048576) (hr : Seen w A l) :
    Calls Try.prog 28 #[.slice A l.length cap] w fun e w' => e = .returned (.int .u16 (sumL 65535 l)) ∧ w = w' := by
  go_enter Try.func28, Try.ntmps28
  go_wp2
  go_loop [3, 8] (fun x t => ∃ i : Nat, i ≤ l.length ∧ t = .int .i64 i ∧ x = .int .u16 (sumL 65535 (l.take i))) (fun _ t => l.length - (intOf t).toNat)
  case atStart => exact ⟨0, by omega, rfl, rfl⟩
  case round =>
    obtain ⟨i, hi, rfl, rfl⟩ := hrel
    by_cases hlt : i < l.length
    · obtain ⟨b, o, rfl, _, hc'⟩ := hr.at_ hlt
      have hcell := hc' i hlt
      clear hc'
      have hs := sumL_lt (l.take i) (s := 65535) (by decide)
      have E := Lib.hid (sumL_take 65535 l i hlt)
      go_wp2_with fail
      (with_reducible refine (step_ok _ _ _ hs (l[i].toNat_lt)).mono ?_)
      rintro e w' ⟨rfl, rfl⟩
      go_wp2
      go_round
      case rel => exact ⟨i + 1, by omega, by go_num, by rw [E.out]⟩
      case measure => simp [intOf]; omega
    · obtain rfl : i = l.length := by omega
      rw [List.take_length]
      go_wp2
      go_ret
      exact ⟨rfl, rfl⟩
theorem sum_at (A : Option Addr) (n cap : Nat) (l : List UInt8) (s : Nat) (w : World) (hn : l.length = n) (hl : n ≤ 1048576) (hr : Seen w A l) (hs : sumL 65535 l = s) :
    Calls Try.prog 28 #[.slice A n cap] w fun e w' => e = .returned (.int .u16 s) ∧ w = w' := by subst hn hs; exact sum_ok A cap l w hl hr

set_option maxHeartbeats 400000 in
theorem rsum_ok (A : Option Addr) (cap : Nat) (l : List UInt8) (w : World) (hl : l.length ≤ 1048576) (hr : Seen w A l) :
    Calls Try.prog 20 #[.slice A l.length cap] w fun e w' => e = .returned (.int .u16 (sumL 65535 l)) ∧ w = w' := by
  go_enter Try.func20, Try.ntmps20
  go_wp2
  go_loop [3, 4] (fun x t => ∃ i : Nat, i ≤ l.length ∧ t = .int .i64 i ∧ x = .int .u16 (sumL 65535 (l.take i))) (fun _ t => l.length - (intOf t).toNat)
  case atStart => exact ⟨0, by omega, rfl, rfl⟩
  case round =>
    obtain ⟨i, hi, rfl, rfl⟩ := hrel
    by_cases hlt : i < l.length
    · obtain ⟨b, o, rfl, _, hc'⟩ := hr.at_ hlt
      have hcell := hc' i hlt
      clear hc'
      have hs := sumL_lt (l.take i) (s := 65535) (by decide)
      have E := Lib.hid (sumL_take 65535 l i hlt)
      go_wp2_with fail
      (with_reducible refine (rstep_ok _ _ _ hs (l[i].toNat_lt)).mono ?_)
      rintro e w' ⟨rfl, rfl⟩
      go_wp2
      go_round
      case rel => exact ⟨i + 1, by omega, by go_num, by rw [E.out]⟩
      case measure => simp [intOf]; omega
    · obtain rfl : i = l.length := by omega
      rw [List.take_length]
      go_wp2
      go_ret
      exact ⟨rfl, rfl⟩
theorem rsum_at (A : Option Addr) (n cap : Nat) (l : List UInt8) (s : Nat) (w : World) (hn : l.length = n) (hl : n ≤ 1048576) (hr : Seen w A l) (hs : sumL 65535 l = s) :
    Calls Try.prog 20 #[.slice A n cap] w fun e w' => e = .returned (.int .u16 s) ∧ w = w' := by subst hn hs; exact rsum_ok A cap l w hl hr
end Go.Proofs.Ytfgneepilofkeaa.crc
