/-
  THE WALK OF 'NumSets': a set's members add up to it; one member more.
-/
import Derived.Test.YtofhhdnllloliaaNum
namespace Go.Proofs.Ytofhhdnllloliaa.walks
open Go.ChangeShapes Go.WideShapes Go.ChangeAt Go.RowKit Go.Proofs.Ytofhhdnllloliaa.num
set_option linter.unusedVariables false

/-- '&' with a row of ones, of whatever number -/
theorem and_ones (x : Int) (j : Nat) (hj : j ≤ 62) : bits BinOp.and IntKind.i64 x ((2 ^ j - 1 : Nat) : Int) = x % ((2 ^ j : Nat) : Int) := by
  have hp : 2 ^ j ≤ 2 ^ 62 := Nat.pow_le_pow_right (by decide) hj
  have hpos : 0 < 2 ^ j := Nat.two_pow_pos j
  have h62 : (2 : Nat) ^ 62 = 4611686018427387904 := by decide
  have hd : (2 : Nat) ^ 64 = 2 ^ j * 2 ^ (64 - j) := by rw [← Nat.pow_add]; congr 1; omega
  show IntKind.i64.wrap ((BitVec.ofInt 64 x &&& BitVec.ofInt 64 ((2 ^ j - 1 : Nat) : Int)).toNat : Int) = _
  rw [BitVec.toNat_and, BitVec.ofInt_natCast, BitVec.toNat_ofNat, Nat.mod_eq_of_lt (by omega : 2 ^ j - 1 < 2 ^ 64), Nat.and_two_pow_sub_one_eq_mod, BitVec.toNat_ofInt]
  have h1 : ((x % ((2 ^ 64 : Nat) : Int)).toNat % 2 ^ j : Nat) < 2 ^ j := Nat.mod_lt _ hpos
  have h2 : (((x % ((2 ^ 64 : Nat) : Int)).toNat % 2 ^ j : Nat) : Int) = x % ((2 ^ j : Nat) : Int) := by
    have h0 : 0 ≤ x % ((2 ^ 64 : Nat) : Int) := Int.emod_nonneg _ (by decide)
    rw [Int.natCast_emod, Int.toNat_of_nonneg h0]
    have hdI : ((2 ^ 64 : Nat) : Int) = ((2 ^ j : Nat) : Int) * ((2 ^ (64 - j) : Nat) : Int) := by
      rw [hd]; exact Int.natCast_mul _ _
    rw [hdI]
    exact Int.emod_emod_of_dvd _ ⟨_, rfl⟩
  rw [← h2]
  generalize ((x % ((2 ^ 64 : Nat) : Int)).toNat % 2 ^ j : Nat) = m at h1
  rw [IntKind.wrap_i64]; omega

theorem and_20 (x : Int) : bits BinOp.and IntKind.i64 x 1048575 = x % 1048576 := and_ones x 20 (by decide)
theorem and_5 (x : Int) : bits BinOp.and IntKind.i64 x 31 = x % 32 := and_ones x 5 (by decide)

theorem or_one (S k : Nat) (hS : S < 1048576) (hk : k < 32) : bits BinOp.or IntKind.i64 (S : Int) (wrap64 (1 * 2 ^ (k : Int).toNat)) = ((S ||| 2 ^ k : Nat) : Int) := by
  have hp : 2 ^ k ≤ 2 ^ 31 := Nat.pow_le_pow_right (by decide) (by omega)
  have e : wrap64 (1 * 2 ^ (k : Int).toNat) = ((2 ^ k : Nat) : Int) := by
    have : (1 * 2 ^ (k : Int).toNat : Int) = ((2 ^ k : Nat) : Int) := by simp
    rw [this]
    generalize 2 ^ k = P at hp
    unfold wrap64; omega
  rw [e]
  exact (bits_nat .i64 63 (by decide) (fun n h h' => by rw [IntKind.wrap_i64]; omega) S (2 ^ k) (by omega) (by omega)).2

theorem has_nat (S i : Nat) (hi : i ≤ 62) : has (S : Int) (i : Int) = S.testBit i := by
  unfold has
  rw [decide_eq_true (by omega), decide_eq_true (by omega), decide_eq_true (by omega)]
  simp
theorem has_far (s : Int) (i : Nat) (hi : 62 < i) : has s (i : Int) = false := by
  unfold has
  rw [decide_eq_false (p := (i : Int) ≤ 62) (by omega)]; simp

/-- the sum of the members below i -/
def part (S i : Nat) : Nat := S % 2 ^ i
theorem part_step (S i : Nat) : part S (i + 1) = part S i + if S.testBit i then 2 ^ i else 0 := by
  unfold part
  rw [Nat.mod_pow_succ, Nat.testBit_eq_decide_div_mod_eq]
  have h : S / 2 ^ i % 2 = 0 ∨ S / 2 ^ i % 2 = 1 := by omega
  rcases h with h | h <;> simp [h]
theorem part_all (S i : Nat) (h : S < 2 ^ i) : part S i = S := Nat.mod_eq_of_lt h

theorem bit_lt (S i : Nat) (hS : S < 1048576) (h : S.testBit i = true) : i < 20 := by
  have h1 : 2 ^ i ≤ S := Nat.ge_two_pow_of_testBit h
  have h2 : (2 : Nat) ^ i < 2 ^ 20 := by have : (2 : Nat) ^ 20 = 1048576 := by decide
                                         omega
  exact (Nat.pow_lt_pow_iff_right (by decide)).1 h2

/-- a round of the first loop -/
theorem round_yes (S i : Nat) (hS : S < 1048576) (h : has (S : Int) (i : Int) = true) : i < 20 ∧ part S (i + 1) = part S i + 2 ^ i := by
  have hi : i ≤ 62 := by
    by_cases h' : i ≤ 62
    · exact h'
    · rw [has_far _ _ (by omega)] at h; cases h
  rw [has_nat S i hi] at h
  refine ⟨bit_lt S i hS h, ?_⟩
  rw [part_step, h]; rfl
theorem round_no (S i : Nat) (hS : S < 1048576) (h : has (S : Int) (i : Int) = false) : part S (i + 1) = part S i := by
  have hb : S.testBit i = false := by
    by_cases h' : i ≤ 62
    · rw [has_nat S i h'] at h; exact h
    · cases hb : S.testBit i
      · rfl
      · have := bit_lt S i hS hb; omega
  rw [part_step, hb]; rfl

theorem sum_ret (S i : Nat) (hS : S < 1048576) (h : has (S : Int) (i : Int) = true) : wrap64 ((part S i : Nat) + wrap64 (2 ^ i)) = ((part S (i + 1) : Nat) : Int) := by
  obtain ⟨h1, h2⟩ := round_yes S i hS h
  rw [h2]
  have hp : 2 ^ i ≤ 2 ^ 19 := Nat.pow_le_pow_right (by decide) (by omega)
  have hle : part S i ≤ S := Nat.mod_le _ _
  have e : (2 ^ i : Int) = ((2 ^ i : Nat) : Int) := by simp
  rw [e]
  generalize 2 ^ i = P at hp
  generalize part S i = Q at hle
  unfold wrap64; omega

/-- with one member more -/
theorem has_more (S k : Nat) (i : Int) (hi : -1 ≤ i) (hk : k < 32) : has ((S ||| 2 ^ k : Nat) : Int) i = (has (S : Int) i || (i == (k : Int))) := by
  by_cases h0 : i = -1
  · subst h0
    have h1 : has (S : Int) (-1) = false := by unfold has; simp
    have h2 : has ((S ||| 2 ^ k : Nat) : Int) (-1) = false := by unfold has; simp
    rw [h1, h2]
    have : ((-1 : Int) == (k : Int)) = false := by rw [beq_eq_false_iff_ne]; omega
    rw [this]; rfl
  · obtain ⟨n, rfl⟩ := Int.eq_ofNat_of_zero_le (show 0 ≤ i by omega)
    by_cases hn : n ≤ 62
    · rw [has_nat _ _ hn, has_nat _ _ hn, Nat.testBit_or, Nat.testBit_two_pow]
      congr 1
      rw [Bool.eq_iff_iff]; simp; try omega
    · rw [has_far _ _ (by omega), has_far _ _ (by omega)]
      have : ((n : Int) == (k : Int)) = false := by rw [beq_eq_false_iff_ne]; omega
      rw [this]; rfl

theorem sum_more {sm a b : Int} (h : a = b) : Value.int IntKind.i64 a = Value.int IntKind.i64 b := by rw [h]

set_option maxHeartbeats 2000000 in
theorem sets_core (a0 a1 : Int) (S k M : Nat) (w : World) (hS : S < 1048576) (hk : k < 32) (hM : M < 9223372036854775808) (e0 : bits BinOp.and IntKind.i64 a0 1048575 = (S : Int)) (e1 : bits BinOp.and IntKind.i64 a1 31 = (k : Int))
    (e2 : bits BinOp.or IntKind.i64 (S : Int) (wrap64 (2 ^ k)) = (M : Int)) (hmore : Hid (∀ i : Int, -1 ≤ i → has (M : Int) i = (has (S : Int) i || (i == (k : Int))))) :
    Calls Try.prog 5 #[.int .i64 a0, .int .i64 a1] w fun e w' => e = .returned (.bool true) ∧ Grown w w' := by
  have iS : Hid (I64 (S : Int)) := Lib.hid ⟨by omega, by omega⟩
  have iM : Hid (I64 (M : Int)) := Lib.hid ⟨by omega, by omega⟩
  have E0 := Lib.hid e0
  have E1 := Lib.hid e1
  have E2 := Lib.hid e2
  clear e0 e1 e2
  go_enter Try.func5, Try.ntmps5
  try dsimp only [List.append]
  go_wp2_with fail
  refine (shown_any _).mono ?_; rintro e w' ⟨rfl, rfl⟩
  have e0 := E0.out
  have e1 := E1.out
  go_wp2_with fail
  clear e0 e1
  go_loop [8, 9] (fun sm i => ∃ n : Nat, n ≤ 64 ∧ i = .int .i64 n ∧ sm = .int .i64 (part S n)) (fun _ i => 64 - (intOf i).toNat)
  case atStart => exact ⟨0, by omega, rfl, by simp [part]⟩
  case round =>
    obtain ⟨n, hn, rfl, rfl⟩ := hrel
    by_cases hlt : n < 64
    · cases hb : has (S : Int) (n : Int)
      · have Hb := Lib.hid hb
        have Hr := Lib.hid (round_no S n hS hb)
        clear hb
        go_wp2_with fail
        (with_reducible refine (has_is _ _ false _ iS.out Hb.out).mono ?_); rintro e w' ⟨rfl, rfl⟩
        go_wp2
        go_round
        case rel => exact ⟨n + 1, by omega, by go_num, by rw [Hr.out]⟩
        case measure => simp [intOf]; omega
      · have Hb := Lib.hid hb
        have hn20 := (round_yes S n hS hb).1
        have Hr := Lib.hid (sum_ret S n hS hb)
        clear hb
        go_wp2_with fail
        (with_reducible refine (has_is _ _ true _ iS.out Hb.out).mono ?_); rintro e w' ⟨rfl, rfl⟩
        go_wp2
        go_round
        case rel => exact ⟨n + 1, by omega, by go_num, by rw [← Hr.out]⟩
        case measure => simp [intOf]; omega
    · obtain rfl : n = 64 := by omega
      rw [part_all S 64 (by omega)]
      have e2 := E2.out
      go_wp2_with fail
      clear e2
      go_loop [11] (fun i => ∃ z : Int, -1 ≤ z ∧ z ≤ 64 ∧ i = .int .i64 z) (fun i => (64 - intOf i).toNat)
      case atStart => exact ⟨-1, by omega, by omega, rfl⟩
      case round =>
        obtain ⟨z, hz1, hz2, rfl⟩ := hrel
        by_cases hlt : z < 64
        · have hm := hmore.out z hz1
          cases hb : has (S : Int) z
          · cases hk' : (z == (k : Int))
            · rw [hb, hk'] at hm
              have Hm := Lib.hid hm
              have Hb := Lib.hid hb
              clear hm hb
              go_wp2_with fail
              (with_reducible refine (has_is _ _ false _ iM.out Hm.out).mono ?_); rintro e w' ⟨rfl, rfl⟩
              go_wp2_with fail
              (with_reducible refine (has_is _ _ false _ iS.out Hb.out).mono ?_); rintro e w' ⟨rfl, rfl⟩
              go_wp2
              go_round
              case rel => exact ⟨z + 1, by omega, by omega, by go_num⟩
              case measure => simp [intOf]; omega
            · rw [hb, hk'] at hm
              have Hm := Lib.hid hm
              have Hb := Lib.hid hb
              clear hm hb
              go_wp2_with fail
              (with_reducible refine (has_is _ _ true _ iM.out Hm.out).mono ?_); rintro e w' ⟨rfl, rfl⟩
              go_wp2_with fail
              (with_reducible refine (has_is _ _ false _ iS.out Hb.out).mono ?_); rintro e w' ⟨rfl, rfl⟩
              go_wp2
              go_round
              case rel => exact ⟨z + 1, by omega, by omega, by go_num⟩
              case measure => simp [intOf]; omega
          · rw [hb, Bool.true_or] at hm
            have Hm := Lib.hid hm
            have Hb := Lib.hid hb
            clear hm hb
            go_wp2_with fail
            (with_reducible refine (has_is _ _ true _ iM.out Hm.out).mono ?_); rintro e w' ⟨rfl, rfl⟩
            go_wp2_with fail
            (with_reducible refine (has_is _ _ true _ iS.out Hb.out).mono ?_); rintro e w' ⟨rfl, rfl⟩
            go_wp2
            go_round
            case rel => exact ⟨z + 1, by omega, by omega, by go_num⟩
            case measure => simp [intOf]; omega
        · have g1 : Hid (has (-1 - (S : Int)) (k : Int) = false) := Lib.hid (by unfold has; rw [decide_eq_false (by omega)]; rfl)
          have g2 : Hid (has (S : Int) (-1 - (k : Int)) = false) := Lib.hid (by unfold has; rw [decide_eq_false (p := 0 ≤ -1 - (k : Int)) (by omega)]; simp)
          have g3 : Hid (has (S : Int) 63 = false) := Lib.hid (has_far _ 63 (by omega))
          have i1 : Hid (I64 (-1 - (S : Int))) := Lib.hid ⟨by omega, by omega⟩
          go_wp2_with fail
          (with_reducible refine (has_is _ _ false _ i1.out g1.out).mono ?_); rintro e w' ⟨rfl, rfl⟩
          go_wp2_with fail
          (with_reducible refine (has_is _ _ false _ iS.out g2.out).mono ?_); rintro e w' ⟨rfl, rfl⟩
          go_wp2_with fail
          (with_reducible refine (has_is _ _ false _ iS.out g3.out).mono ?_); rintro e w' ⟨rfl, rfl⟩
          go_wp2
          go_ret
          exact ⟨rfl, by repeat (first | exact Grown.refl _ | apply Grown.drew | apply Grown.alloc)⟩

theorem i64_sets {n : Int} (h : (Lit.int .i64 n).wf = true) : I64 n := by
  simpa [I64, Lit.wf, IntKind.min, IntKind.max, IntKind.signed, IntKind.bits] using h

theorem numSets (a0 : Int) (a1 : Int) (w0 : (Lit.int .i64 a0).wf = true) (w1 : (Lit.int .i64 a1).wf = true) (w : World) :
    Calls Try.prog 5 #[.int .i64 a0, .int .i64 a1] w fun e w' => e = .returned (.bool true) ∧ Grown w w' := by
  obtain ⟨S, hS⟩ := Int.eq_ofNat_of_zero_le (Int.emod_nonneg a0 (show (1048576 : Int) ≠ 0 by decide))
  obtain ⟨k, hk⟩ := Int.eq_ofNat_of_zero_le (Int.emod_nonneg a1 (show (32 : Int) ≠ 0 by decide))
  have l1 := Int.emod_lt_of_pos a0 (show (0 : Int) < 1048576 by decide)
  have l2 := Int.emod_lt_of_pos a1 (show (0 : Int) < 32 by decide)
  have hS' : S < 1048576 := by omega
  have hk' : k < 32 := by omega
  have e2 := or_one S k hS' hk'
  rw [show (1 * 2 ^ (k : Int).toNat : Int) = 2 ^ k by simp] at e2
  have hp : 2 ^ k ≤ 2 ^ 31 := Nat.pow_le_pow_right (by decide) (by omega)
  have hM : (S ||| 2 ^ k) < 2 ^ 63 := Nat.or_lt_two_pow (by omega) (by omega)
  exact sets_core a0 a1 S k _ w hS' hk' (by omega) ((and_20 a0).trans hS) ((and_5 a1).trans hk) e2 (Lib.hid fun i hi => has_more S k i hi hk')
end Go.Proofs.Ytofhhdnllloliaa.walks
