/-
  THE WALK OF 'PackBack': what was put is taken; one byte fewer does just if the first byte is 0.
-/
import Derived.Test.YteeclciaifkneaaPackShown
import Derived.Deep.QuietTactic
import Derived.BigQuiet
namespace Go.Proofs.Yteeclciaifkneaa.walks
open Go.ChangeShapes Go.WideShapes Go.ChangeAt Go.RowKit Go.Proofs.Yteeclciaifkneaa.octets Go.Proofs.Yteeclciaifkneaa.pack
set_option linter.unusedVariables false

theorem u8_comes {n : Int} (h : (Lit.int .u8 n).wf = true) : 0 ≤ n ∧ n ≤ 255 := by
  simpa [Lit.wf, IntKind.min, IntKind.max, IntKind.signed, IntKind.bits] using h
theorem u64_comes {n : Int} (h : (Lit.int .u64 n).wf = true) : 0 ≤ n ∧ n ≤ 18446744073709551615 := by
  simpa [Lit.wf, IntKind.min, IntKind.max, IntKind.signed, IntKind.bits] using h
theorem below_drewN {B : Nat} {a w : World} (h : Below B a w) (n : Nat) : Below B a (w.drewN n) := ⟨h.os, h.tape, h.output, h.size, h.block⟩

set_option maxRecDepth 100000 in
set_option maxHeartbeats 1000000 in
theorem back_core (a0 a1 : Int) (n m k : Nat) (w : World) (e0 : a0 = n) (hn : n ≤ 18446744073709551615) (b1 : 0 ≤ a1) (b2 : a1 ≤ 255) (eK : a1 % 9 = (k : Int)) (hm : Hid (m < 256 ^ k)) (hm8 : m ≤ 18446744073709551615)
    (way : (k < 8 ∧ bits BinOp.and IntKind.u64 (n : Int) (IntKind.u64.wrap (IntKind.u64.wrap (2 ^ (8 * k)) - 1)) = (m : Int)) ∨ (k = 8 ∧ m = n)) :
    Calls Try.prog 3 #[.int .u64 a0, .int .u8 a1] w fun e w' => e = .returned (.bool true) ∧ Below w.heap.size w w' := by
  have hk8 : k ≤ 8 := by omega
  have E0 := Lib.hid e0
  clear e0
  rcases way with ⟨hk, eM⟩ | ⟨hk, eM⟩
  rotate_left
  · obtain rfl := eM
    have t8 : decide ((k : Int) < 8) = false := decide_eq_false (by omega)
    have eM : True := trivial
    clear hk
    obtain rfl := E0.out
    go_enter Try.func3, Try.ntmps3
    try dsimp only [List.append]
    go_wp2_with fail
    (with_reducible refine (shown_any _).mono ?_)
    rintro e w1 ⟨rfl, hw1⟩
    go_wp2_with fail
    (with_reducible refine (put_at _ _ m k _ rfl rfl hk8 hm.out).mono ?_)
    rintro e w2 ⟨b, rfl, hb, hr, hw2⟩
    rw [octs_len]
    clear eM
    go_wp2_with fail
    (with_reducible refine (take_at b k _ _ (octs_len _ _) hk8 hr m (num_back hm.out)).mono ?_)
    rintro e w' ⟨rfl, rfl⟩
    have hw12 := hw1.trans (hw2.mono hw1.size)
    by_cases hk0 : k = 0
    · have t0 : ((k : Int) == 0) = true := by rw [beq_iff_eq]; omega
      clear hk0
      go_wp2
      go_ret
      exact ⟨rfl, hw12⟩
    · have t0 : ((k : Int) == 0) = false := by rw [beq_eq_false_iff_ne]; omega
      obtain ⟨j, rfl⟩ : ∃ j, k = j + 1 := ⟨k - 1, by omega⟩
      have hhead := octs_head j m hm.out
      obtain ⟨c, hc⟩ : ∃ c : Nat, ((octs (j + 1) m).getD 0 0).toNat = c := ⟨_, rfl⟩
      have hcell := hr.cell (i := 0) (by rw [octs_len]; omega)
      rw [hc] at hcell hhead
      clear hk0 hc
      by_cases hlt : m < 256 ^ j
      · have c0 : c = 0 := by rw [hhead]; exact Nat.div_eq_of_lt hlt
        subst c0
        clear hhead
        go_wp2_with fail
        (with_reducible refine (put_at _ _ m j _ ?_ ?_ ?_ hlt).mono ?_)
        · rfl
        · omega
        · omega
        rintro e w3 ⟨b3, rfl, hb3, hr3, hw3⟩
        rw [octs_len]
        have hr' := hr.since hw3
        have hcell3 : w3.cell? ⟨b, 0, none⟩ = some (.int .u8 ((0 : Nat) : Int)) := by rw [← hcell]; exact hw3.cell hr.lt
        obtain ⟨A, hcut, htail⟩ := cut_one b (j + 1) (by omega)
        have ht := fun q => htail (w3.drewN q) _ (hr'.drewN q) (octs_len _ _)
        have hs := fun q => (hr3.drewN q).str j (octs_len _ _) _ rfl
        have e1 : (octs (j + 1) m).tail = octs j m := by rw [octs_cons j m hlt]; rfl
        rw [e1] at ht
        rw [Nat.add_sub_cancel] at ht hcut
        generalize hS : (⟨(octs j m).toArray⟩ : ByteArray) = sv at ht hs
        have hw13 := hw12.trans (hw3.mono hw12.size)
        clear e1 hS htail hcell hr hr3 hr'
        go_wp2_with fail
        go_quiet (fail)
        go_wp2
        go_ret
        exact ⟨rfl, below_drewN hw13 _⟩
      · have c1 : 1 ≤ c := by rw [hhead]; exact (Nat.le_div_iff_mul_le (Nat.pow_pos (by decide))).2 (by omega)
        have c0 : ((c : Int) != 0) = true := by rw [bne_iff_ne]; omega
        clear hhead
        have hle : 256 ^ j ≤ m := by omega
        go_wp2_with fail
        (with_reducible refine (put_no_at _ _ m j _ ?_ ?_ hm8 ?_ hle).mono ?_)
        · rfl
        · omega
        · omega
        rintro e w' ⟨rfl, rfl⟩
        go_wp2
        go_ret
        exact ⟨rfl, hw12⟩
  · have t8 : decide ((k : Int) < 8) = true := decide_eq_true (by omega)
    clear hk
    obtain rfl := E0.out
    go_enter Try.func3, Try.ntmps3
    try dsimp only [List.append]
    go_wp2_with fail
    (with_reducible refine (shown_any _).mono ?_)
    rintro e w1 ⟨rfl, hw1⟩
    go_wp2_with fail
    (with_reducible refine (put_at _ _ m k _ rfl rfl hk8 hm.out).mono ?_)
    rintro e w2 ⟨b, rfl, hb, hr, hw2⟩
    rw [octs_len]
    clear eM
    go_wp2_with fail
    (with_reducible refine (take_at b k _ _ (octs_len _ _) hk8 hr m (num_back hm.out)).mono ?_)
    rintro e w' ⟨rfl, rfl⟩
    have hw12 := hw1.trans (hw2.mono hw1.size)
    by_cases hk0 : k = 0
    · have t0 : ((k : Int) == 0) = true := by rw [beq_iff_eq]; omega
      clear hk0
      go_wp2
      go_ret
      exact ⟨rfl, hw12⟩
    · have t0 : ((k : Int) == 0) = false := by rw [beq_eq_false_iff_ne]; omega
      obtain ⟨j, rfl⟩ : ∃ j, k = j + 1 := ⟨k - 1, by omega⟩
      have hhead := octs_head j m hm.out
      obtain ⟨c, hc⟩ : ∃ c : Nat, ((octs (j + 1) m).getD 0 0).toNat = c := ⟨_, rfl⟩
      have hcell := hr.cell (i := 0) (by rw [octs_len]; omega)
      rw [hc] at hcell hhead
      clear hk0 hc
      by_cases hlt : m < 256 ^ j
      · have c0 : c = 0 := by rw [hhead]; exact Nat.div_eq_of_lt hlt
        subst c0
        clear hhead
        go_wp2_with fail
        (with_reducible refine (put_at _ _ m j _ ?_ ?_ ?_ hlt).mono ?_)
        · rfl
        · omega
        · omega
        rintro e w3 ⟨b3, rfl, hb3, hr3, hw3⟩
        rw [octs_len]
        have hr' := hr.since hw3
        have hcell3 : w3.cell? ⟨b, 0, none⟩ = some (.int .u8 ((0 : Nat) : Int)) := by rw [← hcell]; exact hw3.cell hr.lt
        obtain ⟨A, hcut, htail⟩ := cut_one b (j + 1) (by omega)
        have ht := fun q => htail (w3.drewN q) _ (hr'.drewN q) (octs_len _ _)
        have hs := fun q => (hr3.drewN q).str j (octs_len _ _) _ rfl
        have e1 : (octs (j + 1) m).tail = octs j m := by rw [octs_cons j m hlt]; rfl
        rw [e1] at ht
        rw [Nat.add_sub_cancel] at ht hcut
        generalize hS : (⟨(octs j m).toArray⟩ : ByteArray) = sv at ht hs
        have hw13 := hw12.trans (hw3.mono hw12.size)
        clear e1 hS htail hcell hr hr3 hr'
        go_wp2_with fail
        go_quiet (fail)
        go_wp2
        go_ret
        exact ⟨rfl, below_drewN hw13 _⟩
      · have c1 : 1 ≤ c := by rw [hhead]; exact (Nat.le_div_iff_mul_le (Nat.pow_pos (by decide))).2 (by omega)
        have c0 : ((c : Int) != 0) = true := by rw [bne_iff_ne]; omega
        clear hhead
        have hle : 256 ^ j ≤ m := by omega
        go_wp2_with fail
        (with_reducible refine (put_no_at _ _ m j _ ?_ ?_ hm8 ?_ hle).mono ?_)
        · rfl
        · omega
        · omega
        rintro e w' ⟨rfl, rfl⟩
        go_wp2
        go_ret
        exact ⟨rfl, hw12⟩

theorem packBack (a0 : Int) (a1 : Int) (w : World) (w0 : (Lit.int .u64 a0).wf = true) (w1 : (Lit.int .u8 a1).wf = true) :
    Calls Try.prog 3 #[.int .u64 a0, .int .u8 a1] w fun e w' => e = .returned (.bool true) ∧ Below w.heap.size w w' := by
  have hb0 := u64_comes w0
  obtain ⟨b1, b2⟩ := u8_comes w1
  obtain ⟨n, rfl⟩ := Int.eq_ofNat_of_zero_le hb0.1
  obtain ⟨k, hk⟩ := Int.eq_ofNat_of_zero_le (Int.emod_nonneg a1 (show (9 : Int) ≠ 0 by decide))
  have hk9 := Int.emod_lt_of_pos a1 (show (0 : Int) < 9 by decide)
  by_cases h8 : k < 8
  · have hp : 0 < 256 ^ k := Nat.pow_pos (by decide)
    exact back_core n a1 n (n % 256 ^ k) k w rfl (by omega) b1 b2 hk (Lib.hid (Nat.mod_lt _ hp)) (Nat.le_trans (Nat.mod_le _ _) (by omega)) (.inl ⟨h8, and_low n k (by omega) h8⟩)
  · obtain rfl : k = 8 := by omega
    have h88 : (256 : Nat) ^ 8 = 18446744073709551616 := by decide
    exact back_core n a1 n n 8 w rfl (by omega) b1 b2 hk (Lib.hid (by omega)) (by omega) (.inr ⟨rfl, rfl⟩)
end Go.Proofs.Yteeclciaifkneaa.walks
