/-
  THE WALK OF 'NumComes': each step is nearer, none is beyond; so it comes there.
-/
import Derived.Test.YtofhhdnllloliaaNum
namespace Go.Proofs.Ytofhhdnllloliaa.walks
open Go.ChangeShapes Go.WideShapes Go.ChangeAt Go.RowKit Go.Proofs.Ytofhhdnllloliaa.num
set_option linter.unusedVariables false

theorem i64_comes {n : Int} (h : (Lit.int .i64 n).wf = true) : I64 n := by
  simpa [I64, Lit.wf, IntKind.min, IntKind.max, IntKind.signed, IntKind.bits] using h
theorem u8_comes {n : Int} (h : (Lit.int .u8 n).wf = true) : 0 ≤ n ∧ n ≤ 255 := by
  simpa [Lit.wf, IntKind.min, IntKind.max, IntKind.signed, IntKind.bits] using h

/-- a step upward -/
theorem up {n t k m : Int} (h : n < t) (hk : 1 ≤ k) (hm : toward n t k = m) : n < m ∧ m ≤ t ∧ m - n ≤ k := by
  unfold toward dist at hm
  rw [if_neg (by omega), if_pos h, if_pos h] at hm
  split at hm <;> omega
theorem down {n t k m : Int} (h : t < n) (hk : 1 ≤ k) (hm : toward n t k = m) : m < n ∧ t ≤ m ∧ n - m ≤ k := by
  have e : dist n t = n - t := by unfold dist; rw [if_neg (by omega)]
  unfold toward at hm
  rw [if_neg (by omega), e] at hm
  by_cases h2 : n - t ≤ k
  · rw [if_pos h2] at hm; omega
  · rw [if_neg h2, if_neg (by omega)] at hm; omega
theorem there (n k : Int) : toward n n k = n := by
  have e : dist n n = 0 := by unfold dist; rw [if_neg (by omega)]; omega
  unfold toward
  by_cases h : k < 1
  · rw [if_pos h]
  · rw [if_neg h, e, if_pos (by omega)]
theorem stays (n t k : Int) (h : k < 1) : toward n t k = n := by unfold toward; rw [if_pos h]

set_option maxRecDepth 100000 in
set_option maxHeartbeats 2000000 in
theorem comes_core (a0 a1 a2 N T K : Int) (w : World) (i0 : Hid (I64 a0)) (i1 : Hid (I64 a1)) (b1 : 0 ≤ a2) (b2 : a2 ≤ 255)
    (eN : a0.tmod 1000 = N) (eT : a1.tmod 1000 = T) (eK : 1 + a2 % 64 = K)
    (n1 : -999 ≤ N) (n2 : N ≤ 999) (t1 : -999 ≤ T) (t2 : T ≤ 999) (k1 : 1 ≤ K) (k2 : K ≤ 64) :
    Calls Try.prog 3 #[.int .i64 a0, .int .i64 a1, .int .u8 a2] w fun e w' => e = .returned (.bool true) ∧ Grown w w' := by
  have iT : Hid (I64 T) := Lib.hid ⟨by omega, by omega⟩
  have iK : Hid (I64 K) := Lib.hid ⟨by omega, by omega⟩
  have iK' : Hid (I64 (-K)) := Lib.hid ⟨by omega, by omega⟩
  have i00 : Hid (I64 0) := Lib.hid ⟨by omega, by omega⟩
  go_enter Try.func3, Try.ntmps3
  try dsimp only [List.append]
  go_wp2_with fail
  refine (shown_any _).mono ?_; rintro e w' ⟨rfl, rfl⟩
  go_wp2_with fail
  clear eN eT eK
  go_loop [8, 11] (fun n j => ∃ (x : Int) (q : Nat), -999 ≤ x ∧ x ≤ 999 ∧ dist x T + q ≤ 1998 ∧ n = .int .i64 x ∧ j = .int .i64 q) (fun _ j => 2100 - (intOf j).toNat)
  case atStart => exact ⟨N, 0, n1, n2, by unfold dist; split <;> omega, rfl, rfl⟩
  case round =>
    obtain ⟨x, q, x1, x2, hq, rfl, rfl⟩ := hrel
    have iX : Hid (I64 x) := Lib.hid ⟨by omega, by omega⟩
    have hq0 : dist x T + (q : Int) ≤ 1998 := hq
    have hd0 := dist_bd x T
    have hq1 : (q : Int) ≤ 1998 := by omega
    by_cases hlt : x < T
    · obtain ⟨m, hm⟩ : ∃ m, toward x T K = m := ⟨_, rfl⟩
      obtain ⟨m1, m2, m3⟩ := up hlt k1 hm
      have m4 : x - m ≤ K := by omega
      have hdm : dist m T + ((q + 1 : Nat) : Int) ≤ 1998 := by
        have e1 : dist x T = T - x := by unfold dist; rw [if_pos hlt]
        have e2 : dist m T = T - m := by unfold dist; split <;> omega
        omega
      have Hd := Lib.hid hdm
      have Hm := Lib.hid hm
      have f1 : (x != T) = true := by rw [bne_iff_ne]; omega
      clear hdm hm hq hq0 hd0
      go_wp2_with fail
      (with_reducible refine (toward_is _ _ _ _ _ iX.out iT.out iK.out Hm.out).mono ?_); rintro e w' ⟨rfl, rfl⟩
      go_wp2
      go_round
      case rel => exact ⟨m, q + 1, by omega, by omega, Hd.out, rfl, by go_num⟩
      case measure => simp [intOf]; omega
    · by_cases hgt : T < x
      · obtain ⟨m, hm⟩ : ∃ m, toward x T K = m := ⟨_, rfl⟩
        obtain ⟨m1, m2, m3⟩ := down hgt k1 hm
        have m4 : m - x ≤ K := by omega
        have hdm : dist m T + ((q + 1 : Nat) : Int) ≤ 1998 := by
          have e1 : dist x T = x - T := by unfold dist; rw [if_neg hlt]
          have e2 : dist m T = m - T := by unfold dist; split <;> omega
          omega
        have Hd := Lib.hid hdm
        have Hm := Lib.hid hm
        have f1 : (x != T) = true := by rw [bne_iff_ne]; omega
        have f2 : decide (x < T) = false := decide_eq_false hlt
        clear hdm hm hq hq0 hd0 hlt
        go_wp2_with fail
        (with_reducible refine (toward_is _ _ _ _ _ iX.out iT.out iK.out Hm.out).mono ?_); rintro e w' ⟨rfl, rfl⟩
        go_wp2
        go_round
        case rel => exact ⟨m, q + 1, by omega, by omega, Hd.out, rfl, by go_num⟩
        case measure => simp [intOf]; omega
      · obtain rfl : x = T := by omega
        clear hq hq0 hd0 hlt hgt
        go_wp2_with fail
        (with_reducible refine (toward_is _ _ _ _ _ iT.out iT.out iK.out (there _ _)).mono ?_); rintro e w' ⟨rfl, rfl⟩
        go_wp2_with fail
        (with_reducible refine (toward_is _ _ _ _ _ iT.out iT.out i00.out (there _ _)).mono ?_); rintro e w' ⟨rfl, rfl⟩
        go_wp2_with fail
        (with_reducible refine (toward_is _ _ _ _ _ i0.out i1.out iK'.out (stays _ _ _ (by omega))).mono ?_); rintro e w' ⟨rfl, rfl⟩
        go_wp2
        go_ret
        exact ⟨rfl, by repeat (first | exact Grown.refl _ | apply Grown.drew | apply Grown.alloc)⟩

theorem tmod_bd (a : Int) : -999 ≤ a.tmod 1000 ∧ a.tmod 1000 ≤ 999 := by
  have h1 := Int.tmod_lt_of_pos a (show (0 : Int) < 1000 by decide)
  have h2 := Int.lt_tmod_of_pos a (show (0 : Int) < 1000 by decide)
  omega

theorem numComes (a0 : Int) (a1 : Int) (a2 : Int) (w0 : (Lit.int .i64 a0).wf = true) (w1 : (Lit.int .i64 a1).wf = true) (w2 : (Lit.int .u8 a2).wf = true) (w : World) :
    Calls Try.prog 3 #[.int .i64 a0, .int .i64 a1, .int .u8 a2] w fun e w' => e = .returned (.bool true) ∧ Grown w w' := by
  obtain ⟨b1, b2⟩ := u8_comes w2
  exact comes_core a0 a1 a2 _ _ _ w (Lib.hid (i64_comes w0)) (Lib.hid (i64_comes w1)) b1 b2 rfl rfl rfl (tmod_bd a0).1 (tmod_bd a0).2 (tmod_bd a1).1 (tmod_bd a1).2 (by omega) (by omega)
end Go.Proofs.Ytofhhdnllloliaa.walks
