/-
  CONTRACTS OF PACKAGE num: what each of its functions answers, whatever it is handed; the world stays.
-/
import Derived.Test.YtofhhdnllloliaaRows
import Derived.WalkKit
import Derived.ProofKit
import Derived.OpenShut
import Derived.Lib.Hide
import Derived.Laws.Bits64b
import Derived.WalkLawsBesides
namespace Go.Proofs.Ytofhhdnllloliaa.num
open Go.RowKit

/-- within Go's int -/
def I64 (n : Int) : Prop := -9223372036854775808 ≤ n ∧ n ≤ 9223372036854775807

def sat (n m : Int) : Int := if n < m then n + 1 else m
def clamp (n l h : Int) : Int := if n < l then l else if h < n then h else n

theorem sat_any (n m : Int) (w : World) (hn : I64 n) (hm : I64 m) :
    Calls Try.prog 10 #[.int .i64 n, .int .i64 m] w fun e w' => e = .returned (.int .i64 (sat n m)) ∧ w = w' := by
  obtain ⟨hn1, hn2⟩ := hn
  obtain ⟨hm1, hm2⟩ := hm
  by_cases h : n < m
  · have hs : sat n m = n + 1 := by unfold sat; rw [if_pos h]
    rw [hs]; clear hs
    go_enter Try.func10, Try.ntmps10
    go_wp2
    go_ret
    exact ⟨rfl, rfl⟩
  · have hs : sat n m = m := by unfold sat; rw [if_neg h]
    rw [hs]; clear hs
    go_enter Try.func10, Try.ntmps10
    go_wp2
    go_ret
    exact ⟨rfl, rfl⟩

theorem clamp_any (n l h : Int) (w : World) :
    Calls Try.prog 9 #[.int .i64 n, .int .i64 l, .int .i64 h] w fun e w' => e = .returned (.int .i64 (clamp n l h)) ∧ w = w' := by
  by_cases h1 : n < l
  · have hs : clamp n l h = l := by unfold clamp; rw [if_pos h1]
    rw [hs]; clear hs
    go_enter Try.func9, Try.ntmps9
    go_wp2
    go_ret
    exact ⟨rfl, rfl⟩
  · by_cases h2 : h < n
    · have hs : clamp n l h = h := by unfold clamp; rw [if_neg h1, if_pos h2]
      rw [hs]; clear hs
      go_enter Try.func9, Try.ntmps9
      go_wp2
      go_ret
      exact ⟨rfl, rfl⟩
    · have hs : clamp n l h = n := by unfold clamp; rw [if_neg h1, if_neg h2]
      rw [hs]; clear hs
      go_enter Try.func9, Try.ntmps9
      go_wp2
      go_ret
      exact ⟨rfl, rfl⟩

/-- how far two numbers stand apart -/
def dist (a b : Int) : Int := if a < b then b - a else a - b

theorem u64_sub (a b : Int) (h : 0 ≤ a - b ∧ a - b ≤ 18446744073709551615) : IntKind.u64.wrap (IntKind.u64.wrap a - IntKind.u64.wrap b) = a - b := by
  simp only [IntKind.wrap, IntKind.signed, IntKind.bits]
  simp
  omega

theorem u64_ret (a b : Int) (h : a = b) : Ending.returned (.int .u64 a) = .returned (.int .u64 b) := by rw [h]

theorem apart_any (a b : Int) (w : World) (ha : I64 a) (hb : I64 b) :
    Calls Try.prog 12 #[.int .i64 a, .int .i64 b] w fun e w' => e = .returned (.int .u64 (dist a b)) ∧ w = w' := by
  obtain ⟨ha1, ha2⟩ := ha
  obtain ⟨hb1, hb2⟩ := hb
  by_cases h : a < b
  · have hs : dist a b = b - a := by unfold dist; rw [if_pos h]
    rw [hs]; clear hs
    go_enter Try.func12, Try.ntmps12
    go_wp2
    go_ret
    exact ⟨u64_ret _ _ (u64_sub b a (by omega)), rfl⟩
  · have hs : dist a b = a - b := by unfold dist; rw [if_neg h]
    rw [hs]; clear hs
    go_enter Try.func12, Try.ntmps12
    go_wp2
    go_ret
    exact ⟨u64_ret _ _ (u64_sub a b (by omega)), rfl⟩

def toward (n t b : Int) : Int := if b < 1 then n else if dist n t ≤ b then t else if n < t then n + b else n - b

theorem dist_bd (a b : Int) : 0 ≤ dist a b := by unfold dist; split <;> omega

theorem toward_any (n t b : Int) (w : World) (hn : I64 n) (ht : I64 t) (hb : I64 b) :
    Calls Try.prog 8 #[.int .i64 n, .int .i64 t, .int .i64 b] w fun e w' => e = .returned (.int .i64 (toward n t b)) ∧ w = w' := by
  have hd0 := dist_bd n t
  have hn' := hn
  have ht' := ht
  obtain ⟨hn1, hn2⟩ := hn
  obtain ⟨ht1, ht2⟩ := ht
  obtain ⟨hb1, hb2⟩ := hb
  by_cases h : b < 1
  · have hs : toward n t b = n := by unfold toward; rw [if_pos h]
    rw [hs]; clear hs
    go_enter Try.func8, Try.ntmps8
    go_wp2
    go_ret
    exact ⟨rfl, rfl⟩
  · have hdu : dist n t ≤ 18446744073709551615 := by unfold dist; split <;> omega
    by_cases hd : dist n t ≤ b
    · have hs : toward n t b = t := by unfold toward; rw [if_neg h, if_pos hd]
      rw [hs]; clear hs
      go_enter Try.func8, Try.ntmps8
      go_wp2_with (go_at_call 12; refine (apart_any _ _ _ hn' ht').mono ?_; rintro e w' ⟨rfl, rfl⟩)
      go_ret
      exact ⟨rfl, rfl⟩
    · by_cases hl : n < t
      · have hs : toward n t b = n + b := by unfold toward; rw [if_neg h, if_neg hd, if_pos hl]
        have hdd : dist n t = t - n := by unfold dist; rw [if_pos hl]
        have hlt : n + b < t := by omega
        rw [hs]; clear hs hdd
        go_enter Try.func8, Try.ntmps8
        go_wp2_with (go_at_call 12; refine (apart_any _ _ _ hn' ht').mono ?_; rintro e w' ⟨rfl, rfl⟩)
        go_ret
        exact ⟨rfl, rfl⟩
      · have hs : toward n t b = n - b := by unfold toward; rw [if_neg h, if_neg hd, if_neg hl]
        have hdd : dist n t = n - t := by unfold dist; rw [if_neg hl]
        have hlt : t < n - b := by omega
        rw [hs]; clear hs hdd
        go_enter Try.func8, Try.ntmps8
        go_wp2_with (go_at_call 12; refine (apart_any _ _ _ hn' ht').mono ?_; rintro e w' ⟨rfl, rfl⟩)
        go_ret
        exact ⟨rfl, rfl⟩

/-- bit i of a number from 0 on -/
def has (s i : Int) : Bool := decide (0 ≤ s) && decide (0 ≤ i) && decide (i ≤ 62) && (s.toNat.testBit i.toNat)

theorem has_no (s i : Int) (w : World) (h : s < 0 ∨ i < 0 ∨ 62 < i) :
    Calls Try.prog 11 #[.int .i64 s, .int .i64 i] w fun e w' => e = .returned (.bool (has s i)) ∧ w = w' := by
  have hs : has s i = false := by
    unfold has
    rcases h with h | h | h
    · rw [decide_eq_false (by omega)]; rfl
    · rw [decide_eq_false (p := 0 ≤ i) (by omega)]; simp
    · rw [decide_eq_false (p := i ≤ 62) (by omega)]; simp
  rw [hs]; clear hs
  by_cases h0 : s < 0
  · go_enter Try.func11, Try.ntmps11
    go_wp2
    go_ret
    exact ⟨rfl, rfl⟩
  · by_cases h1 : i < 0
    · go_enter Try.func11, Try.ntmps11
      go_wp2
      go_ret
      exact ⟨rfl, rfl⟩
    · have h2 : 62 < i := by omega
      clear h
      go_enter Try.func11, Try.ntmps11
      go_wp2
      go_ret
      exact ⟨rfl, rfl⟩

theorem and_one (x : Int) (h0 : 0 ≤ x) (h1 : x ≤ 9223372036854775807) : bits BinOp.and IntKind.i64 x 1 = x % 2 :=
  bits_mask .i64 63 (by decide) (fun n h h' => by rw [IntKind.wrap_i64]; omega) 1 (by decide) x h0 (by omega)

theorem has_eq (s i : Int) (h0 : 0 ≤ s) (h1 : 0 ≤ i) (h2 : i ≤ 62) (hs : s ≤ 9223372036854775807) :
    (bits BinOp.and IntKind.i64 (s / 2 ^ i.toNat) 1 == 1) = has s i := by
  obtain ⟨S, rfl⟩ := Int.eq_ofNat_of_zero_le h0
  obtain ⟨I, rfl⟩ := Int.eq_ofNat_of_zero_le h1
  have hd : ((S : Int) / 2 ^ (I : Int).toNat) = ((S / 2 ^ I : Nat) : Int) := by simp
  have hle : S / 2 ^ I ≤ S := Nat.div_le_self _ _
  rw [hd]
  generalize hT : S / 2 ^ I = T at hle ⊢
  rw [and_one _ (by omega) (by omega)]
  unfold has
  rw [decide_eq_true h0, decide_eq_true h1, decide_eq_true h2, Int.toNat_natCast, Int.toNat_natCast, Nat.testBit_eq_decide_div_mod_eq, hT]
  rw [Bool.eq_iff_iff]
  simp
  omega

theorem bool_ret (a b : Bool) (h : a = b) : Ending.returned (.bool a) = .returned (.bool b) := by rw [h]

theorem has_yes (s i : Int) (w : World) (h0 : 0 ≤ s) (h1 : 0 ≤ i) (h2 : i ≤ 62) (hs : s ≤ 9223372036854775807) :
    Calls Try.prog 11 #[.int .i64 s, .int .i64 i] w fun e w' => e = .returned (.bool (has s i)) ∧ w = w' := by
  have H := Lib.hid (has_eq s i h0 h1 h2 hs)
  go_enter Try.func11, Try.ntmps11
  go_wp2
  go_ret
  exact ⟨bool_ret _ _ H.out, rfl⟩

theorem has_any (s i : Int) (w : World) (hs : I64 s) :
    Calls Try.prog 11 #[.int .i64 s, .int .i64 i] w fun e w' => e = .returned (.bool (has s i)) ∧ w = w' := by
  by_cases h : s < 0 ∨ i < 0 ∨ 62 < i
  · exact has_no s i w h
  · exact has_yes s i w (by omega) (by omega) (by omega) hs.2

/-- the same, its answer told ahead -/
theorem has_is (s i : Int) (b : Bool) (w : World) (hs : I64 s) (h : has s i = b) :
    Calls Try.prog 11 #[.int .i64 s, .int .i64 i] w fun e w' => e = .returned (.bool b) ∧ w = w' := by
  rw [← h]; exact has_any s i w hs
theorem sat_is (n m x : Int) (w : World) (hn : I64 n) (hm : I64 m) (h : sat n m = x) :
    Calls Try.prog 10 #[.int .i64 n, .int .i64 m] w fun e w' => e = .returned (.int .i64 x) ∧ w = w' := by
  rw [← h]; exact sat_any n m w hn hm
theorem clamp_is (n l h x : Int) (w : World) (hx : clamp n l h = x) :
    Calls Try.prog 9 #[.int .i64 n, .int .i64 l, .int .i64 h] w fun e w' => e = .returned (.int .i64 x) ∧ w = w' := by
  rw [← hx]; exact clamp_any n l h w
theorem toward_is (n t b x : Int) (w : World) (hn : I64 n) (ht : I64 t) (hb : I64 b) (h : toward n t b = x) :
    Calls Try.prog 8 #[.int .i64 n, .int .i64 t, .int .i64 b] w fun e w' => e = .returned (.int .i64 x) ∧ w = w' := by
  rw [← h]; exact toward_any n t b w hn ht hb

theorem shown_any (w : World) :
    Calls Try.prog 7 #[] w fun e w' => e = .returned (.bool true) ∧ w = w' := by
  go_enter Try.func7, Try.ntmps7
  go_wp2
  go_ret
  exact ⟨rfl, rfl⟩
end Go.Proofs.Ytofhhdnllloliaa.num
