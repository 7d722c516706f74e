/-
  CONTRACTS OF msg's reference: in, at, put; of pack's reference: Put, PutInt, TakeInt.
-/
import Derived.Test.YtmibgmcgicphoaaMsgVal
import Derived.BigQuiet
import Derived.Deep.QuietTactic
namespace Go.Proofs.Ytmibgmcgicphoaa.msg
open Go.RowKit Go.Proofs.Ytmibgmcgicphoaa.octets Go.Proofs.Ytmibgmcgicphoaa.pack
set_option linter.unusedVariables false
set_option linter.unusedSimpArgs false

theorem below_new (w : World) (o : Obj) : Below w.heap.size w (w.alloc o) := (Below.refl _ _).alloc (Nat.le_refl _) _
theorem in_ok (n low high : Int) (v : Bool) (w : World) (hv : inI n low high = v) : Calls Try.prog 32 #[.int .i64 n, .int .i64 low, .int .i64 high] w fun e w' => e = .returned (.bool v) ∧ w = w' := by
  subst hv
  by_cases h1 : low ≤ n
  · by_cases h2 : n ≤ high
    · have e : inI n low high = true := by rw [inI_iff]; exact ⟨h1, h2⟩
      rw [e]
      go_enter Try.func32, Try.ntmps32
      go_wp2
      go_ret
      exact ⟨rfl, rfl⟩
    · have e : inI n low high = false := by rw [Bool.eq_false_iff]; intro h; rw [inI_iff] at h; exact h2 h.2
      rw [e]
      go_enter Try.func32, Try.ntmps32
      go_wp2
      go_ret
      exact ⟨rfl, rfl⟩
  · have e : inI n low high = false := by rw [Bool.eq_false_iff]; intro h; rw [inI_iff] at h; exact h1 h.1
    rw [e]
    go_enter Try.func32, Try.ntmps32
    go_wp2
    go_ret
    exact ⟨rfl, rfl⟩

theorem at_ok (A : Option Addr) (n c i : Nat) (l : List UInt8) (x v : Int) (w : World) (hl : l.length = n) (hs : Seen w A l) (hx : x = i) (hv : atB l i = v) : Calls Try.prog 29 #[.slice A n c, .int .i64 x] w fun e w' => e = .returned (.int .i64 v) ∧ w = w' := by
  subst hx hv
  by_cases hi : i < n
  · obtain ⟨b, o, rfl, hb, hc⟩ := hs.at_ (k := i) (by omega)
    have hcell := hc i (by omega)
    have e : atB l i = ((l[i]'(by omega)).toNat : Int) := by simp [atB, List.getD_eq_getElem?_getD, List.getElem?_eq_getElem (show i < l.length by omega)]
    rw [e]
    have h8 := UInt8.toNat_lt (l[i]'(by omega))
    obtain ⟨y, hy⟩ : ∃ y, (l[i]'(by omega)).toNat = y := ⟨_, rfl⟩
    rw [hy] at hcell h8 ⊢
    clear hy e hc hs
    go_enter Try.func29, Try.ntmps29
    go_wp2
    go_ret
    exact ⟨rfl, rfl⟩
  · have e : atB l i = 0 := by simp [atB, List.getD_eq_getElem?_getD, List.getElem?_eq_none (show l.length ≤ i by omega)]
    rw [e]
    go_enter Try.func29, Try.ntmps29
    go_wp2
    go_ret
    exact ⟨rfl, rfl⟩

/-- the last j of k bytes are those of n, the others still noughts -/
def low (k n j : Nat) : List UInt8 := List.replicate (k - j) 0 ++ octs j n
theorem low_zero (k n : Nat) : low k n 0 = List.replicate k 0 := by simp [low, octs]
theorem low_all (k n : Nat) : low k n k = octs k n := by simp [low]
theorem low_len {k j : Nat} (n : Nat) (h : j ≤ k) : (low k n j).length = k := by simp [low, octs_len]; omega
theorem octs_top : ∀ (j n : Nat), octs (j + 1) n = UInt8.ofNat (n / 256 ^ j) :: octs j n
  | 0, n => by simp [octs]
  | j + 1, n => by
    have ih := octs_top j (n / 256)
    rw [octs, ih, octs, List.cons_append, Nat.div_div_eq_div_mul, Nat.pow_succ, Nat.mul_comm 256]
theorem low_step (k n j : Nat) (h : j < k) : (low k n j).set (k - 1 - j) (UInt8.ofNat (n / 256 ^ j)) = low k n (j + 1) := by
  rw [low, low, octs_top, show k - j = k - 1 - j + 1 by omega, show k - (j + 1) = k - 1 - j by omega, List.replicate_succ']
  rw [List.append_assoc, List.set_append_right _ _ (by simp)]
  simp

set_option maxRecDepth 100000 in
set_option maxHeartbeats 1000000 in
theorem rput2_ok (n k : Nat) (w : World) (hk : k ≤ 8) (hf : n < 256 ^ k) :
    Calls Try.prog 43 #[.int .u64 (n : Int), .int .i64 (k : Int)] w fun e w' => ∃ v, e = .returned (.tuple #[v, .int .i64 0]) ∧ Own w' w.heap.size v (octs k n) ∧ Below w.heap.size w w' := by
  have h8 : (256 : Nat) ^ k ≤ 256 ^ 8 := Nat.pow_le_pow_right (by decide) hk
  have h88 : (256 : Nat) ^ 8 = 18446744073709551616 := by decide
  have hmk := fun W => run_make_row' (P := Try.prog) 29 5 (.int .u8 0) 1 Try.underlying29 u8_info rfl .i64 .i64 k (by omega) (by omega) W
  have hn64 : n ≤ 18446744073709551615 := by omega
  have hz : n / 256 ^ k = 0 := Nat.div_eq_of_lt hf
  have hH0 := Held.made w k (by simp [maxLen]; omega)
  have hb0 := below_new w (.cells (madeCells #[.int .u8 0] k) 5)
  rw [← low_zero k n] at hH0
  have t1 : decide ((k : Int) < 0) = false := decide_eq_false (by omega)
  have t2 : decide ((8 : Int) < k) = false := decide_eq_false (by omega)
  replace hz := Lib.hid hz
  clear h8 h88 hf
  go_enter Try.func43, Try.ntmps43
  go_wp2
  go_loopw [0, 7] (fun a t W => Below w.heap.size w W ∧ ∃ r m : Nat, r ≤ k ∧ Hid (m = n / 256 ^ (k - r)) ∧ m ≤ 18446744073709551615 ∧ a = .int .u64 (m : Int) ∧ t = .int .i64 ((r : Int) - 1) ∧ Held W w.heap.size k (low k n (k - r))) (fun _ t _ => ((intOf t) + 1).toNat)
  case atStart => exact ⟨hb0, k, n, Nat.le_refl _, Lib.hid (by simp), hn64, rfl, rfl, by rw [Nat.sub_self]; exact hH0⟩
  case round =>
    clear hb0 hH0
    obtain ⟨hb, r, m, hr, hm, hm64, rfl, rfl, hH⟩ := hrel
    rcases r with _ | s
    · rw [show ((0 : Nat) : Int) - 1 = -1 from rfl]
      have hm0 := hm.out
      rw [Nat.sub_zero, hz.out] at hm0
      subst hm0
      rw [Nat.sub_zero, low_all] at hH
      simp only [show ((0 : Nat) : Int) = 0 from rfl]
      have hlen := octs_len k n
      have ho := hH.own (base := w.heap.size) (Nat.le_refl _)
      rw [hlen] at ho
      replace hlen := Lib.hid hlen
      go_wp2
      go_ret2
      exact ⟨_, rfl, ho, hb⟩
    · have e1 : ((s + 1 : Nat) : Int) - 1 = (s : Int) := by omega
      rw [e1]
      have hcell := hH.cell (i := s) (by rw [low_len _ (by omega)]; omega)
      have hfr := hH.frozen s
      have hset := hH.set s (UInt8.ofNat m)
      have hmm := hm.out
      have hlow : (low k n (k - (s + 1))).set s (UInt8.ofNat m) = low k n (k - s) := by
        have := low_step k n (k - (s + 1)) (by omega)
        rw [show k - 1 - (k - (s + 1)) = s by omega, ← hmm, show k - (s + 1) + 1 = k - s by omega] at this
        exact this
      rw [hlow] at hset
      have hu : ((UInt8.ofNat m).toNat : Int) = (m : Int) % 256 := ofNat_toNat m
      rw [hu] at hset
      have hnext : Hid (m / 256 = n / 256 ^ (k - s)) := Lib.hid (by rw [hmm, Nat.div_div_eq_div_mul, ← Nat.pow_succ, show (k - (s + 1)).succ = k - s by omega])
      have hsk : (s : Int) < k := by omega
      clear hmm hlow hu
      go_wp2
      go_roundw
      case rel => exact ⟨hb.setCell (Nat.le_refl _) _, s, m / 256, by omega, hnext, by omega, by go_num, by go_num, hset⟩
      case measure => simp [intOf]

theorem rput_ok (a s : Int) (n k : Nat) (w : World) (ea : a = n) (es : s = k) (hk : k ≤ 8) (hf : n < 256 ^ k) (hn : n ≤ 9223372036854775807) :
    Calls Try.prog 25 #[.int .i64 a, .int .i64 s] w fun e w' => ∃ v, e = .returned v ∧ Own w' w.heap.size v (octs k n) ∧ Below w.heap.size w w' := by
  subst ea es
  replace hf := Lib.hid hf
  go_enter Try.func25, Try.ntmps25
  go_wp2_with fail
  refine (rput2_ok n k _ hk hf.out).mono ?_
  rintro e w' ⟨v, rfl, ho, hb⟩
  go_wp2
  go_ret
  exact ⟨_, rfl, ho, hb⟩
theorem rputInt_ok (n : Int) (s : Nat) (w : World) (h1 : -32768 ≤ n) (h2 : n ≤ 32767) (hs : sign n = s) :
    Calls Try.prog 26 #[.int .i64 n] w fun e w' => ∃ v, e = .returned (.tuple #[v, .int .i64 0]) ∧ Own w' w.heap.size v (octs 2 s) ∧ Below w.heap.size w w' := by
  have hl := sign_lt n
  rw [hs] at hl
  have t1 : decide (n < -32768) = false := decide_eq_false (by omega)
  have t2 : decide ((32767 : Int) < n) = false := decide_eq_false (by omega)
  by_cases h : n < 0
  · have e : n + 65536 = (s : Int) := by rw [← hs]; unfold sign; omega
    clear hs
    go_enter Try.func26, Try.ntmps26
    go_wp2_with fail
    refine (rput2_ok s 2 _ (by decide) (by omega)).mono ?_
    rintro e w' ⟨v, rfl, ho, hb⟩
    go_wp2
    go_ret2
    exact ⟨_, rfl, ho, hb⟩
  · have e : n = (s : Int) := by rw [← hs]; unfold sign; omega
    clear hs
    subst e
    go_enter Try.func26, Try.ntmps26
    go_wp2_with fail
    refine (rput2_ok s 2 _ (by decide) (by omega)).mono ?_
    rintro e w' ⟨v, rfl, ho, hb⟩
    go_wp2
    go_ret2
    exact ⟨_, rfl, ho, hb⟩
theorem rtakeInt_ok (b c : Nat) (x y : UInt8) (w : World) (hH : Held w b c [x, y]) :
    Calls Try.prog 30 #[.slice (some ⟨b, 0, none⟩) 2 2] w fun e w' => e = .returned (.tuple #[.int .i64 (signed (256 * x.toNat + y.toNat)), .int .i64 0]) ∧ Below w.heap.size w w' := by
  have hx := UInt8.toNat_lt x
  have hy := UInt8.toNat_lt y
  have c0 : ∀ q, (w.drewN q).cell? ⟨b, 0, none⟩ = some (.int .u8 (x.toNat : Int)) := fun q => hH.cell (i := 0) (by simp)
  have c1 : ∀ q, (w.drewN q).cell? ⟨b, 1, none⟩ = some (.int .u8 (y.toNat : Int)) := fun q => hH.cell (i := 1) (by simp)
  have hbq : ∀ q, Below w.heap.size w (w.drewN q) := fun q => below_drawn (Below.refl _ _) q
  generalize x.toNat = p at hx c0 ⊢
  generalize y.toNat = q at hy c1 ⊢
  clear hH
  by_cases h : 32767 < 256 * p + q
  · have e : signed (256 * p + q) = 256 * (p : Int) + q - 65536 := by unfold signed; rw [if_pos h]; omega
    rw [e]
    clear e
    go_enter Try.func30, Try.ntmps30
    go_wp2_with fail
    go_quiet (fail)
    go_wp2
    go_ret2
    exact ⟨rfl, hbq _⟩
  · have e : signed (256 * p + q) = 256 * (p : Int) + q := by unfold signed; rw [if_neg h]; omega
    rw [e]
    clear e
    go_enter Try.func30, Try.ntmps30
    go_wp2_with fail
    go_quiet (fail)
    go_wp2
    go_ret2
    exact ⟨rfl, hbq _⟩
end Go.Proofs.Ytmibgmcgicphoaa.msg
