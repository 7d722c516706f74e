/-
  THE WALK OF 'CrcPairs': the sum of bytes of which two that stand side by side are changed about is another one, if these are unlike.
-/
import Derived.Test.YtlepghjfbcbcpaaCrcApartWalk
namespace Go.Proofs.Ytlepghjfbcbcpaa.walks
open Go.ChangeShapes Go.WideShapes Go.ChangeAt Go.RowKit Go.Proofs.Ytlepghjfbcbcpaa.octets Go.Proofs.Ytlepghjfbcbcpaa.crc Go.Proofs.Ytlepghjfbcbcpaa.given
set_option linter.unusedVariables false

theorem first_bit (x y : Nat) : ∀ n, (∀ j, j < n → x.testBit (7 - j) = y.testBit (7 - j)) ∨ ∃ j, j < n ∧ x.testBit (7 - j) = !y.testBit (7 - j) ∧ ∀ i, i < j → x.testBit (7 - i) = y.testBit (7 - i)
  | 0 => .inl fun _ h => absurd h (Nat.not_lt_zero _)
  | n + 1 => by
    rcases first_bit x y n with h | ⟨j, hj, h⟩
    · by_cases e : x.testBit (7 - n) = y.testBit (7 - n)
      · left
        intro j hj
        rcases Nat.lt_succ_iff_lt_or_eq.1 hj with h' | rfl
        · exact h j h'
        · exact e
      · right
        refine ⟨n, by omega, ?_, h⟩
        cases h1 : x.testBit (7 - n) <;> cases h2 : y.testBit (7 - n) <;> simp_all
    · exact .inr ⟨j, by omega, h⟩
theorem same_bits {x y : Nat} (hx : x < 256) (hy : y < 256) (h : ∀ j, j < 8 → x.testBit (7 - j) = y.testBit (7 - j)) : x = y := by
  apply Nat.eq_of_testBit_eq
  intro i
  by_cases hi : i < 8
  · have := h (7 - i) (by omega)
    rwa [show 7 - (7 - i) = i by omega] at this
  · have hp : 2 ^ 8 ≤ 2 ^ i := Nat.pow_le_pow_right (by decide) (by omega)
    rw [Nat.testBit_lt_two_pow (by omega), Nat.testBit_lt_two_pow (by omega)]
/-- two that stand side by side, changed about -/
def swapped (l : List UInt8) (k : Nat) : List UInt8 := (l.set k (l.getD (k + 1) 0)).set (k + 1) (l.getD k 0)
theorem swapped_len (l : List UInt8) (k : Nat) : (swapped l k).length = l.length := by simp [swapped]
theorem swapped_get (l : List UInt8) (k i : Nat) (h : k + 1 < l.length) : (swapped l k).getD i 0 = if i = k then l.getD (k + 1) 0 else if i = k + 1 then l.getD k 0 else l.getD i 0 := by
  unfold swapped
  simp only [List.getD_eq_getElem?_getD, List.getElem?_set, List.length_set]
  by_cases h1 : i = k + 1
  · subst h1
    rw [if_pos rfl, if_pos (by omega), if_neg (by omega), if_pos rfl]; rfl
  · rw [if_neg (fun e => h1 e.symm), if_neg h1]
    by_cases h2 : i = k
    · subst h2
      rw [if_pos rfl, if_pos (by omega), if_pos rfl]; rfl
    · rw [if_neg (fun e => h2 e.symm), if_neg h2]
theorem swapped_same (l : List UInt8) (k : Nat) (h : k + 1 < l.length) (e : l.getD k 0 = l.getD (k + 1) 0) : swapped l k = l := by
  apply List.ext_getElem (swapped_len l k)
  intro i h1 h2
  have := swapped_get l k i h
  simp only [List.getD_eq_getElem?_getD, List.getElem?_eq_getElem h1, List.getElem?_eq_getElem h2, Option.getD_some] at this
  rw [this]
  simp only [List.getD_eq_getElem?_getD] at e
  split
  · rename_i hi; subst hi
    rw [← e, List.getElem?_eq_getElem h2]; rfl
  · split
    · rename_i hi; subst hi
      rw [e, List.getElem?_eq_getElem h2]; rfl
    · rfl
theorem swapped_sum (s : Nat) (l : List UInt8) (k : Nat) (h : k + 1 < l.length) : sumL s (swapped l k) = sumL s l ↔ l.getD (k + 1) 0 = l.getD k 0 := by
  constructor
  · intro e
    refine Classical.byContradiction fun hne => ?_
    have hx := (l.getD k 0).toNat_lt
    have hy := (l.getD (k + 1) 0).toNat_lt
    rcases first_bit (l.getD (k + 1) 0).toNat (l.getD k 0).toNat 8 with h8 | ⟨j, hj, hd, hs⟩
    · exact hne (UInt8.toNat_inj.1 (same_bits hy hx h8))
    · refine unlike s l (swapped l k) (swapped_len l k) (8 * k + j) (by omega) (fun i hi => ?_) ?_ (fun i hi => ?_) e
      · unfold bitAt
        rw [swapped_get l k _ h]
        by_cases h1 : i / 8 = k
        · rw [if_pos h1, h1]
          exact hs _ (by omega)
        · rw [if_neg h1, if_neg (by omega)]
      · unfold bitAt
        rw [swapped_get l k _ h, if_pos (by omega), show (8 * k + j) / 8 = k by omega, show (8 * k + j) % 8 = j by omega]
        exact hd
      · unfold bitAt
        rw [swapped_get l k _ h, if_neg (by omega), if_neg (by omega)]
  · intro e
    rw [swapped_same l k h e.symm]

set_option maxRecDepth 100000 in
set_option maxHeartbeats 1000000 in
theorem pairs_core (a : Option Addr) (n cap : Nat) (x : List UInt8) (p t : Nat) (w : World) (hx : Seen w a x) (hp : p = min n 300) (hxl : x.length = p) (hc : n ≤ cap) (ht : t < 65536) :
    Calls Try.prog 8 #[.slice a n cap, .int .u16 t] w fun e w' => e = .returned (.bool true) ∧ Below w.heap.size w w' := by
  have hp3 : p ≤ 300 := by omega
  replace hp := Lib.hid hp
  replace hxl := Lib.hid hxl
  by_cases h2 : p < 2
  · have t2 : decide ((p : Int) < 2) = true := decide_eq_true (by omega)
    go_enter Try.func8, Try.ntmps8
    try dsimp only [List.append]
    go_wp2_with fail
    (with_reducible refine (shown_any _).mono ?_)
    rintro e w1 ⟨rfl, hw1⟩
    have hx1 := hx.since hw1
    have hz1 := hw1.size
    go_wp2_with fail
    (with_reducible refine (few_ok a n cap p _ hc hp.out).mono ?_)
    rintro e w' ⟨rfl, rfl⟩
    go_wp2_with (at_builtin; refine wpList_append_own_any _ rfl (.tmp 11) (.tmp 13) rfl w.heap.size _ [] rfl (own_none _ _ hz1) a p cap rfl x hxl.out (hx1.alloc _) (by rw [hxl.out]; simp; omega) (by simp; omega) ?_)
    intro v1 w3 hown3 hg3 hat3
    have hw3 : Below w.heap.size w w3 := (hw1.alloc hz1 _).grown hg3 (by simp; omega) (by intro g hg; simp [Value.ownBlock] at hg; omega)
    obtain ⟨A, c, rfl, hA⟩ := hown3.seen_at (k := p) (by simp [hxl.out])
    go_wp2
    go_ret
    exact ⟨rfl, hw3⟩
  · have t2 : decide ((p : Int) < 2) = false := decide_eq_false (by omega)
    obtain ⟨s, hs⟩ : ∃ s, sumL 65535 x = s := ⟨_, rfl⟩
    obtain ⟨k, hk⟩ := Int.eq_ofNat_of_zero_le (Int.emod_nonneg (t : Int) (show ((p : Int) - 1) ≠ 0 by omega))
    have hkp := Int.emod_lt_of_pos (t : Int) (show (0 : Int) < (p : Int) - 1 by omega)
    rw [hk] at hkp
    have hkp' : k + 1 < p := by omega
    have hkx : k + 1 < x.length := by rw [hxl.out]; exact hkp'
    obtain ⟨s', hs'⟩ : ∃ s', sumL 65535 (swapped x k) = s' := ⟨_, rfl⟩
    have hsw := swapped_sum 65535 x k hkx
    rw [hs, hs'] at hsw
    replace hs := Lib.hid hs
    replace hs' := Lib.hid hs'
    have ek : x.getD k 0 = x[k] := by simp [List.getElem?_eq_getElem (show k < x.length by omega)]
    have ek1 : x.getD (k + 1) 0 = x[k + 1] := by simp [List.getElem?_eq_getElem hkx]
    rw [ek, ek1] at hsw
    obtain ⟨c, hc'⟩ : ∃ c, x[k] = c := ⟨_, rfl⟩
    obtain ⟨d, hd'⟩ : ∃ d, x[k + 1] = d := ⟨_, rfl⟩
    have eq3 : (((s' : Int) == (s : Int)) == ((d.toNat : Int) == (c.toNat : Int))) = true := by
      apply same_beq
      rw [hsw, hd', hc', UInt8.toNat_inj]
    clear hsw
    go_enter Try.func8, Try.ntmps8
    try dsimp only [List.append]
    go_wp2_with fail
    (with_reducible refine (shown_any _).mono ?_)
    rintro e w1 ⟨rfl, hw1⟩
    have hx1 := hx.since hw1
    have hz1 := hw1.size
    go_wp2_with fail
    (with_reducible refine (few_ok a n cap p _ hc hp.out).mono ?_)
    rintro e w' ⟨rfl, rfl⟩
    go_wp2_with (at_builtin; refine wpList_append_own_any _ rfl (.tmp 11) (.tmp 13) rfl w.heap.size _ [] rfl (own_none _ _ hz1) a p cap rfl x hxl.out (hx1.alloc _) (by rw [hxl.out]; simp; omega) (by simp; omega) ?_)
    intro v1 w3 hown3 hg3 hat3
    have hw3 : Below w.heap.size w w3 := (hw1.alloc hz1 _).grown hg3 (by simp; omega) (by intro g hg; simp [Value.ownBlock] at hg; omega)
    try rw [List.nil_append] at hown3
    obtain ⟨b, c3, rfl, hb, hheld⟩ := hown3.held (by omega)
    rw [hxl.out]
    clear hown3 hg3 hat3
    go_wp2_with fail
    (with_reducible refine (sum_at _ p c3 x s _ hxl.out (by omega) hheld.seen hs.out).mono ?_)
    rintro e w' ⟨rfl, rfl⟩
    have hcell := hheld.cell (i := k) (by omega)
    have hcell1 := hheld.cell (i := k + 1) (by omega)
    rw [hc'] at hcell
    rw [hd'] at hcell1
    have hfr := hheld.frozen k
    have hh1 := hheld.set k d
    have hfr1 := hh1.frozen (k + 1)
    have hcell2 := hh1.cell (i := k + 1) (by simp; omega)
    have hh2 := hh1.set (k + 1) c
    have esw : (x.set k d).set (k + 1) c = swapped x k := by unfold swapped; rw [ek, ek1, hc', hd']
    rw [esw] at hh2
    go_wp2_with fail
    have hcell3 : ∀ n, (((w3.setCell ⟨b, k, none⟩ (.int .u8 (d.toNat : Int))).setCell ⟨b, k + 1, none⟩ (.int .u8 (c.toNat : Int))).drewN n).cell? ⟨b, k, none⟩ = some (.int .u8 (d.toNat : Int)) := by
      intro n
      have := hh2.cell (i := k) (by rw [swapped_len]; omega)
      have e : (swapped x k)[k]'(by rw [swapped_len]; omega) = d := by
        have := swapped_get x k k hkx
        rw [if_pos rfl, ek1, hd'] at this
        simp only [List.getD_eq_getElem?_getD, List.getElem?_eq_getElem (show k < (swapped x k).length by rw [swapped_len]; omega), Option.getD_some] at this
        exact this
      rw [e] at this
      exact this
    have hl2 : (swapped x k).length = p := by rw [swapped_len, hxl.out]
    have hw5 := (hw3.setCell (p := ⟨b, k, none⟩) hb (.int .u8 (d.toNat : Int))).setCell (p := ⟨b, k + 1, none⟩) hb (.int .u8 (c.toNat : Int))
    clear hh1 hcell hcell1 hcell2 hfr hfr1 esw
    go_quiet ((go_at_call 11; exact quiet_eq (sum_at _ p c3 (swapped x k) s' _ hl2 (by omega) hh2.seen hs'.out)))
    go_wp2
    go_ret
    exact ⟨rfl, below_drawn hw5 _⟩

theorem crcPairs (a0 : Option Addr) (len0 cap0 : Nat) (z0 : List Int) (a1 : Int) (w : World) (w0 : Nums .u8 w a0 len0 cap0 z0) (w1 : (Lit.int .u16 a1).wf = true) :
    Calls Try.prog 8 #[.slice a0 len0 cap0, .int .u16 a1] w fun e w' => e = .returned (.bool true) ∧ Below w.heap.size w w' := by
  obtain ⟨x, rfl, hx, hc⟩ := seen_nums w0
  obtain ⟨t, rfl, ht⟩ := u16_came w1
  exact pairs_core a0 _ cap0 (x.take 300) _ t w (hx.take 300) rfl (by simp; omega) hc ht
end Go.Proofs.Ytlepghjfbcbcpaa.walks
