/-
  PLAIN FACTS OF WINDOWS: what one has seen, bit by bit. No program.
-/
import Derived.WalkKit
namespace Go.Proofs.Ytahfhanibiaimaa.window
set_option linter.unusedVariables false
set_option linter.unusedSimpArgs false

/-- a window -/
structure Win where
  any : Bool
  high : Int
  seen : Nat
  deriving DecidableEq
def zW : Win := ⟨false, 0, 0⟩
def max64 : Nat := 18446744073709551616
/-- what See tells -/
def see (w : Win) (n : Int) : Win × Bool :=
  if n < 0 ∨ 4294967295 < n then (w, false)
  else if w.any = false then (⟨true, n, 1⟩, true)
  else if w.high < n then (⟨true, n, ((w.seen <<< (n - w.high).toNat) % max64) ||| 1⟩, true)
  else if 63 < w.high - n ∨ w.seen.testBit (w.high - n).toNat = true then (w, false)
  else (⟨w.any, w.high, w.seen ||| 2 ^ (w.high - n).toNat⟩, true)
/-- it may be -/
def okW (w : Win) : Prop := 0 ≤ w.high ∧ w.high ≤ 4294967295 ∧ w.seen < max64
theorem zW_ok : okW zW := ⟨by decide, by decide, by decide⟩
theorem max64_pow : max64 = 2 ^ 64 := by decide
theorem see_ok {w : Win} (h : okW w) (n : Int) : okW (see w n).1 := by
  obtain ⟨h1, h2, h3⟩ := h
  unfold see
  split
  · exact ⟨h1, h2, h3⟩
  rename_i hn
  split
  · exact ⟨by show 0 ≤ n; omega, by show n ≤ _; omega, by show 1 < max64; decide⟩
  split
  · refine ⟨by show 0 ≤ n; omega, by show n ≤ _; omega, ?_⟩
    show _ ||| 1 < max64
    rw [max64_pow]
    exact Nat.or_lt_two_pow (Nat.mod_lt _ (by decide)) (by decide)
  split
  · exact ⟨h1, h2, h3⟩
  · rename_i hb
    refine ⟨h1, h2, ?_⟩
    show _ ||| _ < max64
    rw [max64_pow] at h3 ⊢
    exact Nat.or_lt_two_pow h3 (Nat.pow_lt_pow_right (by decide) (by omega))
theorem bit_one (j : Nat) : Nat.testBit 1 j = decide (j = 0) := by
  have h := @Nat.testBit_two_pow 0 j
  rw [Nat.pow_zero] at h
  rw [h]
  by_cases e : j = 0
  · subst e; rfl
  · rw [decide_eq_false e, decide_eq_false (fun h => e h.symm)]
theorem see_in (w : Win) {n : Int} (h0 : 0 ≤ n) (h1 : n ≤ 4294967295) : see w n = if w.any = false then (⟨true, n, 1⟩, true) else if w.high < n then (⟨true, n, ((w.seen <<< (n - w.high).toNat) % max64) ||| 1⟩, true)
    else if 63 < w.high - n ∨ w.seen.testBit (w.high - n).toNat = true then (w, false) else (⟨w.any, w.high, w.seen ||| 2 ^ (w.high - n).toNat⟩, true) := by
  unfold see
  rw [if_neg (by omega)]
/-- bit j of what has been seen is of the number j below the greatest one -/
def Has (w : Win) (U : List Int) : Prop := (∀ u ∈ U, 0 ≤ u ∧ u ≤ w.high) ∧ (U = [] ↔ w.any = false) ∧ (U ≠ [] → w.high ∈ U) ∧ ∀ j : Nat, j < 64 → (w.seen.testBit j = true ↔ w.any = true ∧ (w.high - (j : Int)) ∈ U)
theorem has_nil : Has zW [] := ⟨fun u h => (by cases h), by simp [zW], fun h => absurd rfl h, fun j hj => by simp [zW]⟩
/-- a number is new just if it was not ahead, and is less than 64 below the greatest one -/
theorem see_new {w : Win} {U : List Int} (h : Has w U) {n : Int} (h0 : 0 ≤ n) (h1 : n ≤ 4294967295) : (see w n).2 = (decide ((if U = [] then -1 else w.high) < 0 ∨ (if U = [] then -1 else w.high) - 64 < n) && !(U.contains n)) ∧ ((see w n).2 = false → (see w n).1 = w) ∧ ((see w n).2 = true → Has (see w n).1 (U ++ [n]) ∧ (see w n).1.high = (if U = [] then n else max w.high n)) := by
  obtain ⟨ha, hb, hc, hd⟩ := h
  by_cases hU : U = []
  · have hany := hb.1 hU
    subst hU
    have e : see w n = (⟨true, n, 1⟩, true) := by unfold see; rw [if_neg (by omega), if_pos hany]
    rw [e]
    refine ⟨by simp, by simp, fun _ => ⟨⟨?_, by simp, by simp, fun j hj => ?_⟩, by simp⟩⟩
    · intro u hu
      simp at hu
      subst hu
      exact ⟨h0, Int.le_refl _⟩
    · simp only [List.nil_append, List.mem_singleton, true_and]
      rcases Nat.eq_zero_or_pos j with rfl | hj0
      · simp
      · rw [show Nat.testBit 1 j = false by rw [bit_one]; simp; omega]
        simp
        omega
  · have hany : w.any = true := by
      cases hw : w.any with
      | true => rfl
      | false => exact absurd (hb.2 hw) hU
    have hH := hc hU
    have hHr := ha _ hH
    rw [if_neg hU, if_neg hU]
    by_cases hgt : w.high < n
    · have e : see w n = (⟨true, n, ((w.seen <<< (n - w.high).toNat) % max64) ||| 1⟩, true) := by unfold see; rw [if_neg (by omega), if_neg (by simp [hany]), if_pos hgt]
      have hnin : n ∉ U := fun hu => by have := (ha n hu).2; omega
      rw [e]
      refine ⟨?_, by simp, fun _ => ⟨⟨?_, by simp, by simp, fun j hj => ?_⟩, ?_⟩⟩
      · have : U.contains n = false := by simpa using hnin
        rw [this]
        simp
        omega
      · intro u hu
        rcases List.mem_append.1 hu with hu | hu
        · have := ha u hu
          exact ⟨this.1, by show u ≤ n; omega⟩
        · simp at hu
          subst hu
          exact ⟨h0, Int.le_refl _⟩
      · simp only [true_and, List.mem_append, List.mem_singleton]
        rw [Nat.testBit_or, max64_pow, Nat.testBit_mod_two_pow, Nat.testBit_shiftLeft, bit_one]
        simp only [Bool.or_eq_true, Bool.and_eq_true, decide_eq_true_eq]
        have hd' := hd (j - (n - w.high).toNat) (by omega)
        rw [hd']
        have hz : ∀ u ∈ U, u ≤ w.high := fun u hu => (ha u hu).2
        by_cases hjd : (n - w.high).toNat ≤ j
        · have e2 : w.high - ((j - (n - w.high).toNat : Nat) : Int) = n - (j : Int) := by omega
          rw [e2]
          constructor
          · rintro (⟨_, _, _, h⟩ | h)
            · exact Or.inl h
            · exact Or.inr (by omega)
          · rintro (h | h)
            · exact Or.inl ⟨hj, hjd, hany, h⟩
            · exact Or.inr (by omega)
        · constructor
          · rintro (⟨_, h, _⟩ | h)
            · exact absurd h hjd
            · exact Or.inr (by omega)
          · rintro (h | h)
            · have := hz _ h
              omega
            · exact Or.inr (by omega)
      · show n = max w.high n
        omega
    · obtain ⟨b, hbk⟩ : ∃ b : Nat, w.high - n = b := ⟨(w.high - n).toNat, by omega⟩
      have hbn : (w.high - n).toNat = b := by omega
      have hnb : w.high - (b : Int) = n := by omega
      by_cases hold : 63 < w.high - n ∨ w.seen.testBit (w.high - n).toNat = true
      · have e : see w n = (w, false) := by unfold see; rw [if_neg (by omega), if_neg (by simp [hany]), if_neg hgt, if_pos hold]
        rw [e]
        refine ⟨?_, fun _ => rfl, by simp⟩
        symm
        rw [Bool.and_eq_false_iff]
        by_cases hfar : 63 < w.high - n
        · left
          simp
          omega
        · right
          have hbit := hold.resolve_left hfar
          rw [hbn] at hbit
          have := ((hd b (by omega)).1 hbit).2
          rw [hnb] at this
          simpa using this
      · have hfar : ¬ (63 < w.high - n) := fun h => hold (Or.inl h)
        have hbit : ¬ (w.seen.testBit (w.high - n).toNat = true) := fun h => hold (Or.inr h)
        have e : see w n = (⟨w.any, w.high, w.seen ||| 2 ^ (w.high - n).toNat⟩, true) := by unfold see; rw [if_neg (by omega), if_neg (by simp [hany]), if_neg hgt, if_neg hold]
        rw [hbn] at hbit e
        have hnin : n ∉ U := fun hu => hbit ((hd b (by omega)).2 ⟨hany, by rw [hnb]; exact hu⟩)
        rw [e]
        refine ⟨?_, by simp, fun _ => ⟨⟨?_, by simp [hany], fun _ => List.mem_append_left _ hH, fun j hj => ?_⟩, ?_⟩⟩
        · have : U.contains n = false := by simpa using hnin
          rw [this]
          simp
          omega
        · intro u hu
          rcases List.mem_append.1 hu with hu | hu
          · exact ha u hu
          · simp at hu
            subst hu
            exact ⟨h0, by show u ≤ w.high; omega⟩
        · simp only [List.mem_append, List.mem_singleton, hany, true_and]
          rw [Nat.testBit_or, Nat.testBit_two_pow, Bool.or_eq_true, decide_eq_true_eq, hd j hj]
          constructor
          · rintro (h | h)
            · exact Or.inl h.2
            · exact Or.inr (by omega)
          · rintro (h | h)
            · exact Or.inl ⟨hany, h⟩
            · exact Or.inr (by omega)
        · show w.high = max w.high n
          omega
theorem has_bit0 {w : Win} {U : List Int} (h : Has w U) (hU : U ≠ []) : w.any = true ∧ w.seen % 2 = 1 := by
  obtain ⟨ha, hb, hc, hd⟩ := h
  have hany : w.any = true := by
    cases hw : w.any with
    | true => rfl
    | false => exact absurd (hb.2 hw) hU
  refine ⟨hany, ?_⟩
  have := (hd 0 (by decide)).2 ⟨hany, by simpa using hc hU⟩
  rw [Nat.testBit_zero] at this
  simpa using this
/-- all numbers greater by as much -/
theorem see_moved {v w : Win} {n far : Int} (hv : okW v) (hw : okW w) (ha : v.any = w.any) (hs : v.seen = w.seen) (hh : v.any = true → w.high = v.high + far) (h0 : 0 ≤ n) (h1 : n + far ≤ 4294967295) (hf : 0 ≤ far) :
    (see v n).2 = (see w (n + far)).2 ∧ (see v n).1.any = (see w (n + far)).1.any ∧ (see v n).1.seen = (see w (n + far)).1.seen ∧ ((see v n).1.any = true → (see w (n + far)).1.high = (see v n).1.high + far) := by
  rw [see_in v h0 (by omega), see_in w (by omega) h1, ← ha, ← hs]
  by_cases hany : v.any = false
  · rw [if_pos hany, if_pos hany]
    exact ⟨rfl, rfl, rfl, fun _ => rfl⟩
  · have hany' : v.any = true := by cases h : v.any <;> simp_all
    rw [if_neg hany, if_neg hany]
    have hH := hh hany'
    by_cases hgt : v.high < n
    · rw [if_pos hgt, if_pos (by omega), show n + far - w.high = n - v.high by omega]
      exact ⟨rfl, rfl, rfl, fun _ => rfl⟩
    · rw [if_neg hgt, if_neg (show ¬ (w.high < n + far) by omega), show w.high - (n + far) = v.high - n by omega]
      by_cases hc : 63 < v.high - n ∨ v.seen.testBit (v.high - n).toNat = true
      · rw [if_pos hc, if_pos hc]
        exact ⟨rfl, ha, hs, fun _ => hH⟩
      · rw [if_neg hc, if_neg hc]
        exact ⟨rfl, rfl, rfl, fun _ => hH⟩
end Go.Proofs.Ytahfhanibiaimaa.window
