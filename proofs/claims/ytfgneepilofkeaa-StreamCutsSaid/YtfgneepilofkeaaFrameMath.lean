/-
  PLAIN FACTS OF FRAMES, over lists of bytes: what is put, what stands at the beginning. No program.
-/
import Derived.Test.YtfgneepilofkeaaCrcMath
namespace Go.Proofs.Ytfgneepilofkeaa.frame
open Go.Proofs.Ytfgneepilofkeaa.crc
set_option linter.unusedVariables false

/-- what all but the mark and the sum are -/
def headB (l : List UInt8) : List UInt8 := 1 :: UInt8.ofNat l.length :: l
/-- the sum, two bytes -/
def tailB (s : Nat) : List UInt8 := [UInt8.ofNat (s / 256), UInt8.ofNat (s % 256)]
def putB (l : List UInt8) : List UInt8 := 165 :: headB l ++ tailB (sumL 65535 (headB l))

structure F where
  kind : Nat
  size : Nat
  code : Nat
  body : List UInt8
def wait : F := ⟨0, 0, 0, []⟩
def rej (c : Nat) : F := ⟨3, 1, c, []⟩
/-- how many bytes there are ahead of the first mark -/
def skipN : List UInt8 → Nat
  | [] => 0
  | c :: l => if c = 165 then 0 else skipN l + 1
def measB (l : List UInt8) : F :=
  if 32 < (l.getD 2 0).toNat then rej 11
  else if l.length < (l.getD 2 0).toNat + 5 then wait
  else if sumL 65535 ((l.drop 1).take ((l.getD 2 0).toNat + 2)) ≠ 256 * (l.getD ((l.getD 2 0).toNat + 3) 0).toNat + (l.getD ((l.getD 2 0).toNat + 4) 0).toNat then rej 12
  else ⟨2, (l.getD 2 0).toNat + 5, 0, (l.drop 3).take (l.getD 2 0).toNat⟩
def nextB (l : List UInt8) : F :=
  if l.length = 0 then wait
  else if l.getD 0 0 ≠ 165 then ⟨1, skipN l, 0, []⟩
  else if l.length = 1 then wait
  else if l.getD 1 0 ≠ 1 then rej 10
  else if l.length = 2 then wait
  else measB l

theorem headB_len (l : List UInt8) : (headB l).length = l.length + 2 := by simp [headB]
theorem putB_len (l : List UInt8) : (putB l).length = l.length + 5 := by simp [putB, headB, tailB]
theorem tail_back {s : Nat} (h : s < 65536) : 256 * (UInt8.ofNat (s / 256)).toNat + (UInt8.ofNat (s % 256)).toNat = s := by
  rw [UInt8.toNat_ofNat', UInt8.toNat_ofNat']; omega

theorem putB_get0 (l : List UInt8) (m : List UInt8) : (putB l ++ m).getD 0 0 = 165 := rfl
theorem putB_get1 (l : List UInt8) (m : List UInt8) : (putB l ++ m).getD 1 0 = 1 := rfl
theorem putB_get2 (l : List UInt8) (m : List UInt8) : (putB l ++ m).getD 2 0 = UInt8.ofNat l.length := rfl
theorem small_len {l : List UInt8} (h : l.length ≤ 32) : (UInt8.ofNat l.length).toNat = l.length := by rw [UInt8.toNat_ofNat']; omega

/-- a frame is found whole -/
theorem next_put (l m : List UInt8) (h : l.length ≤ 32) : nextB (putB l ++ m) = ⟨2, l.length + 5, 0, l⟩ := by
  have hs : sumL 65535 (headB l) < 65536 := sumL_lt _ (by decide)
  have hlen : (putB l ++ m).length = l.length + 5 + m.length := by rw [List.length_append, putB_len]
  have e1 : ((putB l ++ m).drop 1).take (l.length + 2) = headB l := by
    have : (putB l ++ m).drop 1 = headB l ++ (tailB (sumL 65535 (headB l)) ++ m) := by simp [putB]
    rw [this, List.take_left' (headB_len l)]
  have e2 : ((putB l ++ m).drop 3).take l.length = l := by
    have : (putB l ++ m).drop 3 = l ++ (tailB (sumL 65535 (headB l)) ++ m) := by simp [putB, headB]
    rw [this, List.take_left' rfl]
  have e3 : putB l ++ m = (165 :: headB l) ++ (tailB (sumL 65535 (headB l)) ++ m) := by simp [putB]
  have e4 : (putB l ++ m).getD (l.length + 3) 0 = UInt8.ofNat (sumL 65535 (headB l) / 256) := by
    rw [e3, List.getD_eq_getElem?_getD, List.getElem?_append_right (by simp [headB])]
    simp [headB, tailB]
  have e5 : (putB l ++ m).getD (l.length + 4) 0 = UInt8.ofNat (sumL 65535 (headB l) % 256) := by
    rw [e3, List.getD_eq_getElem?_getD, List.getElem?_append_right (by simp [headB])]
    simp [headB, tailB]
  unfold nextB measB
  rw [putB_get0, putB_get1, putB_get2, small_len h, hlen, e1, e2, e4, e5, tail_back hs]
  rw [if_neg (by omega), if_neg (by simp), if_neg (by omega), if_neg (by simp), if_neg (by omega), if_neg (by omega), if_neg (by omega), if_neg (by simp)]

theorem getD_take (l : List UInt8) (i j : Nat) (h : j < i) : (l.take i).getD j 0 = l.getD j 0 := by
  rw [List.getD_eq_getElem?_getD, List.getD_eq_getElem?_getD, List.getElem?_take_of_lt h]

/-- its beginnings wait -/
theorem next_wait (l : List UInt8) (i : Nat) (h : l.length ≤ 32) (hi : i < l.length + 5) : nextB ((putB l).take i) = wait := by
  have hlen : ((putB l).take i).length = i := by rw [List.length_take, putB_len]; omega
  unfold nextB measB
  rw [hlen]
  by_cases h0 : i = 0
  · rw [if_pos h0]
  rw [if_neg h0, getD_take _ _ _ (by omega), if_neg (by simp [putB])]
  by_cases h1 : i = 1
  · rw [if_pos h1]
  rw [if_neg h1, getD_take _ _ _ (by omega), if_neg (by simp [putB, headB])]
  by_cases h2 : i = 2
  · rw [if_pos h2]
  have e2 : (putB l).getD 2 0 = UInt8.ofNat l.length := rfl
  rw [if_neg h2, getD_take _ _ _ (by omega), e2, small_len h, if_neg (by omega), if_pos (by omega)]

/-- how the search for a mark goes on -/
theorem skip_le : ∀ l : List UInt8, skipN l ≤ l.length
  | [] => Nat.le_refl _
  | c :: l => by
    have := skip_le l
    rw [skipN]
    split
    · exact Nat.zero_le _
    · simp; omega
theorem skip_add : ∀ l m : List UInt8, skipN l ≤ skipN (l ++ m) ∧ (skipN (l ++ m) = skipN l ∨ skipN l = l.length)
  | [], m => ⟨Nat.zero_le _, .inr rfl⟩
  | c :: l, m => by
    have ⟨h1, h2⟩ := skip_add l m
    rw [List.cons_append, skipN, skipN]
    split
    · exact ⟨Nat.le_refl _, .inl rfl⟩
    · refine ⟨by omega, ?_⟩
      rcases h2 with h | h
      · exact .inl (by omega)
      · exact .inr (by simp; omega)
theorem skip_first {l : List UInt8} (h : l.length ≠ 0) (h0 : l.getD 0 0 ≠ 165) : 1 ≤ skipN l := by
  match l, h, h0 with
  | c :: l, _, h0 =>
    rw [skipN, if_neg (by simpa using h0)]
    omega
/-- as many as stand ahead -/
theorem skip_is : ∀ (l : List UInt8) (i : Nat), i ≤ l.length → (∀ j, j < i → l.getD j 0 ≠ 165) → (i < l.length → l.getD i 0 = 165) → skipN l = i
  | [], i, h, _, _ => by simp at h; rw [h]; rfl
  | c :: l, 0, _, _, h => by
    have : c = 165 := by simpa using h (by simp)
    rw [skipN, if_pos this]
  | c :: l, i + 1, h, h1, h2 => by
    have h0 : c ≠ 165 := by simpa using h1 0 (by omega)
    rw [skipN, if_neg h0, skip_is l i (by simpa using h) (fun j hj => by simpa using h1 (j + 1) (by omega)) (fun hi => by simpa using h2 (by simpa using hi))]

theorem getD_app (l m : List UInt8) (j : Nat) (h : j < l.length) : (l ++ m).getD j 0 = l.getD j 0 := by
  rw [List.getD_eq_getElem?_getD, List.getD_eq_getElem?_getD, List.getElem?_append_left h]

/-- what was told of a beginning holds -/
theorem next_goes (x m : List UInt8) :
    ((nextB x).kind = 0 → (nextB x).size = 0 ∧ x.length < 37) ∧
    ((nextB x).kind ≠ 0 → 1 ≤ (nextB x).size ∧ (nextB x).size ≤ x.length) ∧
    ((nextB x).kind = 1 → (nextB (x ++ m)).kind = 1 ∧ (nextB x).size ≤ (nextB (x ++ m)).size ∧ ((nextB (x ++ m)).size = (nextB x).size ∨ (nextB x).size = x.length)) ∧
    ((nextB x).kind ≠ 0 → (nextB x).kind ≠ 1 → nextB (x ++ m) = nextB x) := by
  by_cases h0 : x.length = 0
  · have e : nextB x = wait := by unfold nextB; rw [if_pos h0]
    rw [e]
    simp [wait]; omega
  have hm : (x ++ m).length = x.length + m.length := by simp
  by_cases h1 : x.getD 0 0 ≠ 165
  · have e : nextB x = ⟨1, skipN x, 0, []⟩ := by unfold nextB; rw [if_neg h0, if_pos h1]
    have e2 : nextB (x ++ m) = ⟨1, skipN (x ++ m), 0, []⟩ := by unfold nextB; rw [if_neg (by omega), getD_app _ _ _ (by omega), if_pos h1]
    rw [e, e2]
    have := skip_first h0 h1
    have := skip_le x
    have := skip_add x m
    simp; omega
  by_cases h2 : x.length = 1
  · have e : nextB x = wait := by unfold nextB; rw [if_neg h0, if_neg h1, if_pos h2]
    rw [e]
    simp [wait]; omega
  by_cases h3 : x.getD 1 0 ≠ 1
  · have e : nextB x = rej 10 := by unfold nextB; rw [if_neg h0, if_neg h1, if_neg h2, if_pos h3]
    have e2 : nextB (x ++ m) = rej 10 := by unfold nextB; rw [if_neg (by omega), getD_app _ _ _ (by omega), if_neg h1, if_neg (by omega), getD_app _ _ _ (by omega), if_pos h3]
    rw [e, e2]
    simp [rej]; omega
  by_cases h4 : x.length = 2
  · have e : nextB x = wait := by unfold nextB; rw [if_neg h0, if_neg h1, if_neg h2, if_neg h3, if_pos h4]
    rw [e]
    simp [wait]; omega
  have e : nextB x = measB x := by unfold nextB; rw [if_neg h0, if_neg h1, if_neg h2, if_neg h3, if_neg h4]
  have e2 : nextB (x ++ m) = measB (x ++ m) := by unfold nextB; rw [if_neg (by omega), getD_app _ _ _ (by omega), if_neg h1, if_neg (by omega), getD_app _ _ _ (by omega), if_neg h3, if_neg (by omega)]
  rw [e, e2]
  have g2 : (x ++ m).getD 2 0 = x.getD 2 0 := getD_app _ _ _ (by omega)
  unfold measB
  rw [g2]
  generalize (x.getD 2 0).toNat = n
  by_cases h5 : 32 < n
  · rw [if_pos h5, if_pos h5]
    simp [rej]; omega
  rw [if_neg h5, if_neg h5]
  by_cases h6 : x.length < n + 5
  · rw [if_pos h6]
    simp [wait]; omega
  have d1 : ((x ++ m).drop 1).take (n + 2) = (x.drop 1).take (n + 2) := by
    rw [List.drop_append_of_le_length (by omega), List.take_append_of_le_length (by simp; omega)]
  have d3 : ((x ++ m).drop 3).take n = (x.drop 3).take n := by
    rw [List.drop_append_of_le_length (by omega), List.take_append_of_le_length (by simp; omega)]
  rw [if_neg h6, if_neg (show ¬ (x ++ m).length < n + 5 by omega), d1, d3, getD_app _ _ _ (by omega), getD_app _ _ _ (by omega)]
  split
  · simp [rej]; omega
  · simp; omega

/-- unlike bodies have unlike frames, none of which is the beginning of another -/
theorem put_apart (x y : List UInt8) (hx : x.length ≤ 32) (hy : y.length ≤ 32) (n : Nat) (hn : n = min (x.length + 5) (y.length + 5)) : (putB x).take n = (putB y).take n ↔ x = y := by
  refine ⟨fun h => ?_, fun h => by rw [h]⟩
  have g2 : UInt8.ofNat x.length = UInt8.ofNat y.length := by
    have : ((putB x).take n).getD 2 0 = ((putB y).take n).getD 2 0 := by rw [h]
    rw [getD_take _ _ _ (by omega), getD_take _ _ _ (by omega)] at this
    exact this
  have hl : x.length = y.length := by
    have := congrArg UInt8.toNat g2
    rwa [small_len hx, small_len hy] at this
  rw [List.take_of_length_le (by rw [putB_len]; omega), List.take_of_length_le (by rw [putB_len]; omega)] at h
  have h3 := congrArg (fun l => (l.drop 3).take x.length) h
  simp only [putB, headB, List.cons_append, List.drop_succ_cons, List.drop_zero] at h3
  rwa [List.take_left' rfl, List.take_left' hl.symm] at h3

/-- the bits behind so many bytes -/
theorem bit_drop (l : List UInt8) (d j : Nat) : bitAt (l.drop d) j = bitAt l (8 * d + j) := by
  unfold bitAt
  rw [List.getD_eq_getElem?_getD, List.getElem?_drop, ← List.getD_eq_getElem?_getD, show (8 * d + j) / 8 = d + j / 8 by omega, show (8 * d + j) % 8 = j % 8 by omega]
/-- a frame, all but the mark summed with its sum -/
theorem put_sum (l : List UInt8) : sumL 65535 ((putB l).drop 1) = 0 := by
  have e : (putB l).drop 1 = headB l ++ tailB (sumL 65535 (headB l)) := rfl
  have h := sumL_lt (headB l) (s := 65535) (by decide)
  rw [e, sumL_add]
  show stp (stp _ _) _ = 0
  exact sum_behind _ _ _ (by rw [UInt8.toNat_ofNat', UInt8.toNat_ofNat']; omega) (UInt8.toNat_lt _) (UInt8.toNat_lt _)
/-- bytes of a frame's length whose head is a frame's and whose whole sum is not 0 -/
theorem next_bad (q : List UInt8) (n : Nat) (hn : n ≤ 32) (hl : q.length = n + 5) (h0 : q.getD 0 0 = 165) (h1 : q.getD 1 0 = 1) (h2 : (q.getD 2 0).toNat = n) (hs : sumL 65535 (q.drop 1) ≠ 0) : nextB q = rej 12 := by
  unfold nextB measB
  rw [h0, h1, h2, hl, if_neg (by omega), if_neg (by simp), if_neg (by omega), if_neg (by simp), if_neg (by omega), if_neg (by omega), if_neg (by omega), if_pos]
  intro h
  apply hs
  have e : q.drop 1 = (q.drop 1).take (n + 2) ++ [q.getD (n + 3) 0, q.getD (n + 4) 0] := by
    apply List.ext_getElem?
    intro i
    by_cases hi : i < n + 2
    · rw [List.getElem?_append_left (by simp; omega), List.getElem?_take_of_lt hi]
    · rw [List.getElem?_append_right (by simp; omega), List.length_take, List.length_drop, List.getElem?_drop]
      rcases (by omega : i = n + 2 ∨ i = n + 3 ∨ n + 4 ≤ i) with rfl | rfl | h'
      · rw [show n + 2 - min (n + 2) (q.length - 1) = 0 by omega, show 1 + (n + 2) = n + 3 by omega]
        simp [List.getD_eq_getElem?_getD, List.getElem?_eq_getElem (show n + 3 < q.length by omega)]
      · rw [show n + 3 - min (n + 2) (q.length - 1) = 1 by omega, show 1 + (n + 3) = n + 4 by omega]
        simp [List.getD_eq_getElem?_getD, List.getElem?_eq_getElem (show n + 4 < q.length by omega)]
      · rw [List.getElem?_eq_none (by omega), List.getElem?_eq_none (by simp; omega)]
  rw [e, sumL_add]
  show stp (stp _ _) _ = 0
  exact sum_behind _ _ _ (by rw [h]; omega) (UInt8.toNat_lt _) (UInt8.toNat_lt _)
end Go.Proofs.Ytfgneepilofkeaa.frame
