/-
  PLAIN FACTS OF FRAMES OUT OF BYTES, over lists of bytes: the items, what is left; however the bytes are cut. No program.
-/
import Derived.Test.YtfgneepilofkeaaFrameMath
namespace Go.Proofs.Ytfgneepilofkeaa.stream
open Go.Proofs.Ytfgneepilofkeaa.frame
set_option linter.unusedVariables false

/-- an item: its code, its body -/
structure I where
  code : Nat
  body : List UInt8
def itemsOf (f : F) : List I := if f.kind = 2 then [⟨0, f.body⟩] else if f.kind = 3 then [⟨f.code, []⟩] else []

theorem next_size (l : List UInt8) : (nextB l).kind ≠ 0 → 1 ≤ (nextB l).size ∧ (nextB l).size ≤ l.length := (next_goes l []).2.1
/-- the items -/
def itemsB (l : List UInt8) : List I :=
  if h : (nextB l).kind = 0 then [] else itemsOf (nextB l) ++ itemsB (l.drop (nextB l).size)
  termination_by l.length
  decreasing_by
    have := next_size l h
    simp; omega
/-- the bytes that are left -/
def restB (l : List UInt8) : List UInt8 :=
  if h : (nextB l).kind = 0 then l else restB (l.drop (nextB l).size)
  termination_by l.length
  decreasing_by
    have := next_size l h
    simp; omega
theorem items_wait {l : List UInt8} (h : (nextB l).kind = 0) : itemsB l = [] := by rw [itemsB, dif_pos h]
theorem items_step {l : List UInt8} (h : (nextB l).kind ≠ 0) : itemsB l = itemsOf (nextB l) ++ itemsB (l.drop (nextB l).size) := by rw [itemsB, dif_neg h]
theorem rest_wait {l : List UInt8} (h : (nextB l).kind = 0) : restB l = l := by rw [restB, dif_pos h]
theorem rest_step {l : List UInt8} (h : (nextB l).kind ≠ 0) : restB l = restB (l.drop (nextB l).size) := by rw [restB, dif_neg h]

theorem next_nil : nextB [] = wait := rfl
theorem items_nil : itemsB [] = [] := items_wait (by rw [next_nil]; rfl)
theorem rest_nil : restB [] = [] := rest_wait (by rw [next_nil]; rfl)

/-- by induction over what is done with -/
theorem goes_ind {p : List UInt8 → Prop} (h0 : ∀ l, (nextB l).kind = 0 → p l) (h1 : ∀ l, (nextB l).kind ≠ 0 → p (l.drop (nextB l).size) → p l) : ∀ (n : Nat) (l : List UInt8), l.length ≤ n → p l
  | 0, l, h => by
    have : l = [] := List.eq_nil_of_length_eq_zero (by omega)
    subst this
    exact h0 _ (by rw [next_nil]; rfl)
  | n + 1, l, h => by
    by_cases hk : (nextB l).kind = 0
    · exact h0 l hk
    · have := next_size l hk
      exact h1 l hk (goes_ind h0 h1 n _ (by simp; omega))

theorem rest_kind (l : List UInt8) : (nextB (restB l)).kind = 0 := by
  refine goes_ind (p := fun l => (nextB (restB l)).kind = 0) (fun l h => ?_) (fun l h ih => ?_) l.length l (Nat.le_refl _)
  · show (nextB (restB l)).kind = 0
    rw [rest_wait h]; exact h
  · show (nextB (restB l)).kind = 0
    rw [rest_step h]; exact ih
/-- what is left are the last ones -/
theorem rest_drop (l : List UInt8) : (restB l).length ≤ l.length ∧ l.drop (l.length - (restB l).length) = restB l := by
  refine goes_ind (p := fun l => (restB l).length ≤ l.length ∧ l.drop (l.length - (restB l).length) = restB l) (fun l h => ?_) (fun l h ih => ?_) l.length l (Nat.le_refl _)
  · show (restB l).length ≤ l.length ∧ l.drop (l.length - (restB l).length) = restB l
    rw [rest_wait h]; simp
  · show (restB l).length ≤ l.length ∧ l.drop (l.length - (restB l).length) = restB l
    rw [rest_step h]
    obtain ⟨i1, i2⟩ := ih
    have := next_size l h
    rw [List.length_drop] at i1 i2
    refine ⟨by omega, ?_⟩
    rw [List.drop_drop] at i2
    rw [← i2]
    congr 1
    rw [i2]
    omega
theorem rest_small (l : List UInt8) : (restB l).length < 37 := ((next_goes (restB l) []).1 (rest_kind l)).2
theorem items_rest (l : List UInt8) : itemsB (restB l) = [] := items_wait (rest_kind l)
theorem rest_rest (l : List UInt8) : restB (restB l) = restB l := rest_wait (rest_kind l)
/-- what waits begins with a mark -/
theorem wait_head {l : List UInt8} (h : (nextB l).kind = 0) (hl : l.length ≠ 0) : l.getD 0 0 = 165 := by
  rcases Classical.em (l.getD 0 0 = 165) with h0 | h0
  · exact h0
  · unfold nextB at h
    rw [if_neg hl, if_pos h0] at h
    simp at h

/-- what is left begins with a mark -/
theorem rest_mark (l : List UInt8) (h : (restB l).length ≠ 0) : l.getD (l.length - (restB l).length) 0 = 165 := by
  have hh := wait_head (rest_kind l) h
  rw [← (rest_drop l).2, List.getD_eq_getElem?_getD, List.getElem?_drop, Nat.add_zero, ← List.getD_eq_getElem?_getD] at hh
  exact hh

theorem next_calm {l : List UInt8} (hl : l.length ≠ 0) (h0 : l.getD 0 0 ≠ 165) : nextB l = ⟨1, skipN l, 0, []⟩ := by
  unfold nextB
  rw [if_neg hl, if_pos h0]
theorem skipped (m : List UInt8) : itemsB (m.drop (skipN m)) = itemsB m ∧ restB (m.drop (skipN m)) = restB m := by
  by_cases hl : m.length = 0
  · have : m = [] := List.eq_nil_of_length_eq_zero hl
    subst this
    exact ⟨rfl, rfl⟩
  by_cases h0 : m.getD 0 0 = 165
  · have : skipN m = 0 := by
      match m, hl, h0 with
      | c :: m, _, h0 => rw [skipN, if_pos (by simpa using h0)]
    rw [this]
    exact ⟨rfl, rfl⟩
  · have e := next_calm hl h0
    have hk : (nextB m).kind ≠ 0 := by rw [e]; simp
    have e1 := items_step hk
    have e2 := rest_step hk
    rw [e] at e1 e2
    exact ⟨e1.symm, e2.symm⟩
theorem skip_calm : ∀ (x m : List UInt8), (∀ c ∈ x, c ≠ 165) → skipN (x ++ m) = x.length + skipN m
  | [], m, _ => by simp
  | c :: x, m, h => by
    rw [List.cons_append, skipN, if_neg (h c (by simp)), skip_calm x m (fun d hd => h d (by simp [hd]))]
    simp; omega
/-- bytes that are no mark are nothing -/
theorem calm_app (x m : List UInt8) (h : ∀ c ∈ x, c ≠ 165) : itemsB (x ++ m) = itemsB m ∧ restB (x ++ m) = restB m := by
  rcases x with _ | ⟨c, x⟩
  · exact ⟨rfl, rfl⟩
  · have e : nextB (c :: x ++ m) = ⟨1, skipN (c :: x ++ m), 0, []⟩ := next_calm (by simp) (by simpa using h c (by simp))
    have hk : (nextB (c :: x ++ m)).kind ≠ 0 := by rw [e]; simp
    have hd : (c :: x ++ m).drop (skipN (c :: x ++ m)) = m.drop (skipN m) := by
      rw [skip_calm _ _ h, ← List.drop_drop, List.drop_left' rfl]
    have e1 := items_step hk
    have e2 := rest_step hk
    rw [e] at e1 e2
    simp only at e1 e2
    rw [hd] at e1 e2
    rw [e1, e2, (skipped m).1, (skipped m).2]
    exact ⟨rfl, rfl⟩
theorem calm_all {x : List UInt8} (h : ∀ c ∈ x, c ≠ 165) : itemsB x = [] ∧ restB x = [] := by
  have := calm_app x [] h
  rw [List.append_nil] at this
  rw [this.1, this.2]
  exact ⟨items_nil, rest_nil⟩
theorem skip_all : ∀ (x : List UInt8), skipN x = x.length → ∀ c ∈ x, c ≠ 165
  | [], _, c, hc => by cases hc
  | d :: x, h, c, hc => by
    rw [skipN] at h
    split at h
    · simp at h
    · rename_i hd
      rcases List.mem_cons.1 hc with rfl | hc'
      · exact hd
      · exact skip_all x (by simpa using h) c hc'

/-- what it may tell -/
theorem next_kinds (l : List UInt8) : nextB l = wait ∨ (∃ s, nextB l = ⟨1, s, 0, []⟩) ∨ (∃ s b, nextB l = ⟨2, s, 0, b⟩) ∨ ∃ c, nextB l = rej c := by
  unfold nextB
  split
  · exact .inl rfl
  split
  · exact .inr (.inl ⟨_, rfl⟩)
  split
  · exact .inl rfl
  split
  · exact .inr (.inr (.inr ⟨_, rfl⟩))
  split
  · exact .inl rfl
  unfold measB
  split
  · exact .inr (.inr (.inr ⟨_, rfl⟩))
  split
  · exact .inl rfl
  split
  · exact .inr (.inr (.inr ⟨_, rfl⟩))
  · exact .inr (.inr (.inl ⟨_, _, rfl⟩))
/-- no more items than bytes -/
theorem items_len (l : List UInt8) : (itemsB l).length ≤ l.length := by
  refine goes_ind (p := fun l => (itemsB l).length ≤ l.length) (fun l h => ?_) (fun l h ih => ?_) l.length l (Nat.le_refl _)
  · show (itemsB l).length ≤ l.length
    rw [items_wait h]; simp
  · show (itemsB l).length ≤ l.length
    have ih : (itemsB (l.drop (nextB l).size)).length ≤ (l.drop (nextB l).size).length := ih
    have := next_size l h
    have h1 : (itemsOf (nextB l)).length ≤ 1 := by
      unfold itemsOf
      split
      · simp
      · split <;> simp
    rw [items_step h, List.length_append]
    rw [List.length_drop] at ih
    omega
/-- how it goes on, by what is told -/
theorem goes_on {I0 done : List I} {R0 r : List UInt8} {f : F} (h1 : I0 = done ++ itemsB r) (h2 : R0 = restB r) (hf : nextB r = f) (hk : f.kind ≠ 0) :
    1 ≤ f.size ∧ f.size ≤ r.length ∧ I0 = (done ++ itemsOf f) ++ itemsB (r.drop f.size) ∧ R0 = restB (r.drop f.size) := by
  subst hf
  have := next_size r hk
  exact ⟨this.1, this.2, by rw [h1, items_step hk, List.append_assoc], by rw [h2, rest_step hk]⟩

/-- however bytes are cut -/
theorem cut_app (m x : List UInt8) : itemsB (x ++ m) = itemsB x ++ itemsB (restB x ++ m) ∧ restB (x ++ m) = restB (restB x ++ m) := by
  refine goes_ind (p := fun x => itemsB (x ++ m) = itemsB x ++ itemsB (restB x ++ m) ∧ restB (x ++ m) = restB (restB x ++ m)) (fun x h => ?_) (fun x h ih => ?_) x.length x (Nat.le_refl _)
  · show itemsB (x ++ m) = itemsB x ++ itemsB (restB x ++ m) ∧ restB (x ++ m) = restB (restB x ++ m)
    rw [items_wait h, rest_wait h]
    exact ⟨rfl, rfl⟩
  · show itemsB (x ++ m) = itemsB x ++ itemsB (restB x ++ m) ∧ restB (x ++ m) = restB (restB x ++ m)
    have ih : itemsB (x.drop (nextB x).size ++ m) = itemsB (x.drop (nextB x).size) ++ itemsB (restB (x.drop (nextB x).size) ++ m) ∧ restB (x.drop (nextB x).size ++ m) = restB (restB (x.drop (nextB x).size) ++ m) := ih
    have hs := next_size x h
    have hg := next_goes x m
    have hd : (x ++ m).drop (nextB x).size = x.drop (nextB x).size ++ m := List.drop_append_of_le_length hs.2
    by_cases h1 : (nextB x).kind = 1
    · have hne : x.length ≠ 0 := by omega
      have h0 : x.getD 0 0 ≠ 165 := by
        intro h0
        have hw : ∀ f, nextB x = f → f.kind ≠ 1 → False := fun f e hf => hf (e ▸ h1)
        unfold nextB at hw
        rw [if_neg hne, if_neg (by simpa using h0)] at hw
        by_cases g1 : x.length = 1
        · rw [if_pos g1] at hw; exact hw _ rfl (by simp [wait])
        rw [if_neg g1] at hw
        by_cases g2 : x.getD 1 0 ≠ 1
        · rw [if_pos g2] at hw; exact hw _ rfl (by simp [rej])
        rw [if_neg g2] at hw
        by_cases g3 : x.length = 2
        · rw [if_pos g3] at hw; exact hw _ rfl (by simp [wait])
        rw [if_neg g3] at hw
        refine hw _ rfl ?_
        unfold measB
        split
        · simp [rej]
        split
        · simp [wait]
        split
        · simp [rej]
        · simp
      have e := next_calm hne h0
      rcases Nat.lt_or_ge (skipN x) x.length with hlt | hge
      · -- the mark stands among them
        have e2 : nextB (x ++ m) = ⟨1, skipN x, 0, []⟩ := by
          rw [next_calm (by rw [List.length_append]; omega) (by rw [getD_app _ _ _ (by omega)]; exact h0)]
          rcases (skip_add x m).2 with h' | h'
          · rw [h']
          · omega
        have hk2 : (nextB (x ++ m)).kind ≠ 0 := by rw [e2]; simp
        have s1 := items_step h
        have s2 := rest_step h
        have s3 := items_step hk2
        have s4 := rest_step hk2
        rw [e] at s1 s2 hd ih
        rw [e2] at s3 s4
        simp only at s1 s2 s3 s4 hd ih
        rw [hd] at s3 s4
        rw [s1, s2, s3, s4, ih.1, ih.2]
        exact ⟨by simp [itemsOf], rfl⟩
      · have hc := skip_all x (by have := skip_le x; omega)
        rw [(calm_app x m hc).1, (calm_app x m hc).2, (calm_all hc).1, (calm_all hc).2]
        exact ⟨rfl, rfl⟩
    · have e2 := hg.2.2.2 h h1
      have hk2 : (nextB (x ++ m)).kind ≠ 0 := by rw [e2]; exact h
      have s3 := items_step hk2
      have s4 := rest_step hk2
      rw [e2, hd] at s3 s4
      rw [items_step h, rest_step h, s3, s4, ih.1, ih.2]
      exact ⟨by simp, rfl⟩

theorem items_app (x m : List UInt8) : itemsB (x ++ m) = itemsB x ++ itemsB (restB x ++ m) := (cut_app m x).1
theorem rest_app (x m : List UInt8) : restB (x ++ m) = restB (restB x ++ m) := (cut_app m x).2
/-- a frame comes as it was put -/
theorem put_app (l m : List UInt8) (h : l.length ≤ 32) : itemsB (putB l ++ m) = ⟨0, l⟩ :: itemsB m ∧ restB (putB l ++ m) = restB m := by
  have e := next_put l m h
  have hk : (nextB (putB l ++ m)).kind ≠ 0 := by rw [e]; simp
  have hd : (putB l ++ m).drop (l.length + 5) = m := List.drop_left' (putB_len l)
  have s1 := items_step hk
  have s2 := rest_step hk
  rw [e] at s1 s2
  simp only at s1 s2
  rw [hd] at s1 s2
  rw [s1, s2]
  exact ⟨rfl, rfl⟩
/-- behind 36 bytes that are no mark nothing is left -/
theorem calm_over (x y : List UInt8) (hy : ∀ c ∈ y, c ≠ 165) (hl : 36 ≤ y.length) : restB (x ++ y) = [] := by
  obtain ⟨h1, h2⟩ := rest_drop (x ++ y)
  have h3 := rest_small (x ++ y)
  have hk := rest_kind (x ++ y)
  rcases Classical.em ((restB (x ++ y)).length = 0) with h0 | h0
  · exact List.eq_nil_of_length_eq_zero h0
  · exfalso
    have hh := wait_head hk h0
    rw [← h2] at hh
    rw [List.length_append] at h1 hh
    rw [List.getD_eq_getElem?_getD, List.getElem?_drop, List.getElem?_append_right (by omega)] at hh
    have hlt : x.length + y.length - (restB (x ++ y)).length + 0 - x.length < y.length := by omega
    rw [List.getElem?_eq_getElem hlt] at hh
    exact hy _ (List.getElem_mem hlt) hh
end Go.Proofs.Ytfgneepilofkeaa.stream
