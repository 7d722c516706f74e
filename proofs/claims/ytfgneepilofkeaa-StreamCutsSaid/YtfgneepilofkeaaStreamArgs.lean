/-
  PIECES THAT CAME IN, as lists; and how a stream stands behind pieces.
-/
import Derived.Test.YtfgneepilofkeaaStreamShown
import Derived.Test.YtfgneepilofkeaaArgRows
namespace Go.Proofs.Ytfgneepilofkeaa.stream
open Go.RowKit Go.Proofs.Ytfgneepilofkeaa.octets Go.Proofs.Ytfgneepilofkeaa.frame Go.Proofs.Ytfgneepilofkeaa.given
set_option linter.unusedVariables false
set_option linter.unusedSimpArgs false

theorem pieces_came {w : World} {a : Option Addr} {len cap : Nat} {A : Nat → Option Addr} {L C : Nat → Nat} {Z : Nat → List Int} (h : NumRows .u8 w a len cap A L C Z) :
    ∃ (Ls : List (List UInt8)) (vs : List Value), Ls.length = len ∧ Grid w a vs ∧ Ps w Ls vs ∧ len ≤ cap := by
  rcases h with ⟨rfl, rfl, rfl⟩ | ⟨x, rfl, hl, hm, hr⟩
  · exact ⟨[], [], rfl, fun h => absurd rfl h, ⟨rfl, fun i hi => by simp at hi⟩, Nat.le_refl _⟩
  · have each : ∀ r, r < len → ∃ l : List UInt8, l.length = L r ∧ Seen w (A r) l ∧ L r ≤ C r := fun r h => seen_nums (hr r (by omega)).2
    obtain ⟨f, hf⟩ := Go.Deep.choose_lt each
    refine ⟨(List.range len).map f, (List.range len).map fun r => .slice (A r) (L r) (C r), by simp, ?_, ⟨by simp, fun i hi => ?_⟩, hl⟩
    · intro hne
      have hpos : 0 < len := by
        rcases Nat.eq_zero_or_pos len with h0 | h0
        · subst h0; simp at hne
        · exact h0
      have h0 := (hr 0 (by omega)).1
      obtain ⟨b, o, sp⟩ := x
      have hsp : sp = none ∧ b < w.heap.size := by
        rw [show (Addr.mk b o sp).add 0 = Addr.mk b o sp by simp [Addr.add]] at h0
        unfold World.cell? at h0
        split at h0
        · rename_i hb
          refine ⟨?_, (Array.getElem?_eq_some_iff.1 hb).1⟩
          cases sp
          · rfl
          · simp at h0
        · cases h0
      obtain ⟨rfl, hb⟩ := hsp
      refine ⟨b, o, rfl, hb, fun i hi => ?_⟩
      have hi' : i < len := by simpa using hi
      have hci := (hr i (by omega)).1
      have e : (Addr.mk b o none).add i = ⟨b, o + i, none⟩ := by unfold Addr.add; split <;> simp_all
      rw [e] at hci
      rw [hci]
      simp
    · have hi' : i < len := by simpa using hi
      obtain ⟨h1, h2, h3⟩ := hf i hi'
      refine ⟨A i, C i, ?_, ?_, ?_⟩
      · simp [hi', h1]
      · simp [h1, h3]
      · simpa using h2

theorem quiet_eq {f : FuncId} {args : Array Value} {w : World} {n : Nat} {v : Value} (h : Calls Try.prog f args (w.drewN n) fun e w' => e = .returned v ∧ w.drewN n = w') :
    Calls Try.prog f args (w.drewN n) fun e w'' => e = .returned v ∧ ∃ m, w'' = w.drewN m := h.mono fun _ _ ⟨he, hm⟩ => ⟨he, n, hm.symm⟩
/-- the pieces up to one, and that one -/
theorem rest_flat (L : List (List UInt8)) (i : Nat) (h : i < L.length) : restB (restB (L.take i).flatten ++ L[i]) = restB (L.take (i + 1)).flatten := by rw [← flat_step L i h, ← rest_app]
theorem items_flat (L : List (List UInt8)) (i : Nat) (h : i < L.length) : itemsB (L.take i).flatten ++ itemsB (restB (L.take i).flatten ++ L[i]) = itemsB (L.take (i + 1)).flatten := by rw [← flat_step L i h, ← items_app]
/-- a slice's row grows, a stream stays -/
theorem Keeps.grown_other {w w' : World} {g : Nat} {B : Nat → Prop} (h : w.grownBy w' (some g)) (hB : ∀ b, b < w.heap.size → B b → b ≠ g) : Keeps B w w' := Keeps.of_grown h fun b hl hb e => hB b hl hb (by injection e)
theorem Ps.at_ {w : World} {L : List (List UInt8)} {vs : List Value} (h : Ps w L vs) {A : Option Addr} (hg : Grid w A vs) (i : Nat) (hi : i < L.length) : ∃ b o A' c, A = some ⟨b, o, none⟩ ∧ b < w.heap.size ∧ w.cell? ⟨b, o + i, none⟩ = some (.slice A' L[i].length c) ∧ L[i].length ≤ c ∧ Seen w A' L[i] := by
  obtain ⟨A1, c1, q1, q2, q3⟩ := h.2 i hi
  obtain ⟨b, o, rfl, hb, hcell⟩ := hg.cell q1
  exact ⟨b, o, A1, c1, rfl, hb, hcell, q2, q3⟩
/-- those that are no mark -/
def calmL (l : List UInt8) : List UInt8 := l.filter fun c => c ≠ 165
theorem calm_ne (l : List UInt8) : ∀ c ∈ calmL l, c ≠ 165 := fun c h => by simpa [calmL] using (List.mem_filter.1 h).2
theorem calm_len (l : List UInt8) : (calmL l).length ≤ l.length := List.length_filter_le _ _
theorem calm_step (l : List UInt8) (i : Nat) (h : i < l.length) (c : UInt8) (hc : l[i] = c) : (c ≠ 165 → calmL (l.take (i + 1)) = calmL (l.take i) ++ [c]) ∧ (c = 165 → calmL (l.take (i + 1)) = calmL (l.take i)) := by
  subst hc
  rw [List.take_succ_eq_append_getElem h, calmL, calmL, List.filter_append]
  refine ⟨fun hc => ?_, fun hc => ?_⟩
  · rw [List.filter_cons, if_pos (by simpa using hc)]; rfl
  · rw [List.filter_cons, if_neg (by simpa using hc)]; simp
end Go.Proofs.Ytfgneepilofkeaa.stream
