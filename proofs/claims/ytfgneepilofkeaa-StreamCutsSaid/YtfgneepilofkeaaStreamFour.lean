/-
  TWO STREAMS AND TWO ROWS OF ITEMS IN MEMORY AT ONCE: none is touched by what is done to another.
-/
import Derived.Test.YtfgneepilofkeaaStreamArgs
namespace Go.Proofs.Ytfgneepilofkeaa.stream
open Go.RowKit Go.Proofs.Ytfgneepilofkeaa.octets Go.Proofs.Ytfgneepilofkeaa.frame
set_option linter.unusedVariables false

/-- not the other stream, not the rows -/
def BS (E : Nat → Prop) (g : Nat) (u v : Value) (b : Nat) : Prop := E b ∧ b ≠ g ∧ u.ownBlock ≠ some b ∧ v.ownBlock ≠ some b
/-- not the streams, not the other row -/
def BI (E : Nat → Prop) (g g' : Nat) (v : Value) (b : Nat) : Prop := E b ∧ b ≠ g ∧ b ≠ g' ∧ v.ownBlock ≠ some b
structure Four (W : World) (E : Nat → Prop) (lo gs gt : Nat) (va vb : Value) (R S : List UInt8) (M K : List I) : Prop where
  s : Str W (BS E gt va vb) gs R
  t : Str W (BS E gs va vb) gt S
  a : Its W (BI E gs gt vb) va M
  b : Its W (BI E gs gt va) vb K
  los : lo ≤ gs
  lot : lo ≤ gt
  loa : ∀ k, va.ownBlock = some k → lo ≤ k
  lob : ∀ k, vb.ownBlock = some k → lo ≤ k

theorem Four.swap {W : World} {E : Nat → Prop} {lo gs gt : Nat} {va vb : Value} {R S : List UInt8} {M K : List I} (h : Four W E lo gs gt va vb R S M K) : Four W E lo gt gs vb va S R K M :=
  ⟨h.t.mono fun b _ q => ⟨q.1, q.2.1, q.2.2.2, q.2.2.1⟩, h.s.mono fun b _ q => ⟨q.1, q.2.1, q.2.2.2, q.2.2.1⟩, h.b.mono fun b _ q => ⟨q.1, q.2.2.1, q.2.1, q.2.2.2⟩, h.a.mono fun b _ q => ⟨q.1, q.2.2.1, q.2.1, q.2.2.2⟩, h.lot, h.los, h.lob, h.loa⟩
theorem Four.keep {W W' : World} {E E' : Nat → Prop} {lo gs gt : Nat} {va vb : Value} {R S : List UInt8} {M K : List I} (h : Four W E lo gs gt va vb R S M K) (hk : Keeps E W W') (hE : ∀ b, b < W.heap.size → E b → E' b) : Four W' E' lo gs gt va vb R S M K :=
  ⟨h.s.keep (hk.mono fun b _ q => q.1) fun b hl q => ⟨hE b hl q.1, q.2⟩, h.t.keep (hk.mono fun b _ q => q.1) fun b hl q => ⟨hE b hl q.1, q.2⟩, h.a.keep (hk.mono fun b _ q => q.1) fun b hl q => ⟨hE b hl q.1, q.2⟩, h.b.keep (hk.mono fun b _ q => q.1) fun b hl q => ⟨hE b hl q.1, q.2⟩,
    h.los, h.lot, h.loa, h.lob⟩
theorem Four.since {W W' : World} {E : Nat → Prop} {lo gs gt : Nat} {va vb : Value} {R S : List UInt8} {M K : List I} (h : Four W E lo gs gt va vb R S M K) (hb : Below W.heap.size W W') : Four W' E lo gs gt va vb R S M K := h.keep (Keeps.of_below hb) fun _ _ h => h
/-- the first stream takes -/
theorem Four.take {W W' : World} {E : Nat → Prop} {lo gs gt : Nat} {va vb : Value} {R S R' : List UInt8} {M K : List I} (h : Four W E lo gs gt va vb R S M K) (hE : ∀ b, W.heap.size ≤ b → E b) (hS : Str W' (fun b => b = gs ∨ W.heap.size ≤ b) gs R') (hg : W.grownBy W' (some gs)) :
    Four W' E lo gs gt va vb R' S M K := by
  have ls := h.s.lt
  have lt := h.t.lt
  refine ⟨hS.mono fun b hl q => ?_, h.t.keep (Keeps.grown_other hg fun b _ q => q.2.1) fun _ _ q => q, h.a.keep (Keeps.grown_other hg fun b _ q => q.2.1) fun _ _ q => q, h.b.keep (Keeps.grown_other hg fun b _ q => q.2.1) fun _ _ q => q, h.los, h.lot, h.loa, h.lob⟩
  rcases q with rfl | q
  · exact h.s.1
  · exact ⟨hE b q, by omega, fun e => by have := (h.a.lt e).2; omega, fun e => by have := (h.b.lt e).2; omega⟩
/-- what it tells may be appended to the first row -/
theorem Four.src {W W' : World} {E : Nat → Prop} {lo gs gt : Nat} {va vb v : Value} {R S : List UInt8} {M K N : List I} (h : Four W E lo gs gt va vb R S M K) (hE : ∀ b, W.heap.size ≤ b → E b) (hI : Its W' (fun b => W.heap.size ≤ b) v N) :
    ∃ A c, v = .slice A N.length c ∧ Src W' (fun b => BI E gs gt vb b ∧ va.ownBlock ≠ some b) A N := by
  obtain ⟨A, c, rfl, _, us, g1, g2⟩ := hI.src
  have ls := h.s.lt
  have lt := h.t.lt
  exact ⟨A, c, rfl, us, g1, g2.mono fun b _ q => ⟨⟨hE b q, by omega, by omega, fun e => by have := (h.b.lt e).2; omega⟩, fun e => by have := (h.a.lt e).2; omega⟩⟩
theorem Four.fresh {W : World} {E : Nat → Prop} {lo gs gt : Nat} {va vb : Value} {R S : List UInt8} {M K : List I} (h : Four W E lo gs gt va vb R S M K) (hE : E W.heap.size) : BI E gs gt vb W.heap.size :=
  ⟨hE, by have := h.s.lt; omega, by have := h.t.lt; omega, fun e => by have := (h.b.lt e).2; omega⟩
/-- the first row grows -/
theorem Four.app {W W' : World} {E : Nat → Prop} {lo gs gt : Nat} {va va' vb : Value} {R S : List UInt8} {M M' K : List I} (h : Four W E lo gs gt va vb R S M K) (hlo : lo ≤ W.heap.size) (hI : Its W' (BI E gs gt vb) va' M') (hg : W.grownBy W' va.ownBlock) (hat : va'.ownBlock = va.ownBlock ∨ va'.ownBlock = some W.heap.size) :
    Four W' E lo gs gt va' vb R S M' K := by
  have turn : ∀ b, b < W.heap.size → va.ownBlock ≠ some b → va'.ownBlock ≠ some b := fun b hl q e => by
    rcases hat with e' | e'
    · exact q (e' ▸ e)
    · rw [e'] at e; cases e; omega
  refine ⟨h.s.keep (Keeps.of_grown hg fun b _ q e => q.2.2.1 e.symm) fun b hl q => ⟨q.1, q.2.1, turn b hl q.2.2.1, q.2.2.2⟩, h.t.keep (Keeps.of_grown hg fun b _ q e => q.2.2.1 e.symm) fun b hl q => ⟨q.1, q.2.1, turn b hl q.2.2.1, q.2.2.2⟩, hI,
    h.b.keep (Keeps.of_grown hg fun b _ q e => q.2.2.2 e.symm) fun b hl q => ⟨q.1, q.2.1, q.2.2.1, turn b hl q.2.2.2⟩, h.los, h.lot, fun k e => ?_, h.lob⟩
  rcases hat with e' | e'
  · exact h.loa k (e' ▸ e)
  · rw [e'] at e; cases e; exact hlo
theorem take_cut (F : List UInt8) (at_ n : Nat) (h : at_ ≤ F.length) : F.take at_ ++ (F.drop at_).take (min (at_ + n) F.length - at_) = F.take (at_ + n) := by
  rw [List.take_add]
  congr 1
  rcases Nat.le_total (at_ + n) F.length with h1 | h1
  · rw [Nat.min_eq_left h1, Nat.add_sub_cancel_left]
  · rw [Nat.min_eq_right h1, List.take_of_length_le (by simp), List.take_of_length_le (by simp; omega)]
theorem rest_cut (F l : List UInt8) (at_ n : Nat) (h : F.take at_ ++ l = F.take (at_ + n)) : restB (restB (F.take at_) ++ l) = restB (F.take (at_ + n)) := by rw [← h, ← rest_app]
theorem items_cut (F l : List UInt8) (at_ n : Nat) (h : F.take at_ ++ l = F.take (at_ + n)) : itemsB (F.take at_) ++ itemsB (restB (F.take at_) ++ l) = itemsB (F.take (at_ + n)) := by rw [← h, ← items_app]
end Go.Proofs.Ytfgneepilofkeaa.stream
