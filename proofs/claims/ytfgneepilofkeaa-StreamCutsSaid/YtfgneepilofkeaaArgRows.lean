/-
  WHAT THE ROW TELLS OF AN ARGUMENT, opened: a row of rows of numbers; what a row of rows of bytes reads as.
-/
import Derived.Test.YtfgneepilofkeaaArgs
import Derived.Deep.Matrix
namespace Go.Proofs.Ytfgneepilofkeaa.given
open Go.ChangeShapes Go.WideShapes Go.ChangeAt Go.RowKit

/-- a slice of slices of numbers that came in: nil, or a row of cap cells, each of which is such a slice of numbers -/
def NumRows (k : IntKind) (w : World) (a : Option Addr) (len cap : Nat) (A : Nat → Option Addr) (L C : Nat → Nat) (Z : Nat → List Int) : Prop :=
  (a = none ∧ len = 0 ∧ cap = 0) ∨ ∃ x, a = some x ∧ len ≤ cap ∧ cap ≤ maxLen ∧ ∀ r, r < cap → w.cell? (x.add r) = some (.slice (A r) (L r) (C r)) ∧ Nums k w (A r) (L r) (C r) (Z r)

theorem open_num_rows {H : Type} {enc : TypeId × Value → H} {P : Program} {w : World} {base : Nat} {held : Bool} {t e q : TypeId} {k : IntKind} {fuel : Nat} {a : Option Addr} {len cap : Nat} {x : DataW H × List MemPlace} (ht : P.underlying t = some (.slice e))
    (he : P.underlying e = some (.slice q)) (hq : P.underlying q = some (.int k)) (ce : P.cellsOf e = 1) (cq : P.cellsOf q = 1) (h : DataW.trod enc P w base (fun _ => true) held fuel t [.slice a len cap] = some x) :
    ∃ A L C Z, NumRows k w a len cap A L C Z := by
  rcases Go.Deep.open_int_rows ht he hq ce cq h with ⟨hcs, _⟩ | ⟨y, l, c, A, L, C, Z, hcs, _, hl, hm, _, hr⟩
  · simp at hcs
    obtain ⟨rfl, rfl, rfl⟩ := hcs
    exact ⟨fun _ => none, fun _ => 0, fun _ => 0, fun _ => [], .inl ⟨rfl, rfl, rfl⟩⟩
  · simp at hcs
    obtain ⟨rfl, rfl, rfl⟩ := hcs
    refine ⟨A, L, C, Z, .inr ⟨y, rfl, hl, hm, fun r hlt => ?_⟩⟩
    obtain ⟨h1, h2, h3, h4, h5, h6, h7⟩ := hr r hlt
    refine ⟨h1, ?_⟩
    cases hA : A r with
    | none =>
      have h0 := h6 hA
      rw [h0] at h4 h2
      exact .inl ⟨rfl, by omega, h0, List.eq_nil_of_length_eq_zero h4⟩
    | some b => exact .inr ⟨b, rfl, h2, h3, h4, fun i hi => (h7 b hA).2 i (by omega), h5⟩
end Go.Proofs.Ytfgneepilofkeaa.given
