/-
  Next AT BYTES OF WHICH IT IS KNOWN WHAT IT TELLS; slices of the call's own as the calls take them.
-/
import Derived.Test.YtfgneepilofkeaaFrameNext
namespace Go.Proofs.Ytfgneepilofkeaa.frame
open Go.RowKit Go.Proofs.Ytfgneepilofkeaa.octets Go.Proofs.Ytfgneepilofkeaa.crc
set_option linter.unusedVariables false
set_option linter.unusedSimpArgs false

theorem fv_cells {w : World} {g : Nat} {k s c : Int} {b : Value} (h : Arr w g (fv k s c b)) : w.cell? ⟨g, 0, none⟩ = some (.int .i64 k) ∧ w.cell? ⟨g, 1, none⟩ = some (.int .i64 s) ∧ w.cell? ⟨g, 2, none⟩ = some (.int .i64 c) ∧ w.cell? ⟨g, 3, none⟩ = some b :=
  ⟨h.cell rfl, h.cell rfl, h.cell rfl, h.cell rfl⟩
/-- Next at bytes of which it is known what it tells -/
theorem next_at (A : Option Addr) (n c : Nat) (l : List UInt8) (f : F) (w : World) (hl : l.length = n) (hc : n ≤ c) (hn : n ≤ 1048576) (hs : Seen w A l) (hf : nextB l = f) :
    Calls Try.prog 19 #[.slice A n c] w fun e w' => ∃ B cb, e = .returned (.agg (fv f.kind f.size f.code (.slice B f.body.length cb)).toArray) ∧ Own w' w.heap.size (.slice B f.body.length cb) f.body ∧ Below w.heap.size w w' := by
  subst hf
  refine (next_ok A n c l w hl hc hn hs).mono ?_
  rintro e w' ⟨v, rfl, ⟨B, cb, rfl, h⟩, hb⟩
  exact ⟨B, cb, rfl, h, hb⟩

theorem seen_is {w : World} {base : Nat} {A : Option Addr} {n c : Nat} {l : List UInt8} (h : Own w base (.slice A n c) l) : Seen w A l := by
  obtain ⟨A', c', e, hs⟩ := h.seen
  injection e with e1 _ _
  subst e1
  exact hs
/-- a slice of the call's own, as the calls take it -/
theorem own_cap {w : World} {base : Nat} {v : Value} {l : List UInt8} (h : Own w base v l) {k : Nat} (hk : l.length = k) : ∃ A c, v = .slice A k c ∧ Seen w A l ∧ k ≤ c := by
  subst hk
  rcases h.2 with ⟨rfl, h0⟩ | ⟨g, cap, cur, rfl, hg, hh, hnc, hr⟩
  · rw [h0]
    exact ⟨none, 0, rfl, seen_is (n := 0) (c := 0) (base := base) h, Nat.le_refl _⟩
  · exact ⟨_, cap, rfl, seen_is h, hnc⟩
end Go.Proofs.Ytfgneepilofkeaa.frame
