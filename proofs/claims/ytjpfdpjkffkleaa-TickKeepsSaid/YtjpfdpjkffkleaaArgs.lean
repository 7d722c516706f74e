/-
  WHAT THE ROW TELLS OF AN ARGUMENT, opened: an array of numbers, a row of numbers.
-/
import Derived.Test.YtjpfdpjkffkleaaRows
import Derived.WalkKit
import Derived.ProofKit
import Derived.OpenShut
import Derived.ShutString
import Derived.ChangeOld
import Derived.Below
namespace Go.Proofs.Ytjpfdpjkffkleaa.given
open Go.ChangeShapes Go.WideShapes Go.ChangeAt Go.RowKit

/-- a slice of numbers that came in: nil, or a row of cap cells, of which the first len are its elements -/
def Nums (k : IntKind) (w : World) (a : Option Addr) (len cap : Nat) (zs : List Int) : Prop :=
  (a = none ∧ len = 0 ∧ cap = 0 ∧ zs = []) ∨
    ∃ x, a = some x ∧ len ≤ cap ∧ cap ≤ maxLen ∧ zs.length = cap ∧ (∀ i, i < zs.length → w.cell? (x.add i) = some (.int k (zs.getD i 0))) ∧ ∀ n ∈ zs, (Lit.int k n).wf = true

theorem wf_of_has {k : IntKind} {n : Int} (h : k.has n) : (Lit.int k n).wf = true := by
  obtain ⟨h1, h2⟩ := h
  simp [Lit.wf, h1, h2]

theorem int_of_cell {P : Program} {w : World} {r : Reach} {base : Nat} {t : TypeId} {v : Value} {k : IntKind} (ht : P.underlying t = some (.int k)) (h : Cell.okWide P w r base t v) : ∃ n, v = .int k n ∧ (Lit.int k n).wf = true := by
  simp only [Cell.okWide, ht] at h
  cases v <;> simp_all [Cell.ok]
  exact wf_of_has h.2

/-- the cells of an array, or of a struct, that came in -/
theorem agg_cells {P : Program} {w : World} {r : Reach} {base : Nat} {t : TypeId} {v : Value} {ts : List TypeId} (hs : (∃ n e, P.underlying t = some (.array n e)) ∨ ∃ fs, P.underlying t = some (.struct fs)) (hc : P.cellsOf t = ts.length)
    (hts : P.cellTypes P.depth t = some ts) (h : Value.okWide P w r base t v) : ∃ cs : Array Value, v = .agg cs ∧ cs.size = ts.length ∧ ∀ (i : Nat) (u : Value), cs[i]? = some u → ∃ e, ts[i]? = some e ∧ Cell.okWide P w r base e u := by
  have h' : ∃ cs : Array Value, v = .agg cs ∧ cs.size = P.cellsOf t ∧ Row.okWide P w r base t cs := by
    rcases hs with ⟨n, e, ht⟩ | ⟨fs, ht⟩ <;> simpa only [Value.okWide, ht] using h
  obtain ⟨cs, rfl, h1, ts', h2, _, h3⟩ := h'
  rw [hts] at h2
  obtain rfl : ts = ts' := by injection h2
  refine ⟨cs, rfl, by rw [h1, hc], fun i u hi => ?_⟩
  have hlt : i < ts.length := by
    have := (Array.getElem?_eq_some_iff.1 hi).1
    omega
  obtain ⟨e, he, hk⟩ := h3 i u hi
  rw [Nat.mod_eq_of_lt hlt] at he
  exact ⟨e, he, hk⟩
theorem agg_two {P : Program} {w : World} {r : Reach} {base : Nat} {t e0 e1 : TypeId} {v : Value} (hs : (∃ n e, P.underlying t = some (.array n e)) ∨ ∃ fs, P.underlying t = some (.struct fs)) (hc : P.cellsOf t = 2)
    (hts : P.cellTypes P.depth t = some [e0, e1]) (h : Value.okWide P w r base t v) : ∃ c0 c1, v = .agg #[c0, c1] ∧ Cell.okWide P w r base e0 c0 ∧ Cell.okWide P w r base e1 c1 := by
  obtain ⟨cs, rfl, hn, hk⟩ := agg_cells (ts := [e0, e1]) hs hc hts h
  match cs, hn with
  | ⟨[c0, c1]⟩, _ =>
    obtain ⟨x0, i0, k0⟩ := hk 0 c0 rfl
    obtain ⟨x1, i1, k1⟩ := hk 1 c1 rfl
    obtain rfl : e0 = x0 := by injection i0
    obtain rfl : e1 = x1 := by injection i1
    exact ⟨c0, c1, rfl, k0, k1⟩
/-- a value that came in, the data of which could be read (structs that hold slices) -/
def CameIn (P : Program) (w : World) (t : TypeId) (v : Value) : Prop := ∃ (H : Type) (enc : TypeId × Value → H) (d : DataW H) (p : List MemPlace), DataW.Trod enc P w 0 (fun _ => true) true t v d p
/-- a slice of numbers among the cells of what came in -/
theorem nums_trod {H : Type} {enc : TypeId × Value → H} {P : Program} {w : World} {t e : TypeId} {k : IntKind} {fuel : Nat} {a : Option Addr} {len cap : Nat} {x : DataW H × List MemPlace} (ht : P.underlying t = some (.slice e)) (he : P.underlying e = some (.int k)) (hc : P.cellsOf e = 1)
    (h : DataW.trod enc P w 0 (fun _ => true) true fuel t [.slice a len cap] = some x) : ∃ zs, Nums k w a len cap zs := by
  rcases open_ints ht he hc h with ⟨hcs, _⟩ | ⟨y, l, c, zs, hcs, _, hl, hm, hz, _, hcell, hwz⟩
  · simp at hcs
    obtain ⟨rfl, rfl, rfl⟩ := hcs
    exact ⟨[], .inl ⟨rfl, rfl, rfl, rfl⟩⟩
  · simp at hcs
    obtain ⟨rfl, rfl, rfl⟩ := hcs
    exact ⟨zs, .inr ⟨_, rfl, hl, hm, by simpa using hz, hcell, hwz⟩⟩
end Go.Proofs.Ytjpfdpjkffkleaa.given
