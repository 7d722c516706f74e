/-
  A 'Turned' THAT CAME IN: its bytes, and two numbers.
-/
import Derived.Test.YtmgfgbdfmdblhaaDoorArgs
import Derived.Deep.Strs
namespace Go.Proofs.YtmgfgbdfmdblhaaDoor.sealed
open Go.RowKit Go.Deep Go.WideShapes Go.ChangeShapes Go.Proofs.YtmgfgbdfmdblhaaDoor.given
set_option linter.unusedVariables false
theorem turned_came {w : World} {base : Nat} {v : Value} (h : Value.okWide Tryd.prog w .any base 25 v) (hr : CameIn Tryd.prog w 25 v) :
    ∃ a len cap zs x y, v = .agg #[.slice a len cap, .int .u8 x, .int .u8 y] ∧ Nums .u8 w a len cap zs ∧ (Lit.int .u8 x).wf = true ∧ (Lit.int .u8 y).wf = true := by
  obtain ⟨cs, rfl, hn, hk⟩ := agg_cells (ts := [23, 5, 5]) (Or.inr ⟨_, Tryd.underlying25⟩) (by kernel_rfl) (by kernel_rfl) h
  match cs, hn with
  | ⟨[c0, c1, c2]⟩, _ =>
    obtain ⟨x0, i0, k0⟩ := hk 0 c0 rfl
    obtain ⟨x1, i1, k1⟩ := hk 1 c1 rfl
    obtain ⟨x2, i2, k2⟩ := hk 2 c2 rfl
    obtain rfl : 23 = x0 := by injection i0
    obtain rfl : 5 = x1 := by injection i1
    obtain rfl : 5 = x2 := by injection i2
    obtain ⟨x, rfl, hx⟩ := int_of_cell Tryd.underlying5 k1
    obtain ⟨y, rfl, hy⟩ := int_of_cell Tryd.underlying5 k2
    have hs : ∃ a len cap, c0 = .slice a len cap := by
      simp only [Cell.okWide, Tryd.underlying23] at k0
      cases c0 <;> simp_all [Cell.ok]
    obtain ⟨a, len, cap, rfl⟩ := hs
    obtain ⟨H, enc, d, p, fuel, hf⟩ := hr
    obtain ⟨y0, y1, y2, n, _, _, h0, _, _⟩ := trod_struct3 Tryd.underlying25 hf
    have hc : Tryd.prog.cellsOf 23 = 1 := by kernel_rfl
    rw [hc] at h0
    obtain ⟨zs, hz⟩ := nums_trod Tryd.underlying23 Tryd.underlying5 (by kernel_rfl) h0
    exact ⟨a, len, cap, zs, x, y, rfl, hz, hx, hy⟩
end Go.Proofs.YtmgfgbdfmdblhaaDoor.sealed
