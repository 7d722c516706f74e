/-
  A ROW OF SMALL NUMBERS THAT CAME IN (slices of uint16).
-/
import Derived.Test.YtahfhanibiaimaaArgs
namespace Go.Proofs.Ytahfhanibiaimaa.window
open Go.RowKit Go.Proofs.Ytahfhanibiaimaa.given
set_option linter.unusedVariables false

theorem wf16 {n : Int} (h : (Lit.int .u16 n).wf = true) : 0 ≤ n ∧ n < 65536 := by
  have h' : 0 ≤ n ∧ n ≤ 65535 := by simpa [Lit.wf, IntKind.min, IntKind.max, IntKind.signed, IntKind.bits] using h
  omega
theorem wf32 {n : Int} (h : (Lit.int .u32 n).wf = true) : 0 ≤ n ∧ n < 4294967296 := by
  have h' : 0 ≤ n ∧ n ≤ 4294967295 := by simpa [Lit.wf, IntKind.min, IntKind.max, IntKind.signed, IntKind.bits] using h
  omega
/-- each of its numbers -/
theorem nums_16 {w : World} {a : Option Addr} {len cap : Nat} {zs : List Int} (h : Nums .u16 w a len cap zs) : ∃ z : Nat → Int, ∀ i, i < len → ∃ b o, a = some ⟨b, o, none⟩ ∧ b < w.heap.size ∧ w.cell? ⟨b, o + i, none⟩ = some (.int .u16 (z i)) ∧ 0 ≤ z i ∧ z i < 65536 := by
  rcases h with ⟨rfl, rfl, rfl, rfl⟩ | ⟨x, rfl, hl, hm, hz, hc, hw⟩
  · exact ⟨fun _ => 0, fun i hi => by omega⟩
  · refine ⟨fun i => zs.getD i 0, fun i hi => ?_⟩
    have h0 := hc 0 (by omega)
    obtain ⟨b, o, sp⟩ := x
    have hsp : sp = none ∧ b < w.heap.size := by
      rw [show (Addr.mk b o sp).add 0 = Addr.mk b o sp by simp [Addr.add]] at h0
      unfold World.cell? at h0
      split at h0
      · rename_i hb
        refine ⟨?_, (Array.getElem?_eq_some_iff.1 hb).1⟩
        cases sp
        · rfl
        · simp at h0
      · cases h0
    obtain ⟨rfl, hb⟩ := hsp
    refine ⟨b, o, rfl, hb, ?_, ?_⟩
    · have := hc i (by omega)
      unfold Addr.add at this
      split at this
      · rename_i h0'; subst h0'; simpa using this
      · exact this
    · have hm : zs.getD i 0 ∈ zs := by
        rw [List.getD_eq_getElem?_getD, List.getElem?_eq_getElem (by omega)]
        exact List.getElem_mem _
      exact wf16 (hw _ hm)
end Go.Proofs.Ytahfhanibiaimaa.window
