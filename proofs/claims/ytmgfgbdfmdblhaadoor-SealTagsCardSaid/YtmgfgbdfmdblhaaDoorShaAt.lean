/-
  WHAT OTHER LAYERS ASK OF sha: its contracts at whatever length is told, the program's table out of the row's condition, literals of bytes. No function of a statement.
-/
import Derived.Test.YtmgfgbdfmdblhaaDoorShaRSum
import Derived.Test.YtmgfgbdfmdblhaaDoorSeen
import Derived.Below
import Derived.Lib.SlBytesConst
import Derived.Lib.LaidTab
namespace Go.Proofs.YtmgfgbdfmdblhaaDoor.sha
open Go.RowKit Go.Proofs.YtmgfgbdfmdblhaaDoor.octets Go.Proofs.YtmgfgbdfmdblhaaDoor.given
set_option linter.unusedVariables false
theorem sum_at (A : Option Addr) (n cap : Nat) (l : List UInt8) (w : World) (hn : l.length = n) (hl : n ≤ 1048576) (hr : Seen w A l) (hK : Table w) :
    Calls Tryd.prog 24 #[.slice A n cap] w fun e w' => e = .returned (.agg (vals (sumB l)).toArray) ∧ Below w.heap.size w w' := by subst hn; exact sum_ok A cap l w hl hr hK
theorem pad_at (A : Option Addr) (n cap : Nat) (l : List UInt8) (P : Nat) (w : World) (hn : l.length = n) (hl : n ≤ 1048576) (hr : Seen w A l) (hP : padN n = P) :
    Calls Tryd.prog 26 #[.slice A n cap] w fun e w' => ∃ b, e = .returned (.slice (some ⟨b, 0, none⟩) P P) ∧ w.heap.size ≤ b ∧ Held w' b P (padL l) ∧ Below w.heap.size w w' := by subst hn; exact pad_ok A cap l P w hl hr hP
theorem four_cells {w : World} {b : Nat} {l : List UInt8} {c0 c1 c2 c3 : UInt8} (h : Arr w b (vals l)) (e : l.take 4 = [c0, c1, c2, c3]) :
    w.cell? ⟨b, 0, none⟩ = some (.int .u8 (c0.toNat : Int)) ∧ w.cell? ⟨b, 1, none⟩ = some (.int .u8 (c1.toNat : Int)) ∧ w.cell? ⟨b, 2, none⟩ = some (.int .u8 (c2.toNat : Int)) ∧ w.cell? ⟨b, 3, none⟩ = some (.int .u8 (c3.toNat : Int)) := by
  obtain ⟨r, rfl⟩ : ∃ r, l = c0 :: c1 :: c2 :: c3 :: r := ⟨l.drop 4, by rw [← List.take_append_drop 4 l, e]; rfl⟩
  exact ⟨h.cell rfl, h.cell rfl, h.cell rfl, h.cell rfl⟩
theorem seen_lit (w : World) (l : List UInt8) (C : Array Value) (fz : Nat × Nat) (e : C = (vals l).toArray) : Seen (w.alloc (.cells C 5 fz)) (some ⟨w.heap.size, 0, none⟩) l := by
  subst e
  intro _
  refine ⟨w.heap.size, 0, rfl, by simp, fun i hi => ?_⟩
  have hb : (w.alloc (.cells (vals l).toArray 5 fz)).heap[w.heap.size]? = some (.cells (vals l).toArray 5 fz) := Go.Deep.blk_alloc_new _ _
  have hv := vals_get hi
  rw [Nat.zero_add]
  unfold World.cell?
  simp only [hb]
  simpa using hv
/-- what the row tells of the program's table -/
theorem table_of {W : World} (hL : laidMet Tryd.prog [("sidestick/sha.roots", Rows.laid_sidestick_sha_roots)] W) : Table W := by
  have hL' : laidMet Tryd.prog [("sidestick/sha.roots", Lib.tabData .u32 (roots.map fun x => (x.toNat : Int)))] W := hL
  have hg : Tryd.prog.globalNamed "sidestick/sha.roots" = some 0 := by kernel_rfl
  have hT := Lib.tabIs_of_head (g := 0) (t := 62) (e := 56) (n := 64) hg (by kernel_rfl) Tryd.underlying62 Tryd.underlying56 (by kernel_rfl) (by kernel_rfl) hL'
  have hc : ∀ i, i < 64 → W.cell? ⟨0, i, none⟩ = some (.int .u32 ((roots.getD i 0).toNat : Int)) := fun i hi => by
    have := hT.cell hg i (by simp [roots_len]; exact hi)
    rw [this]
    have hl : i < roots.length := by rw [roots_len]; exact hi
    simp [List.getD_eq_getElem?_getD, List.getElem?_eq_getElem hl]
  exact ⟨World.block_lt_of_cell? W _ (hc 0 (by decide)), hc⟩
end Go.Proofs.YtmgfgbdfmdblhaaDoor.sha
