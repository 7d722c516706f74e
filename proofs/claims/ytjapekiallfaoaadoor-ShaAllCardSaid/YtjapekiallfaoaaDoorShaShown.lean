/-
  THE HEAD OF THE STATEMENTS OF sha, and what they cut of what they are handed.
-/
import Derived.Test.YtjapekiallfaoaaDoorShaRSum
import Derived.Test.YtjapekiallfaoaaDoorSeen
import Derived.Below
import Derived.Lib.SlBytesConst
import Derived.Lib.LaidTab
namespace Go.Proofs.YtjapekiallfaoaaDoor.sha
open Go.RowKit Go.Proofs.YtjapekiallfaoaaDoor.octets Go.Proofs.YtjapekiallfaoaaDoor.given
set_option linter.unusedVariables false
theorem sum_at (A : Option Addr) (n cap : Nat) (l : List UInt8) (w : World) (hn : l.length = n) (hl : n ≤ 1048576) (hr : Seen w A l) (hK : Table w) :
    Calls Tryd.prog 8 #[.slice A n cap] w fun e w' => e = .returned (.agg (vals (sumB l)).toArray) ∧ Below w.heap.size w w' := by subst hn; exact sum_ok A cap l w hl hr hK
theorem rsum_at (A : Option Addr) (n cap : Nat) (l : List UInt8) (w : World) (hn : l.length = n) (hl : n ≤ 1048576) (hr : Seen w A l) :
    Calls Tryd.prog 9 #[.slice A n cap] w fun e w' => e = .returned (.agg (vals (sumB l)).toArray) ∧ Below w.heap.size w w' := by subst hn; exact rsum_ok A cap l w hl hr
theorem pad_at (A : Option Addr) (n cap : Nat) (l : List UInt8) (P : Nat) (w : World) (hn : l.length = n) (hl : n ≤ 1048576) (hr : Seen w A l) (hP : padN n = P) :
    Calls Tryd.prog 10 #[.slice A n cap] w fun e w' => ∃ b, e = .returned (.slice (some ⟨b, 0, none⟩) P P) ∧ w.heap.size ≤ b ∧ Held w' b P (padL l) ∧ Below w.heap.size w w' := by subst hn; exact pad_ok A cap l P w hl hr hP
theorem rpad_at (A : Option Addr) (n cap : Nat) (l : List UInt8) (P : Nat) (w : World) (hn : l.length = n) (hl : n ≤ 1048576) (hr : Seen w A l) (hP : padN n = P) :
    Calls Tryd.prog 11 #[.slice A n cap] w fun e w' => ∃ v, e = .returned v ∧ Own w' w.heap.size v (padL l) ∧ Below w.heap.size w w' := by subst hn; exact rpad_ok A cap l P w hl hr hP
set_option maxHeartbeats 400000 in
theorem few_ok (A : Option Addr) (n cap m : Nat) (w : World) (hc : n ≤ cap) (hm : m = min n 300) :
    Calls Tryd.prog 7 #[.slice A n cap] w fun e w' => e = .returned (.slice A m cap) ∧ w = w' := by
  have hs := slice_h A n cap m (by omega)
  have em : min (n : Int) 300 = (m : Int) := by omega
  clear hm
  go_enter Tryd.func7, Tryd.ntmps7
  go_wp2
  go_ret
  exact ⟨rfl, rfl⟩
set_option maxRecDepth 100000 in
theorem sum_none : (sumB []).take 4 = [227, 176, 196, 66] := by decide +kernel
set_option maxRecDepth 100000 in
theorem sum_abc : (sumB [97, 98, 99]).take 4 = [186, 120, 22, 191] := by decide +kernel
theorem four_cells {w : World} {b : Nat} {l : List UInt8} {c0 c1 c2 c3 : UInt8} (h : Arr w b (vals l)) (e : l.take 4 = [c0, c1, c2, c3]) :
    w.cell? ⟨b, 0, none⟩ = some (.int .u8 (c0.toNat : Int)) ∧ w.cell? ⟨b, 1, none⟩ = some (.int .u8 (c1.toNat : Int)) ∧ w.cell? ⟨b, 2, none⟩ = some (.int .u8 (c2.toNat : Int)) ∧ w.cell? ⟨b, 3, none⟩ = some (.int .u8 (c3.toNat : Int)) := by
  obtain ⟨r, rfl⟩ : ∃ r, l = c0 :: c1 :: c2 :: c3 :: r := ⟨l.drop 4, by rw [← List.take_append_drop 4 l, e]; rfl⟩
  exact ⟨h.cell rfl, h.cell rfl, h.cell rfl, h.cell rfl⟩
theorem seen_lit (w : World) (l : List UInt8) (C : Array Value) (fz : Nat × Nat) (e : C = (vals l).toArray) : Seen (w.alloc (.cells C 5 fz)) (some ⟨w.heap.size, 0, none⟩) l := by
  subst e
  intro _
  refine ⟨w.heap.size, 0, rfl, by simp, fun i hi => ?_⟩
  have hb : (w.alloc (.cells (vals l).toArray 5 fz)).heap[w.heap.size]? = some (.cells (vals l).toArray 5 fz) := Go.Deep.blk_alloc_new _ _
  have hv := vals_get hi
  rw [Nat.zero_add]
  unfold World.cell?
  simp only [hb]
  simpa using hv
set_option maxRecDepth 100000 in
set_option maxHeartbeats 1000000 in
theorem shown_any (w : World) (hK : Table w) : Calls Tryd.prog 6 #[] w fun e w' => e = .returned (.bool true) ∧ Below w.heap.size w w' := by
  go_enter Tryd.func6, Tryd.ntmps6
  go_wp2_with fail
  (with_reducible refine (sum_at _ 0 0 [] _ rfl (by decide) (Seen.none_ _ _) hK).mono ?_)
  rintro e w1 ⟨rfl, hw1⟩
  have hz1 := hw1.size
  have hF0 := Arr.new w1 z32 28
  go_wp2_with (guard_target =~ wpList _ _ _ (Oper.mk _ (Op.store _ _ _) _ _ _ _ :: _) _ _; refine wpList_store_arr (cs' := vals (sumB [])) 32 rfl rfl rfl rfl hF0 (by kernel_rfl) rfl (by rw [vals_len, sumB_len]) (vals_one _) ?_)
  intro w2 hA2 ho2 hb2 hs2
  have hw2 := (hw1.alloc hz1 (.cells z32.toArray 28)).trans (hb2.mono hz1)
  have hz2 := hw2.size
  clear hF0 ho2 hb2 hs2 hw1
  generalize w1.heap.size = ga at hA2 hz1 ⊢
  have hS := seen_lit w2 [97, 98, 99] #[.int .u8 97, .int .u8 98, .int .u8 99] (3, 4) rfl
  have hw2a := hw2.alloc hz2 (.cells #[.int .u8 97, .int .u8 98, .int .u8 99] 5 (3, 4))
  have hA2a := hA2.alloc (.cells #[.int .u8 97, .int .u8 98, .int .u8 99] 5 (3, 4))
  have hT := hK.since hw2a
  clear hA2 hw2
  have kc := fun (w : World) (C : Array Value) (n c : Nat) => Lib.run_convert_bytes_const (P := Tryd.prog) w 22 5 C n c Tryd.underlying22 Tryd.underlying5
  go_wp2_with fail
  (with_reducible refine (sum_at _ 3 3 [97, 98, 99] _ rfl (by decide) hS hT).mono ?_)
  rintro e w3 ⟨rfl, hw3⟩
  have hA3 := hA2a.since hw3
  have hw3' := hw2a.trans (hw3.mono hw2a.size)
  have hz3 := hw3'.size
  have hga := hA3.lt
  clear hA2a hw2a hw3 hS hT
  have hF0 := Arr.new w3 z32 28
  go_wp2_with (guard_target =~ wpList _ _ _ (Oper.mk _ (Op.store _ _ _) _ _ _ _ :: _) _ _; refine wpList_store_arr (cs' := vals (sumB [97, 98, 99])) 32 rfl rfl rfl rfl hF0 (by kernel_rfl) rfl (by rw [vals_len, sumB_len]) (vals_one _) ?_)
  intro w4 hB4 ho4 hb4 hs4
  have hw4 := (hw3'.alloc hz3 (.cells z32.toArray 28)).trans (hb4.mono hz3)
  have hA4 := (hA3.alloc (.cells z32.toArray 28)).of_block (ho4 _ (by omega))
  obtain ⟨a0, a1, a2, a3⟩ := four_cells hA4 sum_none
  obtain ⟨b0, b1, b2, b3⟩ := four_cells hB4 sum_abc
  have e1 : ((227 : UInt8).toNat : Int) = 227 ∧ ((176 : UInt8).toNat : Int) = 176 ∧ ((196 : UInt8).toNat : Int) = 196 ∧ ((66 : UInt8).toNat : Int) = 66 := by decide
  have e2 : ((186 : UInt8).toNat : Int) = 186 ∧ ((120 : UInt8).toNat : Int) = 120 ∧ ((22 : UInt8).toNat : Int) = 22 ∧ ((191 : UInt8).toNat : Int) = 191 := by decide
  rw [e1.1] at a0
  rw [e1.2.1] at a1
  rw [e1.2.2.1] at a2
  rw [e1.2.2.2] at a3
  rw [e2.1] at b0
  rw [e2.2.1] at b1
  rw [e2.2.2.1] at b2
  rw [e2.2.2.2] at b3
  clear e1 e2 hA3 hw3' hF0 ho4 hb4 hs4 hA4 hB4
  go_wp2
  go_ret
  exact ⟨rfl, hw4⟩
/-- what the row tells of the program's table -/
theorem table_of {W : World} (hL : laidMet Tryd.prog [("sidestick/sha.roots", Rows.laid_sidestick_sha_roots)] W) : Table W := by
  have hL' : laidMet Tryd.prog [("sidestick/sha.roots", Lib.tabData .u32 (roots.map fun x => (x.toNat : Int)))] W := hL
  have hg : Tryd.prog.globalNamed "sidestick/sha.roots" = some 0 := by kernel_rfl
  have hT := Lib.tabIs_of_head (g := 0) (t := 39) (e := 23) (n := 64) hg (by kernel_rfl) Tryd.underlying39 Tryd.underlying23 (by kernel_rfl) (by kernel_rfl) hL'
  have hc : ∀ i, i < 64 → W.cell? ⟨0, i, none⟩ = some (.int .u32 ((roots.getD i 0).toNat : Int)) := fun i hi => by
    have := hT.cell hg i (by simp [roots_len]; exact hi)
    rw [this]
    have hl : i < roots.length := by rw [roots_len]; exact hi
    simp [List.getD_eq_getElem?_getD, List.getElem?_eq_getElem hl]
  exact ⟨World.block_lt_of_cell? W _ (hc 0 (by decide)), hc⟩
end Go.Proofs.YtjapekiallfaoaaDoor.sha
