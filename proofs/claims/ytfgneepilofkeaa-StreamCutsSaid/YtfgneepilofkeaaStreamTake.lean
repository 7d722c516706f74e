/-
  THE CONTRACTS OF stream's New, Take, Rest.
-/
import Derived.Test.YtfgneepilofkeaaStreamAll
import Derived.Test.YtfgneepilofkeaaGrow
namespace Go.Proofs.Ytfgneepilofkeaa.stream
open Go.RowKit Go.Proofs.Ytfgneepilofkeaa.octets Go.Proofs.Ytfgneepilofkeaa.frame
set_option linter.unusedVariables false
set_option linter.unusedSimpArgs false

theorem Str.cell {w : World} {B : Nat → Prop} {g : Nat} {l : List UInt8} (h : Str w B g l) {k : Nat} (hk : l.length = k) : ∃ A c, w.cell? ⟨g, 0, none⟩ = some (.slice A k c) ∧ Seen w A l ∧ k ≤ c := by
  obtain ⟨h1, v, h2, h3, h4⟩ := h
  obtain ⟨A, c, rfl, hs, hc⟩ := own_cap h3 hk
  exact ⟨A, c, by simp [World.cell?, h2], hs, hc⟩

set_option maxHeartbeats 400000 in
theorem new_ok (w : World) : Calls Try.prog 11 #[] w fun e w' => ∃ g, e = .returned (.pointer (some ⟨g, 0, none⟩)) ∧ Str w' (fun b => w.heap.size ≤ b) g [] ∧ Below w.heap.size w w' := by
  go_enter Try.func11, Try.ntmps11
  go_wp2
  go_ret
  exact ⟨_, rfl, ⟨Nat.le_refl _, .slice none 0 0, Go.Deep.blk_alloc_new _ _, Own.none_ _ _, fun k e => by cases e⟩, below_new _ _⟩

set_option maxHeartbeats 400000 in
theorem rest_ok (g m : Nat) (B : Nat → Prop) (r : List UInt8) (w : World) (hS : Str w B g r) (hm : r.length = m) :
    Calls Try.prog 15 #[.pointer (some ⟨g, 0, none⟩)] w fun e w' => e = .returned (.int .i64 (m : Int)) ∧ w = w' := by
  obtain ⟨A, c, hcell, _, _⟩ := hS.cell hm
  clear hS hm
  go_enter Try.func15, Try.ntmps15
  go_wp2
  go_ret
  exact ⟨rfl, rfl⟩

set_option maxRecDepth 100000 in
set_option maxHeartbeats 1000000 in
theorem take_ok (g : Nat) (B : Nat → Prop) (r l : List UInt8) (A : Option Addr) (n c : Nat) (w : World) (hS : Str w B g r) (hr : r.length < 37) (hl : l.length = n) (hc : n ≤ c) (hn : n ≤ 1000000) (hs : Seen w A l) :
    Calls Try.prog 12 #[.pointer (some ⟨g, 0, none⟩), .slice A n c] w fun e w' => ∃ v, e = .returned v ∧ Its w' (fun b => w.heap.size ≤ b) v (itemsB (r ++ l)) ∧ Str w' (fun b => b = g ∨ w.heap.size ≤ b) g (restB (r ++ l)) ∧ w.grownBy w' (some g) := by
  obtain ⟨n1, hn1⟩ : ∃ n1, r.length = n1 := ⟨_, rfl⟩
  obtain ⟨A1, c1, hcell, hs1, hc1⟩ := hS.cell hn1
  have hlt := hS.lt
  obtain ⟨_, v, hg, _, _⟩ := hS
  have hRd := rest_drop (r ++ l)
  obtain ⟨m, hm⟩ : ∃ m, (restB (r ++ l)).length = m := ⟨_, rfl⟩
  rw [hm, List.length_append, hn1, hl] at hRd
  generalize hI : itemsB (r ++ l) = I0
  generalize hR : restB (r ++ l) = R0 at hm hRd ⊢
  obtain ⟨hmle, hRd⟩ := hRd
  replace hRd := Lib.hid hRd
  replace hI := Lib.hid hI
  replace hR := Lib.hid hR
  replace hm := Lib.hid hm
  have t1 := hs1.alloc (.cells #[.slice A1 n1 c1, .slice A n c] 23)
  have t2 := hs.alloc (.cells #[.slice A1 n1 c1, .slice A n c] 23)
  have p1 := two_first w (.slice A1 n1 c1) (.slice A n c) 23 (0, 0)
  have p2 := two_second w (.slice A1 n1 c1) (.slice A n c) 23 (0, 0)
  have hw1 := below_new w (.cells #[.slice A1 n1 c1, .slice A n c] 23)
  replace hl := Lib.hid hl
  replace hn1' := Lib.hid hn1
  rw [hn1] at hr
  clear hn1
  go_enter Try.func12, Try.ntmps12
  go_wp2_with fail
  refine (concat_ok w.heap.size A1 A n1 c1 n c r l _ hn1'.out hl.out (by omega) (by omega) t1 t2 p1 p2 (by simp)).mono ?_
  rintro e w2 ⟨v2, rfl, ho2, hb2⟩
  have hw2 := hw1.trans (hb2.mono hw1.size)
  obtain ⟨A2, c2, rfl, hs2, hc2⟩ := own_cap ho2 (k := n1 + n) (by rw [List.length_append, hn1'.out, hl.out])
  clear p1 p2 t1 t2 ho2 hb2 hw1
  go_wp2_with fail
  refine (all_ok A2 (n1 + n) c2 (r ++ l) _ (by rw [List.length_append, hn1'.out, hl.out]) hc2 (by omega) hs2).mono ?_
  rintro e w3 ⟨v3, rfl, hit3, hb3⟩
  rw [hI.out] at hit3
  have hw3 := hw2.trans (hb3.mono hw2.size)
  have hs3 := hs2.since hb3
  obtain ⟨A4, c4, k1, k2, k3⟩ := cut_l A2 (n1 + n) c2 (n1 + n - m) (by omega) hc2 ((n1 : Int) + n - m) (by omega)
  have hs4 := k3 w3 (r ++ l) (by rw [List.length_append, hn1'.out, hl.out]) hs3
  rw [hRd.out] at hs4
  have hlen : (restB (r ++ l)).length = m := by rw [hR.out]; exact hm.out
  have ei : n1 + n - (n1 + n - m) = m := by omega
  rw [ei] at k1 k2
  rw [hlen]
  have hw3g := hw3.block g hlt
  have hz2 := hw2.size
  have hz3 := hb3.size
  clear hlen ei k3 hRd hs3 hs2 hb3 hw2
  go_wp2_with fail
  refine (clone_ok A4 m c4 R0 _ hm.out (by omega) hs4).mono ?_
  rintro e w4 ⟨v4, rfl, ho4, hb4⟩
  have hw4 := hw3.trans (hb4.mono hw3.size)
  have hit4 := hit3.since hb4
  have hg4 := (hb4.block g (Nat.lt_of_lt_of_le hlt hw3.size)).trans (hw3g.trans hg)
  have hgf : w4.frozen? ⟨g, 0, none⟩ = false := by simp [World.frozen?, hg4]
  have hgc : w4.cell? ⟨g, 0, none⟩ = some (.slice A1 n1 c1) := by
    rw [World.cell?_of_block (w := w) (a := ⟨g, 0, none⟩) (hw4.block g hlt)]; exact hcell
  obtain ⟨A5, c5, rfl, hs5, hc5⟩ := own_cap ho4 (k := m) hm.out
  clear hs5 hb4 hit3 hw3 hw3g hs4 hcell
  go_wp2
  go_ret
  have hb5 : Below g w4 (w4.setCell ⟨g, 0, none⟩ (.slice A5 m c5)) := (Below.refl g w4).setCell (Nat.le_refl _) _
  have ho5 : ∀ k, k ≠ g → (w4.setCell ⟨g, 0, none⟩ (.slice A5 m c5)).heap[k]? = w4.heap[k]? := fun k hk => Below.heap_setCell w4 ⟨g, 0, none⟩ _ k hk
  have hgn : (w4.setCell ⟨g, 0, none⟩ (.slice A5 m c5)).heap[g]? = some (.cells #[.slice A5 m c5] 44 (0, 0)) := by
    simp [World.setCell, Array.getElem?_modify, hg4]
  have hlt5 : ∀ k, (Value.slice A5 m c5).ownBlock = some k → k ≠ g := fun k e => by have := (ho4.lt e).1; omega
  refine ⟨v3, rfl, hit4.keep ⟨hb5.size, fun b hb _ => ho5 b (by omega)⟩ (fun b _ hb => by omega), ⟨.inl rfl, _, hgn, (ho4.mono (Nat.zero_le _)).of_block fun k e => ho5 k (hlt5 k e), fun k e => ⟨.inr ?_, hlt5 k e⟩⟩,
    ⟨hb5.os.trans hw4.os, hb5.tape.trans hw4.tape, hb5.output.trans hw4.output, Nat.le_trans hw4.size hb5.size, fun k hk hne => (ho5 k fun e => hne (by rw [e])).trans (hw4.block k hk)⟩⟩
  have := (ho4.lt e).1
  omega
end Go.Proofs.Ytfgneepilofkeaa.stream
