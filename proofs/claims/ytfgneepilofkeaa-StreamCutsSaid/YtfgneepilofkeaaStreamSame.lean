/-
  THE CONTRACT OF the reference's Same: two rows of the same items.
-/
import Derived.Test.YtfgneepilofkeaaStreamAll
import Derived.BigQuiet
import Derived.Deep.QuietTactic
namespace Go.Proofs.Ytfgneepilofkeaa.stream
open Go.RowKit Go.Proofs.Ytfgneepilofkeaa.octets Go.Proofs.Ytfgneepilofkeaa.frame
set_option linter.unusedVariables false
set_option linter.unusedSimpArgs false

/-- the cells of an item, as they are read -/
theorem Src.at_ {w : World} {B : Nat → Prop} {A : Option Addr} {L : List I} (h : Src w B A L) {i : Nat} (hi : i < L.length) : ∃ b o A' c, A = some ⟨b, o, none⟩ ∧ b < w.heap.size ∧ w.cell? ⟨b, o + i * 2, none⟩ = some (.int .i64 (L[i].code : Int)) ∧
    w.cell? ⟨b, o + i * 2 + 1, none⟩ = some (.slice A' L[i].body.length c) ∧ Seen w A' L[i].body := by
  obtain ⟨vs, h1, h2⟩ := h
  obtain ⟨A', c, g1, g2, g3⟩ := h2.get L vs i hi
  have hl := h2.len
  obtain ⟨b, o, rfl, hb, hc⟩ := h1.at_ (k := 0) (by omega)
  refine ⟨b, o, A', c, rfl, hb, ?_, ?_, g3.seen⟩
  · rw [hc (i * 2) (by omega), ← g1, List.getElem?_eq_getElem]
  · rw [Nat.add_assoc, hc (i * 2 + 1) (by omega), ← g2, List.getElem?_eq_getElem]

set_option maxRecDepth 100000 in
set_option maxHeartbeats 1000000 in
theorem same_ok (B B' : Nat → Prop) (v v' : Value) (L : List I) (w : World) (hn : L.length ≤ 1048576) (h : Its w B v L) (h' : Its w B' v' L) :
    Calls Try.prog 14 #[v, v'] w fun e w' => e = .returned (.bool true) ∧ Below w.heap.size w w' := by
  obtain ⟨A1, c1, rfl, hc1, s1⟩ := h.src
  obtain ⟨A2, c2, rfl, hc2, s2⟩ := h'.src
  clear h h'
  have at1 := fun i hi => s1.at_ (i := i) hi
  have at2 := fun i hi => s2.at_ (i := i) hi
  obtain ⟨n, hL⟩ : ∃ n, L.length = n := ⟨_, rfl⟩
  replace at1 := Lib.hid at1
  replace at2 := Lib.hid at2
  rw [hL] at hc1 hc2 hn ⊢
  replace hL := Lib.hid hL
  clear s1 s2
  go_enter Try.func14, Try.ntmps14
  go_wp2
  go_loopw [5] (fun s W => Below w.heap.size w W ∧ ∃ i : Nat, s = .int .i64 i ∧ i ≤ n) (fun s _ => n - (intOf s).toNat)
  case atStart => exact ⟨Below.refl _ _, 0, rfl, Nat.zero_le _⟩
  case round =>
    obtain ⟨hw, i, rfl, hi⟩ := hrel
    by_cases hin : i = n
    · subst hin
      go_wp2
      go_ret
      exact ⟨rfl, hw⟩
    · have hlt : i < n := by omega
      obtain ⟨b, o, A', c', rfl, hb, x1, x2, x3⟩ := at1.out i (by rw [hL.out]; exact hlt)
      obtain ⟨b2, o2, A2', c2', rfl, hb2, y1, y2, y3⟩ := at2.out i (by rw [hL.out]; exact hlt)
      obtain ⟨code, hcode⟩ : ∃ code : Int, ((L[i]'(by rw [hL.out]; exact hlt)).code : Int) = code := ⟨_, rfl⟩
      obtain ⟨k, hk⟩ : ∃ k, (L[i]'(by rw [hL.out]; exact hlt)).body.length = k := ⟨_, rfl⟩
      obtain ⟨s, hs⟩ : ∃ s : ByteArray, s = ⟨(L[i]'(by rw [hL.out]; exact hlt)).body.toArray⟩ := ⟨_, rfl⟩
      have t1 : ∀ q, (convert 23 9 (.slice A' k c')).run Try.prog (wr.drewN q) = .ok (.string s) (wr.drewN q) := fun q => ((x3.since hw).drewN q).str k c' hk s hs
      have t2 : ∀ q, (convert 23 9 (.slice A2' k c2')).run Try.prog (wr.drewN q) = .ok (.string s) (wr.drewN q) := fun q => ((y3.since hw).drewN q).str k c2' hk s hs
      have p1 : ∀ q, (wr.drewN q).cell? ⟨b, o + i * 2, none⟩ = some (.int .i64 code) := fun q => (hw.cell hb).trans (hcode ▸ x1)
      have p2 : ∀ q, (wr.drewN q).cell? ⟨b, o + i * 2 + 1, none⟩ = some (.slice A' k c') := fun q => (hw.cell hb).trans (hk ▸ x2)
      have p3 : ∀ q, (wr.drewN q).cell? ⟨b2, o2 + i * 2, none⟩ = some (.int .i64 code) := fun q => (hw.cell hb2).trans (hcode ▸ y1)
      have p4 : ∀ q, (wr.drewN q).cell? ⟨b2, o2 + i * 2 + 1, none⟩ = some (.slice A2' k c2') := fun q => (hw.cell hb2).trans (hk ▸ y2)
      replace hcode := Lib.hid hcode
      replace hk := Lib.hid hk
      replace hs := Lib.hid hs
      clear x1 x2 x3 y1 y2 y3 hin
      go_wp2_with fail
      go_quiet (fail)
      have hw' := below_drawn hw nq
      go_wp2
      go_roundw
      case rel => exact ⟨hw', i + 1, by go_num, by omega⟩
      case measure => simp [intOf]; omega
end Go.Proofs.Ytfgneepilofkeaa.stream
