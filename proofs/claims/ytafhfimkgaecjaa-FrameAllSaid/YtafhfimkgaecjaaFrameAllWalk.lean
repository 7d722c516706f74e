/-
  THE WALK OF 'FrameAll': any frame, and what stands at the beginning of any bytes, is as the document says.
-/
import Derived.Test.YtafhfimkgaecjaaFrameShown
import Derived.Test.YtafhfimkgaecjaaFrameRNext
namespace Go.Proofs.Ytafhfimkgaecjaa.walks
open Go.ChangeShapes Go.WideShapes Go.ChangeAt Go.RowKit Go.Proofs.Ytafhfimkgaecjaa.octets Go.Proofs.Ytafhfimkgaecjaa.crc Go.Proofs.Ytafhfimkgaecjaa.frame Go.Proofs.Ytafhfimkgaecjaa.given
set_option linter.unusedVariables false
set_option linter.unusedSimpArgs false

/-- what Put answers, as both do -/
def Both (w w' : World) (x : List UInt8) (e : Ending) : Prop := ∃ P k cp z, e = .returned (.tuple #[.slice P k cp, .int .i64 z]) ∧ (z = if x.length ≤ 32 then 0 else 1) ∧ (k = if x.length ≤ 32 then x.length + 5 else 0) ∧ Seen w' P (if x.length ≤ 32 then putB x else []) ∧ Below w.heap.size w w'
theorem put_both (A : Option Addr) (n c : Nat) (l : List UInt8) (w : World) (hl : l.length = n) (hs : Seen w A l) : Calls Try.prog 10 #[.slice A n c] w fun e w' => Both w w' l e := by
  by_cases h : n ≤ 32
  · refine (put_ok A n c l w hl h hs).mono ?_
    rintro e w' ⟨v, rfl, hown, hb⟩
    obtain ⟨P, cp, rfl, hsP, hcp⟩ := own_cap hown (k := l.length + 5) (putB_len l)
    exact ⟨P, _, cp, 0, rfl, by rw [if_pos (by omega)], by rw [if_pos (by omega)], by rw [if_pos (by omega)]; exact hsP, hb⟩
  · refine (put_long A n c w (by omega)).mono ?_
    rintro e w' ⟨rfl, rfl⟩
    exact ⟨none, 0, 0, 1, rfl, by rw [if_neg (by omega)], by rw [if_neg (by omega)], by rw [if_neg (by omega)]; exact Seen.none_ _ _, Below.refl _ _⟩
theorem rput_both (A : Option Addr) (n c : Nat) (l : List UInt8) (w : World) (hl : l.length = n) (hs : Seen w A l) : Calls Try.prog 11 #[.slice A n c] w fun e w' => Both w w' l e := by
  by_cases h : n ≤ 32
  · refine (rput_ok A n c l w hl h hs).mono ?_
    rintro e w' ⟨v, rfl, hown, hb⟩
    obtain ⟨P, cp, rfl, hsP, hcp⟩ := own_cap hown (k := l.length + 5) (putB_len l)
    exact ⟨P, _, cp, 0, rfl, by rw [if_pos (by omega)], by rw [if_pos (by omega)], by rw [if_pos (by omega)]; exact hsP, hb⟩
  · refine (rput_long A n c w (by omega)).mono ?_
    rintro e w' ⟨rfl, rfl⟩
    exact ⟨none, 0, 0, 1, rfl, by rw [if_neg (by omega)], by rw [if_neg (by omega)], by rw [if_neg (by omega)]; exact Seen.none_ _ _, Below.refl _ _⟩

set_option maxRecDepth 100000 in
set_option maxHeartbeats 2000000 in
theorem all_core (a b : Option Addr) (n cap m capb : Nat) (x y : List UInt8) (p q : Nat) (w : World) (hx : Seen w a x) (hy : Seen w b y) (hp : p = min n 100) (hlp : x.length = p) (hc : n ≤ cap) (hq : q = min m 100) (hlq : y.length = q) (hcb : m ≤ capb) :
    Calls Try.prog 3 #[.slice a n cap, .slice b m capb] w fun e w' => e = .returned (.bool true) ∧ Below w.heap.size w w' := by
  have hp3 : p ≤ 100 := by omega
  have hq3 : q ≤ 100 := by omega
  have hqc : q ≤ capb := by omega
  obtain ⟨z0, hz0⟩ : ∃ z : Int, (if x.length ≤ 32 then 0 else 1) = z := ⟨_, rfl⟩
  obtain ⟨k0, hk0⟩ : ∃ k : Nat, (if x.length ≤ 32 then x.length + 5 else 0) = k := ⟨_, rfl⟩
  obtain ⟨l0, hl0⟩ : ∃ l : List UInt8, (if x.length ≤ 32 then putB x else []) = l := ⟨_, rfl⟩
  have hlk : Hid (l0.length = k0) := Lib.hid (by rw [← hl0, ← hk0]; split <;> simp [putB_len])
  obtain ⟨F, hF⟩ : ∃ F, nextB y = F := ⟨_, rfl⟩
  replace hp := Lib.hid hp
  replace hlp := Lib.hid hlp
  replace hq := Lib.hid hq
  replace hlq := Lib.hid hlq
  replace hF := Lib.hid hF
  replace hz0 := Lib.hid hz0
  replace hk0 := Lib.hid hk0
  replace hl0 := Lib.hid hl0
  go_enter Try.func3, Try.ntmps3
  try dsimp only [List.append]
  go_wp2_with fail
  (with_reducible refine (shown_any _).mono ?_)
  rintro e w1 ⟨rfl, hw1⟩
  go_wp2_with fail
  (with_reducible refine (few_ok a n cap p _ hc hp.out).mono ?_)
  rintro e w' ⟨rfl, rfl⟩
  have hx1 := hx.since hw1
  go_wp2_with fail
  (with_reducible refine (put_both a p cap x _ hlp.out hx1).mono ?_)
  rintro e w2 ⟨P, k, cp, z, rfl, hz, hk, hsP, hb2⟩
  rw [hz0.out] at hz
  rw [hk0.out] at hk
  rw [hl0.out] at hsP
  subst hz hk
  have hw2 := hw1.trans (hb2.mono hw1.size)
  have hx2 := hx.since hw2
  clear hx1 hw1 hb2
  go_wp2_with fail
  (with_reducible refine (rput_both a p cap x _ hlp.out hx2).mono ?_)
  rintro e w3 ⟨Q, k9, cq, z', rfl, hz, hk, hsQ, hb3⟩
  rw [hz0.out] at hz
  rw [hk0.out] at hk
  rw [hl0.out] at hsQ
  subst hz hk
  have hw3 := hw2.trans (hb3.mono hw2.size)
  have hsP3 := hsP.since hb3
  have hy3 := hy.since hw3
  clear hx2 hw2 hb3 hsP
  go_wp2_with fail
  (with_reducible refine (few_ok b m capb q _ hcb hq.out).mono ?_)
  rintro e w' ⟨rfl, rfl⟩
  go_wp2_with fail
  (with_reducible refine (next_ok b q capb y _ hlq.out hqc (by omega) hy3).mono ?_)
  rintro e w4 ⟨v4, rfl, hv4, hb4⟩
  rw [hF.out] at hv4
  have hw4 := hw3.trans (hb4.mono hw3.size)
  have hsP4 := hsP3.since hb4
  have hsQ4 := hsQ.since hb4
  have hy4 := hy.since hw4
  clear hw3 hb4 hsP3 hsQ hy3
  go_wp2_with fail
  (with_reducible refine (few_ok b m capb q _ hcb hq.out).mono ?_)
  rintro e w' ⟨rfl, rfl⟩
  go_wp2_with fail
  (with_reducible refine (rnext_ok b q capb y _ hlq.out hqc (by omega) hy4).mono ?_)
  rintro e w5 ⟨v5, rfl, hv5, hb5⟩
  rw [hF.out] at hv5
  have hw5 := hw4.trans (hb5.mono hw4.size)
  have hsP5 := hsP4.since hb5
  have hsQ5 := hsQ4.since hb5
  have hv4' := hv4.since hb5
  clear hw4 hb5 hsP4 hsQ4 hy4 hv4
  obtain ⟨A4, c4, rfl, o4⟩ := hv4'
  obtain ⟨A5, c5, rfl, o5⟩ := hv5
  have s4 := seen_is o4
  have s5 := seen_is o5
  clear o4 o5
  go_wp2_with fail
  refine (same_at A4 A5 c4 c5 F.kind F.size F.code F.body _ s4 s5).mono ?_
  rintro e w6 ⟨rfl, hb6⟩
  have hw6 := hw5.trans (hb6.mono hw5.size)
  have hsP6 := hsP5.since hb6
  have hsQ6 := hsQ5.since hb6
  clear hw5 hb6 hsP5 hsQ5 s4 s5
  obtain ⟨s, hs⟩ : ∃ s : ByteArray, s = ⟨l0.toArray⟩ := ⟨_, rfl⟩
  have t1 := hsP6.str k9 cp hlk.out s hs
  have t2 := hsQ6.str k9 cq hlk.out s hs
  replace hs := Lib.hid hs
  go_wp2
  go_ret
  exact ⟨rfl, hw6⟩

theorem frameAll (a : Option Addr) (len cap : Nat) (z : List Int) (b : Option Addr) (lenb capb : Nat) (zb : List Int) (w : World) (w0 : Nums .u8 w a len cap z) (w1 : Nums .u8 w b lenb capb zb) :
    Calls Try.prog 3 #[.slice a len cap, .slice b lenb capb] w fun e w' => e = .returned (.bool true) ∧ Below w.heap.size w w' := by
  obtain ⟨l, rfl, hl, hcap⟩ := seen_nums w0
  obtain ⟨m, rfl, hm, hcapb⟩ := seen_nums w1
  exact all_core a b _ cap _ capb (l.take 100) (m.take 100) (min l.length 100) (min m.length 100) w (hl.take 100) (hm.take 100) rfl (by simp; omega) hcap rfl (by simp; omega) hcapb
end Go.Proofs.Ytafhfimkgaecjaa.walks
