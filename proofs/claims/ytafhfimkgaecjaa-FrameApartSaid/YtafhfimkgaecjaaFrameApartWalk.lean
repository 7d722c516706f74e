/-
  THE WALK OF 'FrameApart': unlike bodies have unlike frames, none of which is the beginning of another; what a frame's first bytes say.
-/
import Derived.Test.YtafhfimkgaecjaaFrameShown
namespace Go.Proofs.Ytafhfimkgaecjaa.walks
open Go.ChangeShapes Go.WideShapes Go.ChangeAt Go.RowKit Go.Proofs.Ytafhfimkgaecjaa.octets Go.Proofs.Ytafhfimkgaecjaa.crc Go.Proofs.Ytafhfimkgaecjaa.frame Go.Proofs.Ytafhfimkgaecjaa.given
set_option linter.unusedVariables false
set_option linter.unusedSimpArgs false

set_option maxRecDepth 100000 in
set_option maxHeartbeats 2000000 in
theorem apart_core (a b : Option Addr) (n cap m capb : Nat) (x y : List UInt8) (p q k : Nat) (w : World) (hx : Seen w a x) (hy : Seen w b y) (hp : p = min n 32) (hlp : x.length = p) (hc : n ≤ cap) (hq : q = min m 32) (hlq : y.length = q) (hcb : m ≤ capb) (hk : k = min (p + 5) (q + 5)) :
    Calls Try.prog 7 #[.slice a n cap, .slice b m capb] w fun e w' => e = .returned (.bool true) ∧ Below w.heap.size w w' := by
  have hp3 : p ≤ 32 := by omega
  have hq3 : q ≤ 32 := by omega
  have hlP : Hid ((putB x).length = p + 5) := Lib.hid (by rw [putB_len, hlp])
  have hlQ : Hid ((putB y).length = q + 5) := Lib.hid (by rw [putB_len, hlq])
  have hkp : k ≤ p + 5 := by omega
  have hkq : k ≤ q + 5 := by omega
  have hap : Unit → ((putB x).take k = (putB y).take k ↔ x = y) := fun _ => put_apart x y (by omega) (by omega) k (by rw [hk, hlp, hlq])
  have h3 : Hid (((putB x).drop 3).take p = x) := Lib.hid (by
    rw [← hlp]
    have : (putB x).drop 3 = x ++ tailB (sumL 65535 (headB x)) := by simp [putB, headB]
    rw [this, List.take_left' rfl])
  have hb2 : Hid ((UInt8.ofNat x.length).toNat = p) := Lib.hid (by rw [small_len (by omega), hlp])
  have em : min ((p : Int) + 5) ((q : Int) + 5) = (k : Int) := by omega
  replace hk := Lib.hid hk
  replace hp := Lib.hid hp
  replace hlp := Lib.hid hlp
  replace hq := Lib.hid hq
  replace hlq := Lib.hid hlq
  go_enter Try.func7, Try.ntmps7
  try dsimp only [List.append]
  go_wp2_with fail
  (with_reducible refine (shown_any _).mono ?_)
  rintro e w1 ⟨rfl, hw1⟩
  go_wp2_with fail
  (with_reducible refine (body_ok a n cap p _ hc hp.out).mono ?_)
  rintro e w' ⟨rfl, rfl⟩
  go_wp2_with fail
  (with_reducible refine (body_ok b m capb q _ hcb hq.out).mono ?_)
  rintro e w' ⟨rfl, rfl⟩
  have hx1 := hx.since hw1
  go_wp2_with fail
  (with_reducible refine (put_ok a p cap x _ hlp.out hp3 hx1).mono ?_)
  rintro e w2 ⟨v, rfl, hown2, hb2'⟩
  obtain ⟨B, cp, rfl, hbb, hP2⟩ := hown2.held (by rw [hlP.out]; omega)
  rw [hlP.out]
  have hw2 := hw1.trans (hb2'.mono hw1.size)
  have hy2 := hy.since hw2
  clear hx1 hw1 hb2' hown2
  go_wp2_with fail
  (with_reducible refine (put_ok b q capb y _ hlq.out hq3 hy2).mono ?_)
  rintro e w3 ⟨v, rfl, hown3, hb3'⟩
  obtain ⟨C, cq, rfl, hcc, hQ3⟩ := hown3.held (by rw [hlQ.out]; omega)
  rw [hlQ.out]
  have hw3 := hw2.trans (hb3'.mono hw2.size)
  have hP3 := hP2.since hb3'
  have hx3 := hx.since hw3
  have hy3 := hy.since hw3
  clear hw2 hb3' hown3 hy2 hP2
  obtain ⟨sx, hsx⟩ : ∃ s : ByteArray, s = ⟨x.toArray⟩ := ⟨_, rfl⟩
  obtain ⟨sy, hsy⟩ : ∃ s : ByteArray, s = ⟨y.toArray⟩ := ⟨_, rfl⟩
  have t1 := fun j => (hx3.drewN j).str p cap hlp.out sx hsx
  have t2 := fun j => (hy3.drewN j).str q capb hlq.out sy hsy
  have t1' := hx3.str p cap hlp.out sx hsx
  have t2' := hy3.str q capb hlq.out sy hsy
  obtain ⟨v, hv⟩ : ∃ v, decide (x = y) = v := ⟨_, rfl⟩
  have E1 : (sx.toList == sy.toList) = v := by
    rw [← hv, hsx, hsy]
    simp only [ByteArray.toList_eq]
    rw [Bool.eq_iff_iff]
    simp
  obtain ⟨su, hsu⟩ : ∃ s : ByteArray, s = ⟨((putB x).take k).toArray⟩ := ⟨_, rfl⟩
  obtain ⟨sv, hsv⟩ : ∃ s : ByteArray, s = ⟨((putB y).take k).toArray⟩ := ⟨_, rfl⟩
  have hlk1 : ((putB x).take k).length = k := by rw [List.length_take, hlP.out]; omega
  have hlk2 : ((putB y).take k).length = k := by rw [List.length_take, hlQ.out]; omega
  have t3 := fun j => ((hP3.seen.take k).drewN j).str k cp hlk1 su hsu
  have t4 := fun j => ((hQ3.seen.take k).drewN j).str k cq hlk2 sv hsv
  have E2 : (su.toList == sv.toList) = v := by
    have := hap ()
    rw [← hv, hsu, hsv]
    simp only [ByteArray.toList_eq]
    rw [Bool.eq_iff_iff]
    simp [this]
  have hcutp := slice_h (some ⟨B, 0, none⟩) (p + 5) cp k (by have := hP3.1; rw [hlP.out] at this; omega)
  have hcutq := slice_h (some ⟨C, 0, none⟩) (q + 5) cq k (by have := hQ3.1; rw [hlQ.out] at this; omega)
  obtain ⟨D, cd, hcut3, hcd, hD⟩ := cut_lh (some ⟨B, 0, none⟩) (p + 5) cp 3 (p + 3) (by omega) (by have := hP3.1; rw [hlP.out] at this; omega) 3 (3 + (p : Int)) rfl (by omega)
  have hD3 := hD _ _ hP3.seen
  rw [show p + 3 - 3 = p by omega] at hcut3 hD3
  rw [h3.out] at hD3
  have t5 := fun j => (hD3.drewN j).str p cd hlp.out sx hsx
  have c0 : ∀ j, (w3.drewN j).cell? ⟨B, 0, none⟩ = some (.int .u8 165) := fun j => hP3.cell (i := 0) (by rw [hlP.out]; omega)
  have c1 : ∀ j, (w3.drewN j).cell? ⟨B, 1, none⟩ = some (.int .u8 1) := fun j => hP3.cell (i := 1) (by rw [hlP.out]; omega)
  have c2 : ∀ j, (w3.drewN j).cell? ⟨B, 2, none⟩ = some (.int .u8 (p : Int)) := fun j => by
    have := hP3.cell (i := 2) (by rw [hlP.out]; omega)
    rw [← hb2.out]
    exact this
  replace hsx : Unit → sx = ⟨x.toArray⟩ := fun _ => hsx
  replace hsy : Unit → sy = ⟨y.toArray⟩ := fun _ => hsy
  replace hsu : Unit → su = ⟨((putB x).take k).toArray⟩ := fun _ => hsu
  replace hsv : Unit → sv = ⟨((putB y).take k).toArray⟩ := fun _ => hsv
  replace hv := Lib.hid hv
  clear hlk1 hlk2 hD hD3 hP3 hQ3 hx3 hy3 hx hy
  go_wp2_with fail
  go_quiet (fail)
  go_wp2
  go_ret
  exact ⟨by simp, below_drawn hw3 _⟩

theorem frameApart (a : Option Addr) (len cap : Nat) (z : List Int) (b : Option Addr) (lenb capb : Nat) (zb : List Int) (w : World) (w0 : Nums .u8 w a len cap z) (w1 : Nums .u8 w b lenb capb zb) :
    Calls Try.prog 7 #[.slice a len cap, .slice b lenb capb] w fun e w' => e = .returned (.bool true) ∧ Below w.heap.size w w' := by
  obtain ⟨l, rfl, hl, hcap⟩ := seen_nums w0
  obtain ⟨m, rfl, hm, hcapb⟩ := seen_nums w1
  exact apart_core a b _ cap _ capb (l.take 32) (m.take 32) (min l.length 32) (min m.length 32) _ w (hl.take 32) (hm.take 32) rfl (by simp; omega) hcap rfl (by simp; omega) hcapb rfl
end Go.Proofs.Ytafhfimkgaecjaa.walks
