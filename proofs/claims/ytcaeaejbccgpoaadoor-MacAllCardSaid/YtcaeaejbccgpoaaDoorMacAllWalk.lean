/-
  THE WALK OF 'MacAll': what any key tells of any bytes, and its tag, is as the document says.
-/
import Derived.Test.YtcaeaejbccgpoaaDoorMacSame
namespace Go.Proofs.YtcaeaejbccgpoaaDoor.walks
open Go.ChangeShapes Go.WideShapes Go.ChangeAt Go.RowKit Go.Proofs.YtcaeaejbccgpoaaDoor.octets Go.Proofs.YtcaeaejbccgpoaaDoor.sha Go.Proofs.YtcaeaejbccgpoaaDoor.mac Go.Proofs.YtcaeaejbccgpoaaDoor.given
set_option linter.unusedVariables false
set_option linter.unusedSimpArgs false

set_option maxRecDepth 100000 in
set_option maxHeartbeats 2000000 in
theorem all_core (a b : Option Addr) (n cap m capb : Nat) (x y : List UInt8) (p q : Nat) (w : World) (hr : Seen w a x) (hrb : Seen w b y) (hp : p = min n 150) (hlp : x.length = p) (hc : n ≤ cap) (hq : q = min m 150) (hlq : y.length = q) (hcb : m ≤ capb) (hK : Table w) :
    Calls Tryd.prog 3 #[.slice a n cap, .slice b m capb] w fun e w' => e = .returned (.bool true) ∧ Below w.heap.size w w' := by
  have hp3 : p ≤ 150 := by omega
  have hq3 : q ≤ 150 := by omega
  obtain ⟨M, hM⟩ : ∃ M, macB x y = M := ⟨_, rfl⟩
  obtain ⟨T, hT⟩ : ∃ T, tagB x y = T := ⟨_, rfl⟩
  have q1 := same32 M (by rw [← hM, macB_len])
  have q2 := same8 T (by rw [← hT, tagB_len])
  replace hM : Unit → macB x y = M := fun _ => hM
  replace hT : Unit → tagB x y = T := fun _ => hT
  replace hp := Lib.hid hp
  replace hlp := Lib.hid hlp
  replace hq := Lib.hid hq
  replace hlq := Lib.hid hlq
  go_enter Tryd.func3, Tryd.ntmps3
  try dsimp only [List.append]
  go_wp2_with fail
  (with_reducible refine (shown_any _ hK).mono ?_)
  rintro e w1 ⟨rfl, hw1⟩
  have hr1 := hr.since hw1
  have hrb1 := hrb.since hw1
  go_wp2_with fail
  (with_reducible refine (few_ok a n cap p _ hc hp.out).mono ?_)
  rintro e w' ⟨rfl, rfl⟩
  go_wp2_with fail
  (with_reducible refine (few_ok b m capb q _ hcb hq.out).mono ?_)
  rintro e w' ⟨rfl, rfl⟩
  have hT1 := hK.since hw1
  go_wp2_with fail
  (with_reducible refine (of_at a b p cap q capb x y M _ hlp.out hlq.out hp3 hq3 hr1 hrb1 (hM ()) hT1).mono ?_)
  rintro e w2 ⟨rfl, hs2⟩
  have hr2 := hr1.since hs2
  have hrb2 := hrb1.since hs2
  have hw2 := hw1.trans (hs2.mono hw1.size)
  clear hr1 hrb1 hw1 hs2 hT1
  go_wp2_with fail
  (with_reducible refine (rof_at a b p cap q capb x y M _ hlp.out hlq.out hp3 hq3 hr2 hrb2 (hM ())).mono ?_)
  rintro e w3 ⟨rfl, hs3⟩
  have hr3 := hr2.since hs3
  have hrb3 := hrb2.since hs3
  have hw3 := hw2.trans (hs3.mono hw2.size)
  have hT3 := hK.since hw3
  clear hr2 hrb2 hw2 hs3
  go_wp2_with fail
  (with_reducible refine (tag_at a b p cap q capb x y T _ hlp.out hlq.out hp3 hq3 hr3 hrb3 (hT ()) hT3).mono ?_)
  rintro e w4 ⟨rfl, hs4⟩
  have hr4 := hr3.since hs4
  have hrb4 := hrb3.since hs4
  have hw4 := hw3.trans (hs4.mono hw3.size)
  clear hr3 hrb3 hw3 hs4 hT3
  go_wp2_with fail
  (with_reducible refine (rtag_at a b p cap q capb x y T _ hlp.out hlq.out hp3 hq3 hr4 hrb4 (hT ())).mono ?_)
  rintro e w5 ⟨rfl, hs5⟩
  have hw5 := hw4.trans (hs5.mono hw4.size)
  clear hr4 hrb4 hw4 hs5
  go_wp2
  go_ret
  exact ⟨rfl, hw5⟩

theorem macAll (a : Option Addr) (len cap : Nat) (z : List Int) (b : Option Addr) (lenb capb : Nat) (zb : List Int) (w : World) (w0 : Nums .u8 w a len cap z) (w1 : Nums .u8 w b lenb capb zb) (hL : laidMet Tryd.prog [("sidestick/sha.roots", Rows.laid_sidestick_sha_roots)] w) :
    Calls Tryd.prog 3 #[.slice a len cap, .slice b lenb capb] w fun e w' => e = .returned (.bool true) ∧ Below w.heap.size w w' := by
  obtain ⟨l, rfl, hl, hcap⟩ := seen_nums w0
  obtain ⟨m, rfl, hm, hcapb⟩ := seen_nums w1
  exact all_core a b _ cap _ capb (l.take 150) (m.take 150) (min l.length 150) (min m.length 150) w (hl.take 150) (hm.take 150) rfl (by simp; omega) hcap rfl (by simp; omega) hcapb (table_of hL)
end Go.Proofs.YtcaeaejbccgpoaaDoor.walks
