/-
  THE WALK OF 'CrcParts': bytes behind others go on with the sum of these.
-/
import Derived.Test.YtlepghjfbcbcpaaCrcShown
namespace Go.Proofs.Ytlepghjfbcbcpaa.walks
open Go.ChangeShapes Go.WideShapes Go.ChangeAt Go.RowKit Go.Proofs.Ytlepghjfbcbcpaa.octets Go.Proofs.Ytlepghjfbcbcpaa.crc Go.Proofs.Ytlepghjfbcbcpaa.given
set_option linter.unusedVariables false

set_option maxRecDepth 100000 in
set_option maxHeartbeats 1000000 in
theorem parts_core (a : Option Addr) (n cap : Nat) (a2 : Option Addr) (n2 cap2 : Nat) (x y : List UInt8) (p q : Nat) (w : World) (hx : Seen w a x) (hy : Seen w a2 y) (hp : p = min n 300) (hq : q = min n2 300) (hxl : x.length = p) (hyl : y.length = q) (hc : n ≤ cap) (hc2 : n2 ≤ cap2) :
    Calls Try.prog 4 #[.slice a n cap, .slice a2 n2 cap2] w fun e w' => e = .returned (.bool true) ∧ Below w.heap.size w w' := by
  have hp3 : p ≤ 300 := by omega
  have hq3 : q ≤ 300 := by omega
  replace hp := Lib.hid hp
  replace hq := Lib.hid hq
  replace hxl := Lib.hid hxl
  replace hyl := Lib.hid hyl
  obtain ⟨s, hs⟩ : ∃ s, sumL 65535 x = s := ⟨_, rfl⟩
  obtain ⟨v, hv⟩ : ∃ v, sumL s y = v := ⟨_, rfl⟩
  replace hs := Lib.hid hs
  replace hv := Lib.hid hv
  have hslt : s < 65536 := by rw [← hs.out]; exact sumL_lt _ (by decide)
  go_enter Try.func4, Try.ntmps4
  try dsimp only [List.append]
  go_wp2_with fail
  (with_reducible refine (shown_any _).mono ?_)
  rintro e w1 ⟨rfl, hw1⟩
  have hx1 := hx.since hw1
  have hy1 := hy.since hw1
  go_wp2_with fail
  (with_reducible refine (few_ok a n cap p _ hc hp.out).mono ?_)
  rintro e w' ⟨rfl, rfl⟩
  go_wp2_with fail
  (with_reducible refine (few_ok a2 n2 cap2 q _ hc2 hq.out).mono ?_)
  rintro e w' ⟨rfl, rfl⟩
  go_wp2_with fail
  (with_reducible refine (sum_at _ p _ _ s _ hxl.out (by omega) hx1 hs.out).mono ?_)
  rintro e w' ⟨rfl, rfl⟩
  go_wp2
  go_loop [8, 9] (fun u t => ∃ i : Nat, i ≤ q ∧ t = .int .i64 i ∧ u = .int .u16 (sumL s (y.take i))) (fun _ t => q - (intOf t).toNat)
  case atStart => exact ⟨0, by omega, rfl, rfl⟩
  case round =>
    obtain ⟨i, hi, rfl, rfl⟩ := hrel
    by_cases hlt : i < q
    · have hlt' : i < y.length := by rw [hyl.out]; exact hlt
      obtain ⟨b, o, rfl, _, hc'⟩ := hy1.at_ hlt'
      have hcell := hc' i hlt'
      clear hc'
      have hs' := sumL_lt (y.take i) hslt
      have E := Lib.hid (sumL_take s y i hlt')
      go_wp2_with fail
      (with_reducible refine (step_ok _ _ _ hs' (y[i].toNat_lt)).mono ?_)
      rintro e w' ⟨rfl, rfl⟩
      go_wp2
      go_round
      case rel => exact ⟨i + 1, by omega, by go_num, by rw [E.out]⟩
      case measure => simp [intOf]; omega
    · have hiq : i = q := by omega
      have ev : sumL s (y.take i) = v := by rw [List.take_of_length_le (by rw [hyl.out]; omega)]; exact hv.out
      rw [ev]
      replace ev := Lib.hid ev
      subst hiq
      have hz1 := hw1.size
      go_wp2_with (at_builtin; refine wpList_append_own_any _ rfl (.tmp 32) (.tmp 33) rfl w.heap.size _ [] rfl (own_none _ _ hz1) a p cap rfl x hxl.out (hx1.alloc _) (by rw [hxl.out]; simp; omega) (by simp; omega) ?_)
      intro v1 w3 hown3 hg3 hat3
      have hw3 : Below w.heap.size w w3 := (hw1.alloc hz1 _).grown hg3 (by simp; omega) (by intro g hg; simp [Value.ownBlock] at hg; omega)
      have hy3 := hy.since hw3
      have hz3 := hw3.size
      go_wp2_with (at_builtin; refine wpList_append_own_any _ rfl (.tmp 34) (.tmp 35) rfl w.heap.size _ _ rfl hown3 a2 i cap2 rfl y hyl.out hy3 (by rw [hyl.out]; simp [hxl.out]; omega) hz3 ?_)
      intro v2 w4 hown4 hg4 hat4
      have hw4 := hown3.grew hw3 (Nat.le_refl _) hz3 hg4
      obtain ⟨A, c, rfl, hA⟩ := hown4.seen_at (k := p + i) (by simp [hxl.out, hyl.out])
      go_wp2_with fail
      (with_reducible refine (sum_at A (p + i) c _ v _ (by simp [hxl.out, hyl.out]) (by omega) hA ?_).mono ?_)
      · rw [sumL_add, hs.out, hv.out]
      rintro e w' ⟨rfl, rfl⟩
      go_wp2
      go_ret
      exact ⟨rfl, hw4⟩

theorem crcParts (a0 : Option Addr) (len0 cap0 : Nat) (z0 : List Int) (a1 : Option Addr) (len1 cap1 : Nat) (z1 : List Int) (w : World) (w0 : Nums .u8 w a0 len0 cap0 z0) (w1 : Nums .u8 w a1 len1 cap1 z1) :
    Calls Try.prog 4 #[.slice a0 len0 cap0, .slice a1 len1 cap1] w fun e w' => e = .returned (.bool true) ∧ Below w.heap.size w w' := by
  obtain ⟨x, rfl, hx, hc⟩ := seen_nums w0
  obtain ⟨y, rfl, hy, hc2⟩ := seen_nums w1
  exact parts_core a0 _ cap0 a1 _ cap1 (x.take 300) (y.take 300) _ _ w (hx.take 300) (hy.take 300) rfl rfl (by simp; omega) (by simp; omega) hc hc2
end Go.Proofs.Ytlepghjfbcbcpaa.walks
