/-
  THE WALK OF 'FrameBack': a frame is found whole, whatever stands behind it; its beginnings wait; what is too long is none.
-/
import Derived.Test.YtafhfimkgaecjaaFrameShown
namespace Go.Proofs.Ytafhfimkgaecjaa.walks
open Go.ChangeShapes Go.WideShapes Go.ChangeAt Go.RowKit Go.Proofs.Ytafhfimkgaecjaa.octets Go.Proofs.Ytafhfimkgaecjaa.crc Go.Proofs.Ytafhfimkgaecjaa.frame Go.Proofs.Ytafhfimkgaecjaa.given
set_option linter.unusedVariables false
set_option linter.unusedSimpArgs false

set_option maxRecDepth 100000 in
set_option maxHeartbeats 2000000 in
theorem back_core (a b : Option Addr) (n cap m capb : Nat) (x y : List UInt8) (p q r : Nat) (w : World) (hx : Seen w a x) (hy : Seen w b y) (hp : p = min n 32) (hlp : x.length = p) (hc : n ≤ cap) (hq : q = min m 100) (hlq : y.length = q) (hcb : m ≤ capb) (hr : r = min n 100) :
    Calls Try.prog 4 #[.slice a n cap, .slice b m capb] w fun e w' => e = .returned (.bool true) ∧ Below w.heap.size w w' := by
  have hp3 : p ≤ 32 := by omega
  have hq3 : q ≤ 100 := by omega
  have hpc : p ≤ cap := by omega
  have hlP : Hid ((putB x).length = p + 5) := Lib.hid (by rw [putB_len, hlp])
  have hG : Hid (nextB (putB x ++ y) = ⟨2, p + 5, 0, x⟩) := Lib.hid (by rw [next_put x y (by omega), hlp])
  have hW : Unit → ∀ i, i < p + 5 → nextB ((putB x).take i) = wait := fun _ i hi => next_wait x i (by omega) (by omega)
  replace hp := Lib.hid hp
  replace hlp := Lib.hid hlp
  replace hq := Lib.hid hq
  replace hlq := Lib.hid hlq
  replace hr := Lib.hid hr
  go_enter Try.func4, Try.ntmps4
  try dsimp only [List.append]
  go_wp2_with fail
  (with_reducible refine (shown_any _).mono ?_)
  rintro e w1 ⟨rfl, hw1⟩
  go_wp2_with fail
  (with_reducible refine (body_ok a n cap p _ hc hp.out).mono ?_)
  rintro e w' ⟨rfl, rfl⟩
  have hx1 := hx.since hw1
  go_wp2_with fail
  (with_reducible refine (put_ok a p cap x _ hlp.out hp3 hx1).mono ?_)
  rintro e w2 ⟨v, rfl, hown2, hb2⟩
  obtain ⟨P, cp, rfl, hsP, hcp⟩ := own_cap hown2 hlP.out
  have hw2 := hw1.trans (hb2.mono hw1.size)
  have hz2 := hw2.size
  clear hx1 hw1 hb2 hown2
  go_wp2_with (at_builtin; refine wpList_append_own_any _ rfl (.tmp 36) (.tmp 37) rfl w2.heap.size _ [] rfl (own_none _ _ (Nat.le_refl _)) P (p + 5) cp rfl (putB x) hlP.out (hsP.alloc _) (by rw [hlP.out]; simp; omega) (by simp) ?_)
  intro v4 w4 hown4 hg4 hat4
  replace hown4 : Own w4 w2.heap.size v4 (putB x) := hown4
  have hb4 : Below w2.heap.size w2 w4 := (below_new w2 _).grown hg4 (by simp) (by intro g hg; simp [Value.ownBlock] at hg; omega)
  have hz4 := hb4.size
  have hw4 := hw2.trans (hb4.mono hz2)
  have hy4 := hy.since hw4
  clear hg4 hat4
  go_wp2_with fail
  (with_reducible refine (few_ok b m capb q _ hcb hq.out).mono ?_)
  rintro e w' ⟨rfl, rfl⟩
  go_wp2_with (at_builtin; refine wpList_append_own_any _ rfl (.tmp 38) (.tmp 40) rfl w2.heap.size _ (putB x) rfl hown4 b q capb rfl y hlq.out hy4 (by rw [hlP.out, hlq.out]; omega) hz4 ?_)
  intro v5 w5 hown5 hg5 hat5
  have hb5 := hb4.trans (own_below hown4 hz4 hg5)
  have hw5 := hw2.trans (hb5.mono hz2)
  obtain ⟨C, cc, rfl, hs5, hcc⟩ := own_cap hown5 (k := p + 5 + q) (by rw [List.length_append, hlP.out, hlq.out])
  have hlxy : Hid ((putB x ++ y).length = p + 5 + q) := Lib.hid (by rw [List.length_append, hlP.out, hlq.out])
  have hsP5 := hsP.since hb5
  clear hown4 hg5 hat5 hb5 hown5 hb4 hw4 hy4 hw2 hsP
  go_wp2_with fail
  (with_reducible refine (next_at C (p + 5 + q) cc (putB x ++ y) _ _ hlxy.out hcc (by omega) hs5 hG.out).mono ?_)
  rintro e w6 ⟨D, cd, rfl, hown6, hb6⟩
  dsimp only at hown6 ⊢
  rw [hlp.out] at hown6 ⊢
  have hw6 := hw5.trans (hb6.mono hw5.size)
  have hz6 := hw6.size
  have hsP6 := hsP5.since hb6
  clear hw5 hs5 hsP5
  have hG6 := new_zf w6 30
  go_wp2_with (guard_target =~ wpList _ _ _ (Oper.mk _ (Op.store _ _ _) _ _ _ _ :: _) _ _; refine wpList_store_arr (cs' := fv 2 ((p + 5 : Nat) : Int) 0 (.slice D p cd)) 4 rfl rfl rfl rfl hG6 (by kernel_rfl) rfl rfl (fv_one _ _ _ _ _ _) ?_)
  intro w7 hG7 ho7 hb7 hs7
  have hb67 := (below_new w6 (.cells #[.int .i64 0, .int .i64 0, .int .i64 0, .slice none 0 0] 30)).trans hb7
  have hw7 := hw6.trans (hb67.mono hz6)
  have hsP7 := hsP6.since hb67
  have hsG := seen_is ((hown6.alloc (.cells #[.int .i64 0, .int .i64 0, .int .i64 0, .slice none 0 0] 30)).of_block fun g hg => ho7 g (by have := (hown6.lt hg).2; omega))
  have hx7 := hx.since hw7
  clear hown6 hb6 hw6 hG6 ho7 hb7 hs7 hb67 hsP6
  generalize w6.heap.size = h at hG7 hz6 ⊢
  obtain ⟨d0, d1, d2, d3⟩ := fv_cells hG7
  obtain ⟨s, hs⟩ : ∃ s : ByteArray, s = ⟨x.toArray⟩ := ⟨_, rfl⟩
  have t1 := hsG.str p cd hlp.out s hs
  have t2 := hx7.str p cap hlp.out s hs
  replace hs := Lib.hid hs
  clear hsG hx7 hG7
  go_wp2
  clear t1 t2 d0 d1 d2 d3 hx hy
  go_loopw [10] (fun t V => ∃ i : Nat, i ≤ p + 5 ∧ t = .int .i64 i ∧ Below w7.heap.size w7 V) (fun t _ => p + 5 - (intOf t).toNat)
  case atStart => exact ⟨0, by omega, rfl, Below.refl _ _⟩
  case round =>
    obtain ⟨i, hi, rfl, hwr⟩ := hrel
    have hwa := hw7.trans (hwr.mono hw7.size)
    by_cases hil : i < p + 5
    · have hil' : (i : Int) < (p : Int) + 5 := by omega
      have hcut := slice_h P (p + 5) cp i (by omega)
      have hsi := (hsP7.since hwr).take i
      have hli : Hid (((putB x).take i).length = i) := Lib.hid (by rw [List.length_take, hlP.out]; omega)
      go_wp2_with fail
      (with_reducible refine (next_at P i cp ((putB x).take i) wait _ hli.out (by omega) (by omega) hsi (hW () i hil)).mono ?_)
      rintro e w8 ⟨E, ce, rfl, -, hb8⟩
      have hw8 := hwr.trans (hb8.mono hwr.size)
      have hz8 := hw8.size
      have hG8 := new_zf w8 30
      clear hsi hwr hb8 hwa
      go_wp2_with (guard_target =~ wpList _ _ _ (Oper.mk _ (Op.store _ _ _) _ _ _ _ :: _) _ _; refine wpList_store_arr (cs' := fv 0 0 0 (.slice E 0 ce)) 4 rfl rfl rfl rfl hG8 (by kernel_rfl) rfl rfl (fv_one _ _ _ _ _ _) ?_)
      intro w9 hG9 ho9 hb9 hs9
      have hw9 := (hw8.alloc hz8 (.cells #[.int .i64 0, .int .i64 0, .int .i64 0, .slice none 0 0] 30)).trans (hb9.mono hz8)
      generalize w8.heap.size = g at hG9 ⊢
      obtain ⟨d0, d1, d2, d3⟩ := fv_cells hG9
      clear hG8 ho9 hb9 hs9 hw8 hG9
      go_wp2
      go_roundw
      case rel => exact ⟨i + 1, by omega, by go_num, hw9⟩
      case measure => simp [intOf]; omega
    · obtain rfl : i = p + 5 := by omega
      have hil' : ¬ ((p : Int) + 5 < (p : Int) + 5) := by omega
      clear hil hi
      go_wp2_with fail
      (with_reducible refine (few_ok a n cap r _ hc hr.out).mono ?_)
      rintro e w' ⟨rfl, rfl⟩
      by_cases hr32 : r ≤ 32
      · have t1 : decide ((r : Int) ≤ 32) = true := decide_eq_true (by omega)
        go_wp2
        go_ret
        exact ⟨rfl, hwa⟩
      · have t1 : decide ((r : Int) ≤ 32) = false := decide_eq_false (by omega)
        go_wp2_with fail
        (with_reducible refine (few_ok a n cap r _ hc hr.out).mono ?_)
        rintro e w' ⟨rfl, rfl⟩
        go_wp2_with fail
        (with_reducible refine (put_long a r cap _ (by omega)).mono ?_)
        rintro e w' ⟨rfl, rfl⟩
        go_wp2
        go_ret
        exact ⟨rfl, hwa⟩

theorem frameBack (a : Option Addr) (len cap : Nat) (z : List Int) (b : Option Addr) (lenb capb : Nat) (zb : List Int) (w : World) (w0 : Nums .u8 w a len cap z) (w1 : Nums .u8 w b lenb capb zb) :
    Calls Try.prog 4 #[.slice a len cap, .slice b lenb capb] w fun e w' => e = .returned (.bool true) ∧ Below w.heap.size w w' := by
  obtain ⟨l, rfl, hl, hcap⟩ := seen_nums w0
  obtain ⟨m, rfl, hm, hcapb⟩ := seen_nums w1
  exact back_core a b _ cap _ capb (l.take 32) (m.take 100) (min l.length 32) (min m.length 100) (min l.length 100) w (hl.take 32) (hm.take 100) rfl (by simp; omega) hcap rfl (by simp; omega) hcapb rfl
end Go.Proofs.Ytafhfimkgaecjaa.walks
