/-
  THE WALK OF 'FrameBursts': a frame with some bits turned, within 16 in a row, is none by its sum; nor one of another version, or that says that it is too long.
-/
import Derived.Test.YtafhfimkgaecjaaFrameShown
import Derived.Test.YtafhfimkgaecjaaFlip
import Derived.StillTailTactics
namespace Go.Proofs.Ytafhfimkgaecjaa.walks
open Go.ChangeShapes Go.WideShapes Go.ChangeAt Go.RowKit Go.Proofs.Ytafhfimkgaecjaa.octets Go.Proofs.Ytafhfimkgaecjaa.crc Go.Proofs.Ytafhfimkgaecjaa.frame Go.Proofs.Ytafhfimkgaecjaa.given
set_option linter.unusedVariables false
set_option linter.unusedSimpArgs false

set_option maxRecDepth 100000 in
set_option maxHeartbeats 2000000 in
theorem bursts_core (a : Option Addr) (n cap : Nat) (x : List UInt8) (p t : Nat) (at_ : Int) (k m : Nat) (w : World) (hx : Seen w a x) (hp : p = min n 32) (hlp : x.length = p) (hc : n ≤ cap) (ht : t < 65536) (a1 : -9223372036854775808 ≤ at_) (a2 : at_ ≤ 9223372036854775807)
    (N : Nat) (hN : N = 8 * (p + 2)) (eN : 8 * ((p : Int) + 5 - 3) = (N : Int)) (hk : k < N) (u : Int) (u1 : -(N : Int) < u) (u2 : u < (N : Int)) (eU : at_.tmod (N : Int) = u) (eK : (u + (N : Int)).tmod (N : Int) = (k : Int)) (eM : bits BinOp.or IntKind.u16 (t : Int) 32768 = (m : Int)) (hm : m < 65536) (hm15 : Hid (m.testBit 15 = true)) :
    Calls Try.prog 5 #[.slice a n cap, .int .i64 at_, .int .u16 t] w fun e w' => e = .returned (.bool true) ∧ Below w.heap.size w w' := by
  have hp3 : p ≤ 32 := by omega
  have hN3 : N ≤ 272 := by omega
  replace hN := Lib.hid hN
  have hlP : Hid ((putB x).length = p + 5) := Lib.hid (by rw [putB_len, hlp])
  replace hp := Lib.hid hp
  replace hlp := Lib.hid hlp
  go_enter Try.func5, Try.ntmps5
  try dsimp only [List.append]
  go_wp2_with fail
  (with_reducible refine (shown_any _).mono ?_)
  rintro e w1 ⟨rfl, hw1⟩
  go_wp2_with fail
  (with_reducible refine (body_ok a n cap p _ hc hp.out).mono ?_)
  rintro e w' ⟨rfl, rfl⟩
  have hx1 := hx.since hw1
  go_wp2_with fail
  (with_reducible refine (put_ok a p cap x _ hlp.out hp3 hx1).mono ?_)
  rintro e w2 ⟨v, rfl, hown2, hb2⟩
  obtain ⟨b, c, rfl, hbb, hP2⟩ := hown2.held (by rw [hlP.out]; omega)
  rw [hlP.out]
  have hw2 := hw1.trans (hb2.mono hw1.size)
  have hz2 := hw2.size
  have hbw : w.heap.size ≤ b := by have := hw1.size; omega
  clear hx1 hw1 hb2 hown2 hbb
  go_wp2_with (at_builtin; refine wpList_append_own_any _ rfl (.tmp 38) (.tmp 39) rfl w2.heap.size _ [] rfl (own_none _ _ (Nat.le_refl _)) (some ⟨b, 0, none⟩) (p + 5) c rfl (putB x) hlP.out (hP2.seen.alloc _) (by rw [hlP.out]; simp; omega) (by simp) ?_)
  intro v4 w4 hown4 hg4 hat4
  replace hown4 : Own w4 w2.heap.size v4 (putB x) := hown4
  have hb4 : Below w2.heap.size w2 w4 := (below_new w2 _).grown hg4 (by simp) (by intro g hg; simp [Value.ownBlock] at hg; omega)
  obtain ⟨d, cd, rfl, hdd, hO4⟩ := hown4.held (by rw [hlP.out]; omega)
  rw [hlP.out]
  have hbd : b < d := by have := hP2.lt; omega
  have hP4 := hP2.since hb4
  have hw4 := hw2.trans (hb4.mono hz2)
  have hz4 := hw4.size
  clear hg4 hat4 hown4 hb4 hP2 hw2 hdd
  go_wp2
  have hlast : Unit → ∀ i, 1 ≤ i → i ≤ 16 → k + i ≤ N → nextB (flips (putB x) m (24 + k) i) = rej 12 := fun _ i h1 h2 h3 => next_turned x m k i (by rw [hlp.out]; exact hp3) h1 h2 (by rw [hlp.out, ← hN.out]; exact h3) hm15.out
  clear eN eU eK hx
  go_loopw [14] (fun t wr => ∃ i : Nat, i ≤ 16 ∧ k + i ≤ N ∧ t = .int .i64 i ∧ Below w.heap.size w wr ∧ Held wr b c (flips (putB x) m (24 + k) i) ∧ Held wr d cd (putB x)) (fun t _ => 16 - (intOf t).toNat)
  case atStart => exact ⟨0, by omega, by omega, rfl, hw4, hP4, hO4⟩
  case round =>
    clear hP4 hO4 hw4 hz4
    obtain ⟨i, hi, hki, rfl, hwr, hr, hO⟩ := hrel
    by_cases hlt : i < 16 ∧ k + i < N
    · obtain ⟨hl1, hl2⟩ := hlt
      have t2 : decide ((k : Int) + (i : Int) < (N : Int)) = true := decide_eq_true (by omega)
      have ht3 := bit_test m (15 - i) hm
      have hstep : flips (putB x) m (24 + k) (i + 1) = if m.testBit (15 - i) then flip1 (flips (putB x) m (24 + k) i) (24 + k + i) else flips (putB x) m (24 + k) i := rfl
      by_cases hbit : m.testBit (15 - i) = true
      · rw [hbit] at ht3
        rw [if_pos hbit] at hstep
        obtain ⟨L, hL⟩ : ∃ L, flips (putB x) m (24 + k) i = L := ⟨_, rfl⟩
        rw [hL] at hr hstep
        have hLl : L.length = p + 5 := by rw [← hL, flips_len, hlP.out]
        have ewr : IntKind.i64.wrap ((k : Int) + (i : Int)) = ((k + i : Nat) : Int) := by rw [IntKind.wrap_i64]; omega
        obtain ⟨r, hr'⟩ : ∃ r, k + i = r := ⟨_, rfl⟩
        have hN' := hN.out
        have hrb : r < 8 * (p + 2) := by omega
        rw [Nat.add_assoc, hr'] at hstep
        rw [hr'] at ewr
        obtain ⟨q0, hq0⟩ : ∃ q, r / 8 = q := ⟨_, rfl⟩
        obtain ⟨q, hq'⟩ : ∃ q, 3 + q0 = q := ⟨_, rfl⟩
        obtain ⟨s, hs'⟩ : ∃ s, r % 8 = s := ⟨_, rfl⟩
        have eq8 : IntKind.i64.wrap ((r : Int) / 8) = (q0 : Int) := by rw [IntKind.wrap_i64]; omega
        have eq3 : IntKind.i64.wrap (3 + (q0 : Int)) = (q : Int) := by rw [IntKind.wrap_i64]; omega
        have es8 : (r : Int).tmod 8 = (s : Int) := by rw [Int.tmod_eq_emod_of_nonneg (by omega)]; omega
        have hs8 : s < 8 := by omega
        have hqb : (q : Int) < (p : Int) + 5 := by omega
        have hq : q < L.length := by rw [hLl]; omega
        have hq24 : (24 + r) / 8 = q := by omega
        have hs24 : (24 + r) % 8 = s := by omega
        have hcell := hr.cell hq
        have hfr := hr.frozen q
        replace hq' := Lib.hid hq'
        replace hq0 := Lib.hid hq0
        replace hs' := Lib.hid hs'
        replace hq24 := Lib.hid hq24
        replace hs24 := Lib.hid hs24
        clear hL hbit hN'
        go_wp2_with fail
        replace hr' := Lib.hid hr'
        refine wp_region_still_tail 21 (by kernel_rfl) (by kernel_rfl) ?_
        simp only [List.take_succ_cons, List.take_zero, List.drop_succ_cons, List.drop_zero]
        repeat still_step
        refine wpStill_nil ?_
        change wpList _ _ _ _ _ wr.drew
        have fr' : wr.drew.frozen? ⟨b, q, none⟩ = false := hfr
        have c4' : wr.drew.cell? ⟨b, q, none⟩ = some (.int .u8 (L[q].toNat : Int)) := hcell
        have hb' : Below w.heap.size w wr.drew := hwr.drew
        have hr'' : Held wr.drew b c L := hr
        have hO'' : Held wr.drew d cd (putB x) := hO
        generalize wr.drew = w2' at fr' c4' hb' hr'' hO'' ⊢
        have hset := hr''.set q (L[q] ^^^ UInt8.ofNat (2 ^ (7 - s)))
        have hOset := fun v => hO''.other (a := ⟨b, q, none⟩) (by show d ≠ b; omega) v
        have eflip : L.set q (L[q] ^^^ UInt8.ofNat (2 ^ (7 - s))) = flips (putB x) m (24 + k) (i + 1) := by
          rw [hstep, flip1, hq24.out, hs24.out]
          simp [List.getElem?_eq_getElem hq]
        rw [eflip, ← turn_bit L[q] s hs8] at hset
        replace hset := Lib.hid hset
        replace hOset := Lib.hid hOset
        clear hr'' hO''
        go_wp2
        go_roundw
        case rel => exact ⟨i + 1, by omega, by have := hr'.out; omega, by go_num, hb'.setCell (by show w.heap.size ≤ b; omega) _, hset.out, hOset.out _⟩
        case measure => simp [intOf]; omega
      · rw [if_neg hbit] at hstep
        rw [Bool.eq_false_iff.2 hbit] at ht3
        replace hstep := Lib.hid hstep
        clear hbit
        go_wp2
        go_roundw
        case rel => exact ⟨i + 1, by omega, by omega, by go_num, hwr, by rw [hstep.out]; exact hr, hO⟩
        case measure => simp [intOf]; omega
    · have hi1 : 1 ≤ i := by omega
      have hbad := Lib.hid (hlast () i hi1 hi hki)
      have hLl : Hid ((flips (putB x) m (24 + k) i).length = p + 5) := Lib.hid (by rw [flips_len, hlP.out])
      generalize flips (putB x) m (24 + k) i = L at hr hbad hLl
      have hcb : p + 5 ≤ c := by have := hr.1; rw [hLl.out] at this; exact this
      have hcd : p + 5 ≤ cd := by have := hO.1; rw [hlP.out] at this; exact this
      have hc16 : i < 16 ∨ i = 16 := by omega
      have hout : i < 16 → decide ((k : Int) + (i : Int) < (N : Int)) = false := fun h => decide_eq_false (by omega)
      obtain ⟨z, hz⟩ : ∃ z, t % 128 = z := ⟨_, rfl⟩
      have hz128 : z < 128 := by omega
      have e127 := and_127 t ht
      rw [hz] at e127
      have e2z : (UInt8.ofNat (2 + z)).toNat = 2 + z := by rw [UInt8.toNat_ofNat']; omega
      have e33z : (UInt8.ofNat (33 + z)).toNat = 33 + z := by rw [UInt8.toNat_ofNat']; omega
      have hodd := Lib.hid (next_odd x (UInt8.ofNat (2 + z)) (by intro h; have := congrArg UInt8.toNat h; rw [e2z] at this; have h1 : (1 : UInt8).toNat = 1 := rfl; omega))
      have hlong := Lib.hid (next_long x (UInt8.ofNat (33 + z)) (by rw [e33z]; omega))
      replace hz := Lib.hid hz
      replace e2z := Lib.hid e2z
      replace e33z := Lib.hid e33z
      clear hlt hlast hi1
      rcases hc16 with h16 | rfl
      all_goals
        try have t2 := hout (by assumption)
        clear hout
        go_wp2_with fail
        (with_reducible refine (next_at (some ⟨b, 0, none⟩) (p + 5) c L (rej 12) _ hLl.out hcb (by omega) hr.seen hbad.out).mono ?_)
        rintro e w5 ⟨B1, c1, rfl, -, hb5⟩
        have hw5 := hwr.trans (hb5.mono hwr.size)
        have hO5 := hO.since hb5
        have hz5 := hw5.size
        clear hwr hb5 hO hr hbad hLl
        have hF5 := new_zf w5 30
        go_wp2_with (guard_target =~ wpList _ _ _ (Oper.mk _ (Op.store 30 _ _) _ _ _ _ :: _) _ _; refine wpList_store_arr (cs' := fv 3 1 12 (.slice B1 0 c1)) 4 rfl rfl rfl rfl hF5 (by kernel_rfl) rfl rfl (fv_one _ _ _ _ _ _) ?_)
        intro w6 hF6 ho6 hb6 hs6
        have hb56 := (below_new w5 (.cells #[.int .i64 0, .int .i64 0, .int .i64 0, .slice none 0 0] 30)).trans hb6
        have hw6 := hw5.trans (hb56.mono hz5)
        have hO6 := hO5.since hb56
        have hz6 := hw6.size
        clear hF5 ho6 hb6 hs6 hb56 hw5 hO5
        generalize w5.heap.size = f at hF6 hz5 ⊢
        go_wp2_with (at_builtin; refine wpList_append_own_any _ rfl (.tmp 94) (.tmp 95) rfl w6.heap.size _ [] rfl (own_none _ _ (Nat.le_refl _)) (some ⟨d, 0, none⟩) (p + 5) cd rfl (putB x) hlP.out (hO6.seen.alloc _) (by rw [hlP.out]; simp; omega) (by simp) ?_)
        intro v7 w7 hown7 hg7 hat7
        replace hown7 : Own w7 w6.heap.size v7 (putB x) := hown7
        have hb7 : Below w6.heap.size w6 w7 := (below_new w6 _).grown hg7 (by simp) (by intro g hg; simp [Value.ownBlock] at hg; omega)
        obtain ⟨g, cg, rfl, hgg, hG7⟩ := hown7.held (by rw [hlP.out]; omega)
        rw [hlP.out]
        have hw7 := hw6.trans (hb7.mono hz6)
        have hO7 := hO6.since hb7
        have hF7 := hF6.since hb7
        have hz7 := hw7.size
        have hgb : w.heap.size ≤ g := by omega
        have hgd : d < g := by have := hO6.lt; omega
        have hgf : f < g := by have := hF6.lt; omega
        clear hown7 hg7 hat7 hb7 hw6 hO6 hF6
        have c71 : w7.cell? ⟨g, 1, none⟩ = some (.int .u8 1) := hG7.cell (i := 1) (by rw [hlP.out]; omega)
        have f71 := hG7.frozen 1
        have hset := hG7.set 1 (UInt8.ofNat (2 + z))
        rw [e2z.out, show ((2 + z : Nat) : Int) = 2 + (z : Int) by omega] at hset
        have hO8 := hO7.other (a := ⟨g, 1, none⟩) (by show d ≠ g; omega) (.int .u8 (2 + (z : Int)))
        have hF8 := hF7.other (a := ⟨g, 1, none⟩) (by show f ≠ g; omega) (.int .u8 (2 + (z : Int)))
        have hw8 := hw7.setCell (show w.heap.size ≤ (Addr.mk g 1 none).block from hgb) (.int .u8 (2 + (z : Int)))
        have hl8 : Hid (((putB x).set 1 (UInt8.ofNat (2 + z))).length = p + 5) := Lib.hid (by rw [List.length_set, hlP.out])
        have hcg : p + 5 ≤ cg := by have := hG7.1; rw [hlP.out] at this; exact this
        clear hG7
        go_wp2_with fail
        (with_reducible refine (next_at (some ⟨g, 0, none⟩) (p + 5) cg ((putB x).set 1 (UInt8.ofNat (2 + z))) (rej 10) _ hl8.out hcg (by omega) hset.seen hodd.out).mono ?_)
        rintro e w9 ⟨B2, c2, rfl, -, hb9⟩
        have hw9 := hw8.trans (hb9.mono hw8.size)
        have hO9 := hO8.since hb9
        have hF9 := hF8.since hb9
        have hz9 := hw9.size
        clear hset hO8 hF8 hw8 hb9 hO7 hF7 hw7 c71 f71 hl8 hodd
        have hG9 := new_zf w9 30
        go_wp2_with (guard_target =~ wpList _ _ _ (Oper.mk _ (Op.store 30 _ _) _ _ _ _ :: _) _ _; refine wpList_store_arr (cs' := fv 3 1 10 (.slice B2 0 c2)) 4 rfl rfl rfl rfl hG9 (by kernel_rfl) rfl rfl (fv_one _ _ _ _ _ _) ?_)
        intro w10 hG10 ho10 hb10 hs10
        have hb910 := (below_new w9 (.cells #[.int .i64 0, .int .i64 0, .int .i64 0, .slice none 0 0] 30)).trans hb10
        have hw10 := hw9.trans (hb910.mono hz9)
        have hO10 := hO9.since hb910
        have hF10 := hF9.since hb910
        have hz10 := hw10.size
        clear hG9 ho10 hb10 hs10 hb910 hw9 hO9 hF9
        generalize w9.heap.size = y at hG10 hz9 ⊢
        have hcut := slice_h (some ⟨d, 0, none⟩) (p + 5) cd 3 (by omega)
        simp only [show ((3 : Nat) : Int) = 3 from rfl] at hcut
        have hl3 : Hid (((putB x).take 3).length = 3) := Lib.hid (by rw [List.length_take, hlP.out]; omega)
        have hs3 := hO10.seen.take 3
        go_wp2_with (at_builtin; refine wpList_append_own_any _ rfl (.tmp 109) (.tmp 111) rfl w10.heap.size _ [] rfl (own_none _ _ (Nat.le_refl _)) (some ⟨d, 0, none⟩) 3 cd rfl ((putB x).take 3) hl3.out (hs3.alloc _) (by rw [hl3.out]; simp) (by simp) ?_)
        intro v11 w11 hown11 hg11 hat11
        replace hown11 : Own w11 w10.heap.size v11 ((putB x).take 3) := hown11
        have hb11 : Below w10.heap.size w10 w11 := (below_new w10 _).grown hg11 (by simp) (by intro g hg; simp [Value.ownBlock] at hg; omega)
        obtain ⟨h, ch, rfl, hhh, hH11⟩ := hown11.held (by rw [hl3.out]; omega)
        rw [hl3.out]
        have hw11 := hw10.trans (hb11.mono hz10)
        have hF11 := hF10.since hb11
        have hG11 := hG10.since hb11
        have hhb : w.heap.size ≤ h := by omega
        have hhf : f < h := by have := hF10.lt; omega
        have hhy : y < h := by have := hG10.lt; omega
        have hch : 3 ≤ ch := by have := hH11.1; rw [hl3.out] at this; exact this
        clear hown11 hg11 hat11 hb11 hw10 hO10 hF10 hG10 hs3
        obtain ⟨old, c112⟩ : ∃ old : Nat, w11.cell? ⟨h, 2, none⟩ = some (.int .u8 (old : Int)) := ⟨_, hH11.cell (i := 2) (by rw [hl3.out]; omega)⟩
        have f112 := hH11.frozen 2
        have hset := hH11.set 2 (UInt8.ofNat (33 + z))
        rw [e33z.out, show ((33 + z : Nat) : Int) = 33 + (z : Int) by omega] at hset
        have hF12 := hF11.other (a := ⟨h, 2, none⟩) (by show f ≠ h; omega) (.int .u8 (33 + (z : Int)))
        have hG12 := hG11.other (a := ⟨h, 2, none⟩) (by show y ≠ h; omega) (.int .u8 (33 + (z : Int)))
        have hw12 := hw11.setCell (show w.heap.size ≤ (Addr.mk h 2 none).block from hhb) (.int .u8 (33 + (z : Int)))
        have hl12 : Hid ((((putB x).take 3).set 2 (UInt8.ofNat (33 + z))).length = 3) := Lib.hid (by rw [List.length_set, hl3.out])
        clear hH11 hcut hF11 hG11 hw11
        go_wp2_with fail
        (with_reducible refine (next_at (some ⟨h, 0, none⟩) 3 ch (((putB x).take 3).set 2 (UInt8.ofNat (33 + z))) (rej 11) _ hl12.out hch (by omega) hset.seen hlong.out).mono ?_)
        rintro e w13 ⟨B3, c3, rfl, -, hb13⟩
        have hw13 := hw12.trans (hb13.mono hw12.size)
        have hF13 := hF12.since hb13
        have hG13 := hG12.since hb13
        have hz13 := hw13.size
        have hlt1 := hF13.lt
        have hlt2 := hG13.lt
        clear hset hF12 hG12 hw12 hb13 c112 f112
        have hH13 := new_zf w13 30
        go_wp2_with (guard_target =~ wpList _ _ _ (Oper.mk _ (Op.store 30 _ _) _ _ _ _ :: _) _ _; refine wpList_store_arr (cs' := fv 3 1 11 (.slice B3 0 c3)) 4 rfl rfl rfl rfl hH13 (by kernel_rfl) rfl rfl (fv_one _ _ _ _ _ _) ?_)
        intro w14 hH14 ho14 hb14 hs14
        have hb1314 := (below_new w13 (.cells #[.int .i64 0, .int .i64 0, .int .i64 0, .slice none 0 0] 30)).trans hb14
        have hw14 := hw13.trans (hb1314.mono hz13)
        have hF14 := hF13.since hb1314
        have hG14 := hG13.since hb1314
        clear hH13 ho14 hb14 hs14 hb1314 hw13 hF13 hG13
        generalize w13.heap.size = y3 at hH14 ⊢
        obtain ⟨q0, q1, q2, q3⟩ := fv_cells hF14
        obtain ⟨r0, r1, r2, r3⟩ := fv_cells hG14
        obtain ⟨v0, v1, v2, v3⟩ := fv_cells hH14
        clear hF14 hG14 hH14
        go_wp2
        go_ret
        exact ⟨rfl, hw14⟩

theorem frameBursts (a0 : Option Addr) (len0 cap0 : Nat) (z0 : List Int) (a1 a2 : Int) (w : World) (w0 : Nums .u8 w a0 len0 cap0 z0) (w1 : (Lit.int .i64 a1).wf = true) (w2 : (Lit.int .u16 a2).wf = true) :
    Calls Try.prog 5 #[.slice a0 len0 cap0, .int .i64 a1, .int .u16 a2] w fun e w' => e = .returned (.bool true) ∧ Below w.heap.size w w' := by
  obtain ⟨x, rfl, hx, hc⟩ := seen_nums w0
  obtain ⟨t, rfl, ht⟩ : ∃ s : Nat, a2 = s ∧ s < 65536 := by
    have h' : 0 ≤ a2 ∧ a2 ≤ 65535 := by simpa [Lit.wf, IntKind.min, IntKind.max, IntKind.signed, IntKind.bits] using w2
    exact ⟨a2.toNat, by omega, by omega⟩
  have h1 : -9223372036854775808 ≤ a1 ∧ a1 ≤ 9223372036854775807 := by simpa [Lit.wf, IntKind.min, IntKind.max, IntKind.signed, IntKind.bits] using w1
  have hm : t ||| 32768 < 65536 := Nat.or_lt_two_pow (n := 16) ht (by decide)
  have hm15 : (t ||| 32768).testBit 15 = true := by rw [Nat.testBit_or, show (32768 : Nat) = 2 ^ 15 by decide, Nat.testBit_two_pow_self, Bool.or_true]
  obtain ⟨M, hM⟩ : ∃ M : Nat, 8 * (min x.length 32 + 2) = M := ⟨_, rfl⟩
  have hNp : 0 < (M : Int) := by omega
  have u1 := Int.lt_tmod_of_pos a1 hNp
  have u2 := Int.tmod_lt_of_pos a1 hNp
  obtain ⟨k, hk⟩ := Int.eq_ofNat_of_zero_le (a := (a1.tmod M + M).tmod M) (by rw [Int.tmod_eq_emod_of_nonneg (by omega)]; exact Int.emod_nonneg _ (by omega))
  have hkN : (k : Int) < M := by rw [← hk]; exact Int.tmod_lt_of_pos _ hNp
  exact bursts_core a0 _ cap0 (x.take 32) (min x.length 32) t a1 k (t ||| 32768) w (hx.take 32) rfl (by simp; omega) hc ht h1.1 h1.2 M hM.symm (by omega) (by omega) (a1.tmod M) u1 u2 rfl hk (or_top t ht) hm (Lib.hid hm15)
end Go.Proofs.Ytafhfimkgaecjaa.walks
