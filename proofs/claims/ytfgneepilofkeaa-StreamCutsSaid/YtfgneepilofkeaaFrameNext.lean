/-
  THE CONTRACT OF frame's Next. (Written by program: a way through it each.)
-/
import Derived.Test.YtfgneepilofkeaaFrameMeas
namespace Go.Proofs.Ytfgneepilofkeaa.frame
open Go.RowKit Go.Proofs.Ytfgneepilofkeaa.octets Go.Proofs.Ytfgneepilofkeaa.crc
set_option linter.unusedVariables false
set_option linter.unusedSimpArgs false

set_option maxRecDepth 100000 in
set_option maxHeartbeats 4000000 in
theorem next_ok (A : Option Addr) (n c : Nat) (l : List UInt8) (w : World) (hl : l.length = n) (hc : n ≤ c) (hn : n ≤ 1048576) (hs : Seen w A l) :
    Calls Try.prog 19 #[.slice A n c] w fun e w' => ∃ v, e = .returned v ∧ Is w' w.heap.size v (nextB l) ∧ Below w.heap.size w w' := by
  have hwk : Below w.heap.size w ((w.alloc (.cells #[.int .i64 0, .int .i64 0, .int .i64 0, .slice none 0 0] 48)).alloc (.cells #[.int .i64 0, .int .i64 0, .int .i64 0, .slice none 0 0] 48)) := (below_new _ _).alloc (by simp) _
  have hRk := (new_zf w 48).alloc (.cells #[.int .i64 0, .int .i64 0, .int .i64 0, .slice none 0 0] 48)
  have hFk := new_zf (w.alloc (.cells #[.int .i64 0, .int .i64 0, .int .i64 0, .slice none 0 0] 48)) 48
  rw [World.size_alloc] at hFk
  by_cases hn0 : n = 0
  · subst hn0
    have e : nextB l = wait := by unfold nextB; rw [if_pos hl]
    rw [e]
    go_enter Try.func19, Try.ntmps19
    go_wp2
    exact ret_arr rfl w.heap.size _ _ rfl hRk Try.underlying48 rfl (by kernel_rfl) rfl ⟨_, rfl, is_wait _ _, hwk⟩
  obtain ⟨b, o, rfl, hb, hcl⟩ := hs.at_ (k := 0) (by omega)
  have hcell : ∀ i, i < n → ∀ W : World, Below w.heap.size w W → W.cell? ⟨b, o + i, none⟩ = some (.int .u8 ((l.getD i 0).toNat : Int)) := fun i hi W hW => by
    rw [hW.cell hb, hcl i (by omega)]
    simp [List.getD_eq_getElem?_getD, List.getElem?_eq_getElem (show i < l.length by omega)]
  obtain ⟨x0, hx0⟩ : ∃ x, (l.getD 0 0).toNat = x := ⟨_, rfl⟩
  obtain ⟨x1, hx1⟩ : ∃ x, (l.getD 1 0).toNat = x := ⟨_, rfl⟩
  have q0 : l.getD 0 0 = 165 ↔ x0 = 165 := by rw [← hx0, ← UInt8.toNat_inj]; rfl
  have q1 : l.getD 1 0 = 1 ↔ x1 = 1 := by rw [← hx1, ← UInt8.toNat_inj]; rfl
  have hx08 : x0 < 256 := by rw [← hx0]; exact UInt8.toNat_lt _
  have hx18 : x1 < 256 := by rw [← hx1]; exact UInt8.toNat_lt _
  clear hcl
  replace hcell := Lib.hid hcell
  have hw0 := hwk
  have hlen : ¬ l.length = 0 := by omega
  have c0 := hcell.out 0 (by omega) _ hwk
  rw [hx0, Nat.add_zero] at c0
  by_cases hn1 : n = 1
  · subst hn1
    by_cases hb0 : x0 = 165
    · rw [hb0] at c0 hx0
      simp only [show ((165 : Nat) : Int) = 165 from rfl] at c0
      have e : nextB l = wait := by
        unfold nextB
        rw [if_neg hlen, if_neg (fun h => h (q0.2 hb0)), if_pos hl]
      rw [e]
      clear e
      go_enter Try.func19, Try.ntmps19
      go_wp2
      exact ret_arr rfl w.heap.size _ _ rfl hRk Try.underlying48 rfl (by kernel_rfl) rfl ⟨_, rfl, is_wait _ _, hwk⟩
    · have t0 : ((x0 : Int) != 165) = true := by rw [bne_iff_ne]; omega
      have e : nextB l = ⟨1, skipN l, 0, []⟩ := by
        unfold nextB
        rw [if_neg hlen, if_pos (fun h => hb0 (q0.1 h))]
      rw [e]
      clear e
      go_enter Try.func19, Try.ntmps19
      go_wp2_with fail
      (with_reducible refine (skip_ok (some ⟨b, o, none⟩) 1 c l _ hl (by omega) (hs.since hwk)).mono ?_)
      rintro e u1 ⟨rfl, hb1⟩
      have hR1 := hRk.since hb1
      have hF1 := hFk.since hb1
      have hw1 := hwk.trans (hb1.mono hwk.size)
      clear hRk hFk hwk
      have hlt1 := hR1.lt
      go_wp2_with (guard_target =~ wpList _ _ _ (Oper.mk _ (Op.store _ _ _) _ _ _ _ :: _) _ _; refine wpList_store_arr (cs' := fv 1 (skipN l : Int) 0 (.slice none 0 0)) 4 rfl rfl rfl rfl hF1 (by kernel_rfl) rfl rfl (fv_one _ _ _ _ _ _) ?_)
      intro W1 hFk ho1 hq1 hz1
      have hRk := hR1.of_block (ho1 _ (by omega))
      have hwk := hw1.trans (hq1.mono (by omega))
      have c0 := hcell.out 0 (by omega) _ hwk
      rw [hx0, Nat.add_zero] at c0
      go_wp2_with (first | (guard_target =~ wpList _ _ _ (Oper.mk _ (Op.load _ _) _ _ _ _ :: _) _ _; refine wpList_load_arr 4 rfl rfl rfl hFk (by kernel_rfl) rfl ?_) | (guard_target =~ wpList _ _ _ (Oper.mk _ (Op.store _ _ _) _ _ _ _ :: _) _ _; refine wpList_store_arr (cs' := fv 1 (skipN l : Int) 0 (.slice none 0 0)) 4 rfl rfl rfl rfl hRk (by kernel_rfl) rfl rfl (fv_one _ _ _ _ _ _) ?_))
      intro W9 hR9 ho9 hb9 hs9
      have hw9 := hwk.trans hb9
      go_wp2
      exact ret_arr rfl w.heap.size _ _ rfl hR9 Try.underlying48 rfl (by kernel_rfl) rfl ⟨_, rfl, is_skip _ _ _, hw9⟩
  have c1 := hcell.out 1 (by omega) _ hwk
  rw [hx1] at c1
  by_cases hn2 : n = 2
  · subst hn2
    by_cases hb1 : x1 = 1
    · rw [hb1] at c1 hx1
      simp only [show ((1 : Nat) : Int) = 1 from rfl] at c1
      by_cases hb0 : x0 = 165
      · rw [hb0] at c0 hx0
        simp only [show ((165 : Nat) : Int) = 165 from rfl] at c0
        have e : nextB l = wait := by
          unfold nextB
          rw [if_neg hlen, if_neg (fun h => h (q0.2 hb0)), if_neg (by omega), if_neg (fun h => h (q1.2 hb1)), if_pos hl]
        rw [e]
        clear e
        go_enter Try.func19, Try.ntmps19
        go_wp2
        exact ret_arr rfl w.heap.size _ _ rfl hRk Try.underlying48 rfl (by kernel_rfl) rfl ⟨_, rfl, is_wait _ _, hwk⟩
      · have t0 : ((x0 : Int) != 165) = true := by rw [bne_iff_ne]; omega
        have e : nextB l = ⟨1, skipN l, 0, []⟩ := by
          unfold nextB
          rw [if_neg hlen, if_pos (fun h => hb0 (q0.1 h))]
        rw [e]
        clear e
        go_enter Try.func19, Try.ntmps19
        go_wp2_with fail
        (with_reducible refine (skip_ok (some ⟨b, o, none⟩) 2 c l _ hl (by omega) (hs.since hwk)).mono ?_)
        rintro e u1 ⟨rfl, hb1⟩
        have hR1 := hRk.since hb1
        have hF1 := hFk.since hb1
        have hw1 := hwk.trans (hb1.mono hwk.size)
        clear hRk hFk hwk
        have hlt1 := hR1.lt
        go_wp2_with (guard_target =~ wpList _ _ _ (Oper.mk _ (Op.store _ _ _) _ _ _ _ :: _) _ _; refine wpList_store_arr (cs' := fv 1 (skipN l : Int) 0 (.slice none 0 0)) 4 rfl rfl rfl rfl hF1 (by kernel_rfl) rfl rfl (fv_one _ _ _ _ _ _) ?_)
        intro W1 hFk ho1 hq1 hz1
        have hRk := hR1.of_block (ho1 _ (by omega))
        have hwk := hw1.trans (hq1.mono (by omega))
        have c0 := hcell.out 0 (by omega) _ hwk
        rw [hx0, Nat.add_zero] at c0
        have c1 := hcell.out 1 (by omega) _ hwk
        rw [hx1] at c1
        simp only [show ((1 : Nat) : Int) = 1 from rfl] at c1
        go_wp2_with (first | (guard_target =~ wpList _ _ _ (Oper.mk _ (Op.load _ _) _ _ _ _ :: _) _ _; refine wpList_load_arr 4 rfl rfl rfl hFk (by kernel_rfl) rfl ?_) | (guard_target =~ wpList _ _ _ (Oper.mk _ (Op.store _ _ _) _ _ _ _ :: _) _ _; refine wpList_store_arr (cs' := fv 1 (skipN l : Int) 0 (.slice none 0 0)) 4 rfl rfl rfl rfl hRk (by kernel_rfl) rfl rfl (fv_one _ _ _ _ _ _) ?_))
        intro W9 hR9 ho9 hb9 hs9
        have hw9 := hwk.trans hb9
        go_wp2
        exact ret_arr rfl w.heap.size _ _ rfl hR9 Try.underlying48 rfl (by kernel_rfl) rfl ⟨_, rfl, is_skip _ _ _, hw9⟩
    · have t1 : ((x1 : Int) != 1) = true := by rw [bne_iff_ne]; omega
      by_cases hb0 : x0 = 165
      · rw [hb0] at c0 hx0
        simp only [show ((165 : Nat) : Int) = 165 from rfl] at c0
        have e : nextB l = rej 10 := by
          unfold nextB
          rw [if_neg hlen, if_neg (fun h => h (q0.2 hb0)), if_neg (by omega), if_pos (fun h => hb1 (q1.1 h))]
        rw [e]
        clear e
        go_enter Try.func19, Try.ntmps19
        go_wp2_with fail
        (with_reducible refine (reject_ok 10 _).mono ?_)
        rintro e u1 ⟨rfl, hb1⟩
        have hR1 := hRk.since hb1
        have hF1 := hFk.since hb1
        have hw1 := hwk.trans (hb1.mono hwk.size)
        clear hRk hFk hwk
        have hlt1 := hR1.lt
        go_wp2_with (guard_target =~ wpList _ _ _ (Oper.mk _ (Op.store _ _ _) _ _ _ _ :: _) _ _; refine wpList_store_arr (cs' := fv 3 1 10 (.slice none 0 0)) 4 rfl rfl rfl rfl hF1 (by kernel_rfl) rfl rfl (fv_one _ _ _ _ _ _) ?_)
        intro W1 hFk ho1 hq1 hz1
        have hRk := hR1.of_block (ho1 _ (by omega))
        have hwk := hw1.trans (hq1.mono (by omega))
        have c0 := hcell.out 0 (by omega) _ hwk
        rw [hx0, Nat.add_zero] at c0
        simp only [show ((165 : Nat) : Int) = 165 from rfl] at c0
        have c1 := hcell.out 1 (by omega) _ hwk
        rw [hx1] at c1
        go_wp2_with (first | (guard_target =~ wpList _ _ _ (Oper.mk _ (Op.load _ _) _ _ _ _ :: _) _ _; refine wpList_load_arr 4 rfl rfl rfl hFk (by kernel_rfl) rfl ?_) | (guard_target =~ wpList _ _ _ (Oper.mk _ (Op.store _ _ _) _ _ _ _ :: _) _ _; refine wpList_store_arr (cs' := fv 3 1 10 (.slice none 0 0)) 4 rfl rfl rfl rfl hRk (by kernel_rfl) rfl rfl (fv_one _ _ _ _ _ _) ?_))
        intro W9 hR9 ho9 hb9 hs9
        have hw9 := hwk.trans hb9
        go_wp2
        exact ret_arr rfl w.heap.size _ _ rfl hR9 Try.underlying48 rfl (by kernel_rfl) rfl ⟨_, rfl, is_rej _ _ 10, hw9⟩
      · have t0 : ((x0 : Int) != 165) = true := by rw [bne_iff_ne]; omega
        have e : nextB l = ⟨1, skipN l, 0, []⟩ := by
          unfold nextB
          rw [if_neg hlen, if_pos (fun h => hb0 (q0.1 h))]
        rw [e]
        clear e
        go_enter Try.func19, Try.ntmps19
        go_wp2_with fail
        (with_reducible refine (reject_ok 10 _).mono ?_)
        rintro e u1 ⟨rfl, hb1⟩
        have hR1 := hRk.since hb1
        have hF1 := hFk.since hb1
        have hw1 := hwk.trans (hb1.mono hwk.size)
        clear hRk hFk hwk
        have hlt1 := hR1.lt
        go_wp2_with (guard_target =~ wpList _ _ _ (Oper.mk _ (Op.store _ _ _) _ _ _ _ :: _) _ _; refine wpList_store_arr (cs' := fv 3 1 10 (.slice none 0 0)) 4 rfl rfl rfl rfl hF1 (by kernel_rfl) rfl rfl (fv_one _ _ _ _ _ _) ?_)
        intro W1 hFk ho1 hq1 hz1
        have hRk := hR1.of_block (ho1 _ (by omega))
        have hwk := hw1.trans (hq1.mono (by omega))
        have c0 := hcell.out 0 (by omega) _ hwk
        rw [hx0, Nat.add_zero] at c0
        have c1 := hcell.out 1 (by omega) _ hwk
        rw [hx1] at c1
        go_wp2_with fail
        (with_reducible refine (skip_ok (some ⟨b, o, none⟩) 2 c l _ hl (by omega) (hs.since hwk)).mono ?_)
        rintro e u2 ⟨rfl, hb2⟩
        have hR2 := hRk.since hb2
        have hF2 := hFk.since hb2
        have hw2 := hwk.trans (hb2.mono hwk.size)
        clear hRk hFk hwk
        have hlt2 := hR2.lt
        go_wp2_with (guard_target =~ wpList _ _ _ (Oper.mk _ (Op.store _ _ _) _ _ _ _ :: _) _ _; refine wpList_store_arr (cs' := fv 1 (skipN l : Int) 0 (.slice none 0 0)) 4 rfl rfl rfl rfl hF2 (by kernel_rfl) rfl rfl (fv_one _ _ _ _ _ _) ?_)
        intro W2 hFk ho2 hq2 hz2
        have hRk := hR2.of_block (ho2 _ (by omega))
        have hwk := hw2.trans (hq2.mono (by omega))
        have c0 := hcell.out 0 (by omega) _ hwk
        rw [hx0, Nat.add_zero] at c0
        have c1 := hcell.out 1 (by omega) _ hwk
        rw [hx1] at c1
        go_wp2_with (first | (guard_target =~ wpList _ _ _ (Oper.mk _ (Op.load _ _) _ _ _ _ :: _) _ _; refine wpList_load_arr 4 rfl rfl rfl hFk (by kernel_rfl) rfl ?_) | (guard_target =~ wpList _ _ _ (Oper.mk _ (Op.store _ _ _) _ _ _ _ :: _) _ _; refine wpList_store_arr (cs' := fv 1 (skipN l : Int) 0 (.slice none 0 0)) 4 rfl rfl rfl rfl hRk (by kernel_rfl) rfl rfl (fv_one _ _ _ _ _ _) ?_))
        intro W9 hR9 ho9 hb9 hs9
        have hw9 := hwk.trans hb9
        go_wp2
        exact ret_arr rfl w.heap.size _ _ rfl hR9 Try.underlying48 rfl (by kernel_rfl) rfl ⟨_, rfl, is_skip _ _ _, hw9⟩
  have h3 : 3 ≤ n := by omega
  have hnn1 : ¬ (n : Int) = 1 := by omega
  have hnn2 : ¬ (n : Int) = 2 := by omega
  have hnn0 : ¬ (n : Int) = 0 := by omega
  by_cases hb1 : x1 = 1
  · rw [hb1] at c1 hx1
    simp only [show ((1 : Nat) : Int) = 1 from rfl] at c1
    by_cases hb0 : x0 = 165
    · rw [hb0] at c0 hx0
      simp only [show ((165 : Nat) : Int) = 165 from rfl] at c0
      have e : nextB l = measB l := by
        unfold nextB
        rw [if_neg hlen, if_neg (fun h => h (q0.2 hb0)), if_neg (by omega), if_neg (fun h => h (q1.2 hb1)), if_neg (by omega)]
      rw [e]
      clear e
      go_enter Try.func19, Try.ntmps19
      go_wp2_with fail
      (with_reducible refine (measured_ok (some ⟨b, o, none⟩) n c l _ hl h3 hc hn (hs.since hwk)).mono ?_)
      rintro e u1 ⟨v, rfl, hv, hb1⟩
      have hR1 := hRk.since hb1
      have hF1 := hFk.since hb1
      have hw1 := hwk.trans (hb1.mono hwk.size)
      clear hRk hFk hwk
      have hlt1 := hR1.lt
      obtain ⟨B, cb, rfl, hown⟩ := hv
      go_wp2_with (guard_target =~ wpList _ _ _ (Oper.mk _ (Op.store _ _ _) _ _ _ _ :: _) _ _; refine wpList_store_arr (cs' := fv (measB l).kind (measB l).size (measB l).code (.slice B (measB l).body.length cb)) 4 rfl rfl rfl rfl hF1 (by kernel_rfl) rfl rfl (fv_one _ _ _ _ _ _) ?_)
      intro W1 hFk ho1 hq1 hz1
      have hRk := hR1.of_block (ho1 _ (by omega))
      have hwk := hw1.trans (hq1.mono (by omega))
      have c0 := hcell.out 0 (by omega) _ hwk
      rw [hx0, Nat.add_zero] at c0
      simp only [show ((165 : Nat) : Int) = 165 from rfl] at c0
      have c1 := hcell.out 1 (by omega) _ hwk
      rw [hx1] at c1
      simp only [show ((1 : Nat) : Int) = 1 from rfl] at c1
      go_wp2_with (first | (guard_target =~ wpList _ _ _ (Oper.mk _ (Op.load _ _) _ _ _ _ :: _) _ _; refine wpList_load_arr 4 rfl rfl rfl hFk (by kernel_rfl) rfl ?_) | (guard_target =~ wpList _ _ _ (Oper.mk _ (Op.store _ _ _) _ _ _ _ :: _) _ _; refine wpList_store_arr (cs' := fv (measB l).kind (measB l).size (measB l).code (.slice B (measB l).body.length cb)) 4 rfl rfl rfl rfl hRk (by kernel_rfl) rfl rfl (fv_one _ _ _ _ _ _) ?_))
      intro W9 hR9 ho9 hb9 hs9
      have hw9 := hwk.trans hb9
      have hown9 := ((hown.of_block fun g hg => ho1 g (by have := (hown.lt hg).1; rw [World.size_alloc, World.size_alloc] at this; omega)).of_block fun g hg => ho9 g (by have := (hown.lt hg).1; rw [World.size_alloc, World.size_alloc] at this; omega)).mono hw0.size
      go_wp2
      exact ret_arr rfl w.heap.size _ _ rfl hR9 Try.underlying48 rfl (by kernel_rfl) rfl ⟨_, rfl, ⟨B, cb, rfl, hown9⟩, hw9⟩
    · have t0 : ((x0 : Int) != 165) = true := by rw [bne_iff_ne]; omega
      have e : nextB l = ⟨1, skipN l, 0, []⟩ := by
        unfold nextB
        rw [if_neg hlen, if_pos (fun h => hb0 (q0.1 h))]
      rw [e]
      clear e
      go_enter Try.func19, Try.ntmps19
      go_wp2_with fail
      (with_reducible refine (measured_ok (some ⟨b, o, none⟩) n c l _ hl h3 hc hn (hs.since hwk)).mono ?_)
      rintro e u1 ⟨v, rfl, hv, hb1⟩
      have hR1 := hRk.since hb1
      have hF1 := hFk.since hb1
      have hw1 := hwk.trans (hb1.mono hwk.size)
      clear hRk hFk hwk
      have hlt1 := hR1.lt
      obtain ⟨B, cb, rfl, hown⟩ := hv
      go_wp2_with (guard_target =~ wpList _ _ _ (Oper.mk _ (Op.store _ _ _) _ _ _ _ :: _) _ _; refine wpList_store_arr (cs' := fv (measB l).kind (measB l).size (measB l).code (.slice B (measB l).body.length cb)) 4 rfl rfl rfl rfl hF1 (by kernel_rfl) rfl rfl (fv_one _ _ _ _ _ _) ?_)
      intro W1 hFk ho1 hq1 hz1
      have hRk := hR1.of_block (ho1 _ (by omega))
      have hwk := hw1.trans (hq1.mono (by omega))
      have c0 := hcell.out 0 (by omega) _ hwk
      rw [hx0, Nat.add_zero] at c0
      have c1 := hcell.out 1 (by omega) _ hwk
      rw [hx1] at c1
      simp only [show ((1 : Nat) : Int) = 1 from rfl] at c1
      go_wp2_with fail
      (with_reducible refine (skip_ok (some ⟨b, o, none⟩) n c l _ hl (by omega) (hs.since hwk)).mono ?_)
      rintro e u2 ⟨rfl, hb2⟩
      have hR2 := hRk.since hb2
      have hF2 := hFk.since hb2
      have hw2 := hwk.trans (hb2.mono hwk.size)
      clear hRk hFk hwk
      have hlt2 := hR2.lt
      go_wp2_with (guard_target =~ wpList _ _ _ (Oper.mk _ (Op.store _ _ _) _ _ _ _ :: _) _ _; refine wpList_store_arr (cs' := fv 1 (skipN l : Int) 0 (.slice none 0 0)) 4 rfl rfl rfl rfl hF2 (by kernel_rfl) rfl rfl (fv_one _ _ _ _ _ _) ?_)
      intro W2 hFk ho2 hq2 hz2
      have hRk := hR2.of_block (ho2 _ (by omega))
      have hwk := hw2.trans (hq2.mono (by omega))
      have c0 := hcell.out 0 (by omega) _ hwk
      rw [hx0, Nat.add_zero] at c0
      have c1 := hcell.out 1 (by omega) _ hwk
      rw [hx1] at c1
      simp only [show ((1 : Nat) : Int) = 1 from rfl] at c1
      go_wp2_with (first | (guard_target =~ wpList _ _ _ (Oper.mk _ (Op.load _ _) _ _ _ _ :: _) _ _; refine wpList_load_arr 4 rfl rfl rfl hFk (by kernel_rfl) rfl ?_) | (guard_target =~ wpList _ _ _ (Oper.mk _ (Op.store _ _ _) _ _ _ _ :: _) _ _; refine wpList_store_arr (cs' := fv 1 (skipN l : Int) 0 (.slice none 0 0)) 4 rfl rfl rfl rfl hRk (by kernel_rfl) rfl rfl (fv_one _ _ _ _ _ _) ?_))
      intro W9 hR9 ho9 hb9 hs9
      have hw9 := hwk.trans hb9
      go_wp2
      exact ret_arr rfl w.heap.size _ _ rfl hR9 Try.underlying48 rfl (by kernel_rfl) rfl ⟨_, rfl, is_skip _ _ _, hw9⟩
  · have t1 : ((x1 : Int) != 1) = true := by rw [bne_iff_ne]; omega
    by_cases hb0 : x0 = 165
    · rw [hb0] at c0 hx0
      simp only [show ((165 : Nat) : Int) = 165 from rfl] at c0
      have e : nextB l = rej 10 := by
        unfold nextB
        rw [if_neg hlen, if_neg (fun h => h (q0.2 hb0)), if_neg (by omega), if_pos (fun h => hb1 (q1.1 h))]
      rw [e]
      clear e
      go_enter Try.func19, Try.ntmps19
      go_wp2_with fail
      (with_reducible refine (measured_ok (some ⟨b, o, none⟩) n c l _ hl h3 hc hn (hs.since hwk)).mono ?_)
      rintro e u1 ⟨v, rfl, hv, hb1⟩
      have hR1 := hRk.since hb1
      have hF1 := hFk.since hb1
      have hw1 := hwk.trans (hb1.mono hwk.size)
      clear hRk hFk hwk
      have hlt1 := hR1.lt
      obtain ⟨B, cb, rfl, hown⟩ := hv
      go_wp2_with (guard_target =~ wpList _ _ _ (Oper.mk _ (Op.store _ _ _) _ _ _ _ :: _) _ _; refine wpList_store_arr (cs' := fv (measB l).kind (measB l).size (measB l).code (.slice B (measB l).body.length cb)) 4 rfl rfl rfl rfl hF1 (by kernel_rfl) rfl rfl (fv_one _ _ _ _ _ _) ?_)
      intro W1 hFk ho1 hq1 hz1
      have hRk := hR1.of_block (ho1 _ (by omega))
      have hwk := hw1.trans (hq1.mono (by omega))
      have c0 := hcell.out 0 (by omega) _ hwk
      rw [hx0, Nat.add_zero] at c0
      simp only [show ((165 : Nat) : Int) = 165 from rfl] at c0
      have c1 := hcell.out 1 (by omega) _ hwk
      rw [hx1] at c1
      go_wp2_with fail
      (with_reducible refine (reject_ok 10 _).mono ?_)
      rintro e u2 ⟨rfl, hb2⟩
      have hR2 := hRk.since hb2
      have hF2 := hFk.since hb2
      have hw2 := hwk.trans (hb2.mono hwk.size)
      clear hRk hFk hwk
      have hlt2 := hR2.lt
      go_wp2_with (guard_target =~ wpList _ _ _ (Oper.mk _ (Op.store _ _ _) _ _ _ _ :: _) _ _; refine wpList_store_arr (cs' := fv 3 1 10 (.slice none 0 0)) 4 rfl rfl rfl rfl hF2 (by kernel_rfl) rfl rfl (fv_one _ _ _ _ _ _) ?_)
      intro W2 hFk ho2 hq2 hz2
      have hRk := hR2.of_block (ho2 _ (by omega))
      have hwk := hw2.trans (hq2.mono (by omega))
      have c0 := hcell.out 0 (by omega) _ hwk
      rw [hx0, Nat.add_zero] at c0
      simp only [show ((165 : Nat) : Int) = 165 from rfl] at c0
      have c1 := hcell.out 1 (by omega) _ hwk
      rw [hx1] at c1
      go_wp2_with (first | (guard_target =~ wpList _ _ _ (Oper.mk _ (Op.load _ _) _ _ _ _ :: _) _ _; refine wpList_load_arr 4 rfl rfl rfl hFk (by kernel_rfl) rfl ?_) | (guard_target =~ wpList _ _ _ (Oper.mk _ (Op.store _ _ _) _ _ _ _ :: _) _ _; refine wpList_store_arr (cs' := fv 3 1 10 (.slice none 0 0)) 4 rfl rfl rfl rfl hRk (by kernel_rfl) rfl rfl (fv_one _ _ _ _ _ _) ?_))
      intro W9 hR9 ho9 hb9 hs9
      have hw9 := hwk.trans hb9
      go_wp2
      exact ret_arr rfl w.heap.size _ _ rfl hR9 Try.underlying48 rfl (by kernel_rfl) rfl ⟨_, rfl, is_rej _ _ 10, hw9⟩
    · have t0 : ((x0 : Int) != 165) = true := by rw [bne_iff_ne]; omega
      have e : nextB l = ⟨1, skipN l, 0, []⟩ := by
        unfold nextB
        rw [if_neg hlen, if_pos (fun h => hb0 (q0.1 h))]
      rw [e]
      clear e
      go_enter Try.func19, Try.ntmps19
      go_wp2_with fail
      (with_reducible refine (measured_ok (some ⟨b, o, none⟩) n c l _ hl h3 hc hn (hs.since hwk)).mono ?_)
      rintro e u1 ⟨v, rfl, hv, hb1⟩
      have hR1 := hRk.since hb1
      have hF1 := hFk.since hb1
      have hw1 := hwk.trans (hb1.mono hwk.size)
      clear hRk hFk hwk
      have hlt1 := hR1.lt
      obtain ⟨B, cb, rfl, hown⟩ := hv
      go_wp2_with (guard_target =~ wpList _ _ _ (Oper.mk _ (Op.store _ _ _) _ _ _ _ :: _) _ _; refine wpList_store_arr (cs' := fv (measB l).kind (measB l).size (measB l).code (.slice B (measB l).body.length cb)) 4 rfl rfl rfl rfl hF1 (by kernel_rfl) rfl rfl (fv_one _ _ _ _ _ _) ?_)
      intro W1 hFk ho1 hq1 hz1
      have hRk := hR1.of_block (ho1 _ (by omega))
      have hwk := hw1.trans (hq1.mono (by omega))
      have c0 := hcell.out 0 (by omega) _ hwk
      rw [hx0, Nat.add_zero] at c0
      have c1 := hcell.out 1 (by omega) _ hwk
      rw [hx1] at c1
      go_wp2_with fail
      (with_reducible refine (reject_ok 10 _).mono ?_)
      rintro e u2 ⟨rfl, hb2⟩
      have hR2 := hRk.since hb2
      have hF2 := hFk.since hb2
      have hw2 := hwk.trans (hb2.mono hwk.size)
      clear hRk hFk hwk
      have hlt2 := hR2.lt
      go_wp2_with (guard_target =~ wpList _ _ _ (Oper.mk _ (Op.store _ _ _) _ _ _ _ :: _) _ _; refine wpList_store_arr (cs' := fv 3 1 10 (.slice none 0 0)) 4 rfl rfl rfl rfl hF2 (by kernel_rfl) rfl rfl (fv_one _ _ _ _ _ _) ?_)
      intro W2 hFk ho2 hq2 hz2
      have hRk := hR2.of_block (ho2 _ (by omega))
      have hwk := hw2.trans (hq2.mono (by omega))
      have c0 := hcell.out 0 (by omega) _ hwk
      rw [hx0, Nat.add_zero] at c0
      have c1 := hcell.out 1 (by omega) _ hwk
      rw [hx1] at c1
      go_wp2_with fail
      (with_reducible refine (skip_ok (some ⟨b, o, none⟩) n c l _ hl (by omega) (hs.since hwk)).mono ?_)
      rintro e u3 ⟨rfl, hb3⟩
      have hR3 := hRk.since hb3
      have hF3 := hFk.since hb3
      have hw3 := hwk.trans (hb3.mono hwk.size)
      clear hRk hFk hwk
      have hlt3 := hR3.lt
      go_wp2_with (guard_target =~ wpList _ _ _ (Oper.mk _ (Op.store _ _ _) _ _ _ _ :: _) _ _; refine wpList_store_arr (cs' := fv 1 (skipN l : Int) 0 (.slice none 0 0)) 4 rfl rfl rfl rfl hF3 (by kernel_rfl) rfl rfl (fv_one _ _ _ _ _ _) ?_)
      intro W3 hFk ho3 hq3 hz3
      have hRk := hR3.of_block (ho3 _ (by omega))
      have hwk := hw3.trans (hq3.mono (by omega))
      have c0 := hcell.out 0 (by omega) _ hwk
      rw [hx0, Nat.add_zero] at c0
      have c1 := hcell.out 1 (by omega) _ hwk
      rw [hx1] at c1
      go_wp2_with (first | (guard_target =~ wpList _ _ _ (Oper.mk _ (Op.load _ _) _ _ _ _ :: _) _ _; refine wpList_load_arr 4 rfl rfl rfl hFk (by kernel_rfl) rfl ?_) | (guard_target =~ wpList _ _ _ (Oper.mk _ (Op.store _ _ _) _ _ _ _ :: _) _ _; refine wpList_store_arr (cs' := fv 1 (skipN l : Int) 0 (.slice none 0 0)) 4 rfl rfl rfl rfl hRk (by kernel_rfl) rfl rfl (fv_one _ _ _ _ _ _) ?_))
      intro W9 hR9 ho9 hb9 hs9
      have hw9 := hwk.trans hb9
      go_wp2
      exact ret_arr rfl w.heap.size _ _ rfl hR9 Try.underlying48 rfl (by kernel_rfl) rfl ⟨_, rfl, is_skip _ _ _, hw9⟩
end Go.Proofs.Ytfgneepilofkeaa.frame
