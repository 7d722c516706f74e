/-
  THE WALK OF 'WindowOnce': of any numbers, one behind the other, just those are new that were not new ahead, and are less than 64 below the greatest one that was. (Written by program: wip/tools/gen_window_once.py.)
-/
import Derived.Test.YtahfhanibiaimaaWin
import Derived.Test.YtahfhanibiaimaaWinArgs
import Derived.Test.YtahfhanibiaimaaInts
namespace Go.Proofs.Ytahfhanibiaimaa.walks
open Go.ChangeShapes Go.WideShapes Go.ChangeAt Go.RowKit Go.Proofs.Ytahfhanibiaimaa.octets Go.Proofs.Ytahfhanibiaimaa.window Go.Proofs.Ytahfhanibiaimaa.given
set_option linter.unusedVariables false
set_option linter.unusedSimpArgs false

theorem take_contains (U : List Int) (k : Nat) (h : k < U.length) (n : Int) : (U.take (k + 1)).contains n = ((U.take k).contains n || n == U[k]) := by
  rw [List.take_succ_eq_append_getElem h, Bool.eq_iff_iff, List.contains_iff_mem, Bool.or_eq_true, List.contains_iff_mem, List.mem_append, List.mem_singleton, beq_iff_eq]
/-- what a number leaves: the window, what has been new, and the greatest one -/
theorem once_step {x : Win} {U : List Int} (h : Has x U) (hok : okW x) {n : Int} (h0 : 0 ≤ n) (h1 : n ≤ 4294967295) (v : Win) (ok : Bool) (he : see x n = (v, ok)) :
    ok = (decide ((if U = [] then -1 else x.high) < 0 ∨ (if U = [] then -1 else x.high) - 64 < n) && !(U.contains n)) ∧ okW v ∧ (ok = false → U ≠ [] ∧ v = x ∧ Has v U) ∧ (ok = true → Has v (U ++ [n]) ∧ max (if U = [] then -1 else x.high) n = v.high) := by
  have hn := see_new h h0 h1
  have ho := see_ok hok n
  rw [he] at hn ho
  obtain ⟨n1, n2, n3⟩ := hn
  refine ⟨n1, ho, fun hf => ?_, fun ht => ⟨(n3 ht).1, ?_⟩⟩
  · have hv := n2 hf
    have hv : v = x := hv
    refine ⟨fun hU => ?_, hv, by rw [hv]; exact h⟩
    have n1 : ok = _ := n1
    rw [hf, hU] at n1
    simp at n1
  · have := (n3 ht).2
    have e : v.high = if U = [] then n else max x.high n := this
    rw [e]
    by_cases hU : U = []
    · rw [if_pos hU, if_pos hU]; omega
    · rw [if_neg hU, if_neg hU]
set_option maxRecDepth 100000 in
set_option maxHeartbeats 4000000 in
theorem once_core (H : CodeOk) (a : Option Addr) (len cap : Nat) (z : Nat → Int) (f : Int) (w : World) (hf : 0 ≤ f ∧ f < 4294967296) (hz : ∀ i, i < len → ∃ b o, a = some ⟨b, o, none⟩ ∧ b < w.heap.size ∧ w.cell? ⟨b, o + i, none⟩ = some (.int .u16 (z i)) ∧ 0 ≤ z i ∧ z i < 65536) :
    Calls Try.prog 3 #[.slice a len cap, .int .u32 f] w fun e w' => e = .returned (.bool true) ∧ Below w.heap.size w w' := by
  replace hz := Lib.hid hz
  go_enter Try.func3, Try.ntmps3
  try dsimp only [List.append]
  go_wp2_with fail
  (with_reducible refine (shown_any H _).mono ?_)
  rintro e w1 ⟨rfl, hw1⟩
  have hA1 := (new_win w1 27).alloc (.cells #[] 3)
  have hz1 := hw1.size
  have hw2 := (hw1.alloc hz1 (.cells #[.bool false, .int .i64 0, .int .u64 0] 27))
  have hO1 := OwnI.empty (w1.alloc (.cells #[.bool false, .int .i64 0, .int .u64 0] 27)) (w1.heap.size + 1) (by simp)
  have hw3 := hw2.alloc hw2.size (.cells #[] 3)
  rw [World.size_alloc] at hO1
  clear hw1 hw2
  go_wp2
  obtain ⟨g, hg⟩ : ∃ g, w1.heap.size = g := ⟨_, rfl⟩
  rw [hg] at hA1 hz1 hO1 ⊢
  go_loopw [7, 8, 9] (fun v h t W => ∃ (i : Nat) (U : List Int) (x : Win), i ≤ 100 ∧ U.length ≤ i ∧ t = .int .i64 i ∧ h = .int .i64 (if U = [] then -1 else x.high) ∧ Below w.heap.size w W ∧ Arr W g (wv x) ∧ OwnI W (g + 1) v U ∧ okW x ∧ Has x U) (fun _ _ t _ => 100 - (intOf t).toNat)
  case atStart => exact ⟨0, [], zW, by omega, Nat.le_refl _, rfl, rfl, hw3, hA1, hO1, zW_ok, has_nil⟩
  case round =>
    clear hw3 hA1 hO1
    obtain ⟨i, U, x, hi, hUi, rfl, rfl, hw, hA, hO, hok, hH⟩ := hrel
    by_cases h1 : i < len
    · by_cases h2 : i < 100
      · obtain ⟨b, o, rfl, hb, hcz, hz0, hz2⟩ := hz.out i h1
        have t1 : (i : Int) < (len : Int) := by omega
        have t2 : (i : Int) < 100 := by omega
        have cz := (hw.cell (p := ⟨b, o + i, none⟩) hb).trans hcz
        obtain ⟨n, hn⟩ : ∃ n, min (f + z i) 4294967295 = n := ⟨_, rfl⟩
        have hn0 : 0 ≤ n := by omega
        have hn1 : n ≤ 4294967295 := by omega
        generalize z i = zi at cz hn hz0 hz2
        obtain ⟨v, ok, he⟩ : ∃ v ok, see x n = (v, ok) := ⟨_, _, rfl⟩
        have hst := once_step hH hok hn0 hn1 v ok he
        have hx1 := hok.2.1
        have hx0 := hok.1
        have hcall := Lib.hid (fun W => H.see_at x v n ok W hok (by omega) (by omega) he)
        replace he : Unit → see x n = (v, ok) := fun _ => he
        obtain ⟨A, c, rfl, hmc, hcell⟩ := hO.parts (n := U.length) rfl
        obtain ⟨m, hm⟩ : ∃ m, U.length = m := ⟨_, rfl⟩
        have hcell' := Lib.hid hcell
        clear hcell hcz
        rw [hm] at hUi hmc ⊢
        rw [hm] at hO
        replace hm := Lib.hid hm
        have hm100 : m ≤ 100 := by omega
        have hgz := hA.lt
        obtain ⟨hfr, hokv, hno, hyes⟩ := hst
        replace hfr := Lib.hid hfr
        replace hno := Lib.hid hno
        replace hyes := Lib.hid hyes
        by_cases hU : U = []
        · rw [if_pos hU] at hfr hyes ⊢
          have hfr' : Hid (ok = (true && !(U.contains n))) := Lib.hid (by rw [hfr.out]; simp)
          clear hfr
          go_wp2
          go_loop [11, 12] (fun s t => ∃ k : Nat, k ≤ m ∧ t = .int .i64 k ∧ s = .bool (true && !((U.take k).contains n))) (fun _ t => m - (intOf t).toNat)
          case atStart => exact ⟨0, Nat.zero_le _, rfl, by simp⟩
          case round =>
            obtain ⟨k, hk, rfl, rfl⟩ := hrel
            by_cases hkm : k < m
            · have hkU : k < U.length := by rw [hm.out]; exact hkm
              obtain ⟨bb, rfl, hown, hcu⟩ := hcell'.out k hkU
              have t5 : (k : Int) < (m : Int) := by omega
              have htk := Lib.hid (take_contains U k hkU n)
              generalize U[k] = u at hcu htk
              obtain ⟨cc, hcc⟩ : ∃ cc, (true && !((U.take k).contains n)) = cc := ⟨_, rfl⟩
              rw [hcc]
              obtain ⟨d, hd⟩ : ∃ d, (u != n) = d := ⟨_, rfl⟩
              have hd' : Hid ((n == u) = !d) := Lib.hid (by rw [← hd, bne, Bool.not_not]; exact BEq.comm)
              have hnext : Hid ((true && !((U.take (k + 1)).contains n)) = (cc && d)) := Lib.hid (by rw [htk.out, hd'.out, ← hcc]; generalize (U.take k).contains n = q; generalize true = p; cases p <;> cases q <;> cases d <;> rfl)
              replace hcc := Lib.hid hcc
              clear htk hd'
              cases cc
              · go_wp2
                go_round
                case rel => exact ⟨k + 1, by omega, by go_num, by rw [hnext.out]; rfl⟩
                case measure => simp [intOf]; omega
              · go_wp2
                go_round
                case rel => exact ⟨k + 1, by omega, by go_num, by rw [hnext.out]; rfl⟩
                case measure => simp [intOf]; omega
            · obtain rfl : k = m := by omega
              have e : U.take k = U := by rw [List.take_of_length_le (by rw [hm.out]; exact Nat.le_refl _)]
              rw [e, ← hfr'.out]
              clear e hcell' hz
              go_wp2_with (guard_target =~ wpList _ _ _ (Oper.mk _ (Op.load 27 _) _ _ _ _ :: _) _ _; refine wpList_load_arr 3 rfl rfl rfl hA (by kernel_rfl) rfl ?_)
              refine (hcall.out _).mono ?_
              rintro e w4 ⟨rfl, hb4⟩
              have hA4 := hA.since hb4
              have hO4 := hO.since hb4
              have hw4 := hw.trans (hb4.mono hw.size)
              have hN4 := new_win w4 27
              have hlt4 := hA4.lt
              clear hA hO hw hb4 hcall
              go_wp2_with (guard_target =~ wpList _ _ _ (Oper.mk _ (Op.store 27 _ _) _ _ _ _ :: _) _ _; refine wpList_store_arr (cs' := wv v) 3 rfl rfl rfl rfl hN4 (by kernel_rfl) rfl rfl (wv_one _) ?_)
              intro w5 hN5 ho5 hb5 hs5
              have hA5 := (hA4.alloc (.cells #[.bool false, .int .i64 0, .int .u64 0] 27)).of_block (ho5 _ (by omega))
              have hO5 := (hO4.alloc (.cells #[.bool false, .int .i64 0, .int .u64 0] 27)).of_block (fun q e => ho5 q (by have := (hO4.lt e).2; omega))
              have hw5 := (hw4.alloc hw4.size (.cells #[.bool false, .int .i64 0, .int .u64 0] 27)).trans (hb5.mono hw4.size)
              clear hN4 hA4 hO4 hw4 ho5 hb5 hs5
              cases ok
              · exact absurd hU (hno.out rfl).1
              · obtain ⟨hHv, hmx⟩ := hyes.out rfl
                have hb0 := has_bit0 hHv (by simp)
                have hbit : bits BinOp.and IntKind.u64 (v.seen : Int) 1 = 1 := by rw [bit0 hokv.2.2, hb0.2]; rfl
                have hv0 := hokv.1
                replace hno := ()
                replace hyes := ()
                go_wp2_with (first | (guard_target =~ wpList _ _ _ (Oper.mk _ (Op.load 27 _) _ _ _ _ :: _) _ _; refine wpList_load_arr_any 3 rfl rfl rfl hN5 (by kernel_rfl) rfl ?_) | (guard_target =~ wpList _ _ _ (Oper.mk _ (Op.store 27 _ _) _ _ _ _ :: _) _ _; refine wpList_store_arr (cs' := wv v) 3 rfl rfl rfl rfl hA5 (by kernel_rfl) rfl rfl (wv_one _) ?_))
                intro w6 hA6 ho6 hb6 hs6
                have hw6 := hw5.trans (hb6.mono hz1)
                have hO6 := hO5.of_block (fun q e => ho6 q (by have := (hO5.lt e).1; omega))
                clear hA5 hO5 hw5 ho6 hb6 hN5 hs6
                have hsz6 := hw6.size
                have hgw := hA6.lt
                have hA7 := hA6.alloc (.cells #[.int .i64 n] 3)
                have hO7 := hO6.alloc (.cells #[.int .i64 n] 3)
                have hw7 := hw6.alloc hsz6 (.cells #[.int .i64 n] 3)
                have hc7 := (Arr.new_at w6 [.int .i64 n] #[.int .i64 n] 3 rfl).cell (i := 0) rfl
                clear hA6 hO6 hw6
                have hl9 : U.length ≤ 1048576 := by rw [hm.out]; omega
                have hz9 : g + 1 ≤ (w6.alloc (.cells #[.int .i64 n] 3)).heap.size := by rw [World.size_alloc]; omega
                replace hl9 := Lib.hid hl9
                replace hz9 := Lib.hid hz9
                go_wp2_with (at_builtin; refine wpList_append_int _ rfl _ _ rfl (g + 1) _ U rfl hO7 w6.heap.size n rfl hc7 hl9.out hz9.out ?_)
                intro v8 w8 hO8 hg8 hat8
                have hA8 := hA7.of_block (hg8.block g hA7.lt (fun e => by have := (hO7.lt e.symm).1; omega))
                have hw8 := hO7.grew hw7 (by omega) hw7.size hg8
                have c0 := hA8.cell (i := 0) rfl
                have c1 := hA8.cell (i := 1) rfl
                have c2' := hA8.cell (i := 2) rfl
                rw [hb0.1] at c0
                clear hA7 hO7 hw7 hc7 hg8 hat8
                go_wp2
                go_roundw
                case rel => exact ⟨i + 1, U ++ [n], v, by omega, by rw [List.length_append, hm.out]; simp; omega, by go_num, by rw [if_neg (by simp)], hw8, hA8, (by first | exact hO8 | (rw [hU]; exact hO8)), hokv, hHv⟩
                case measure => simp [intOf]; omega
        · rw [if_neg hU] at hfr hyes ⊢
          have t3 : ¬ (x.high < 0) := by omega
          obtain ⟨c2, t4⟩ : ∃ c2, decide (x.high - 64 < n) = c2 := ⟨_, rfl⟩
          have hfr' : Hid (ok = (c2 && !(U.contains n))) := Lib.hid (by rw [hfr.out, ← t4]; congr 1; simp; omega)
          clear hfr
          go_wp2
          go_loop [11, 12] (fun s t => ∃ k : Nat, k ≤ m ∧ t = .int .i64 k ∧ s = .bool (c2 && !((U.take k).contains n))) (fun _ t => m - (intOf t).toNat)
          case atStart => exact ⟨0, Nat.zero_le _, rfl, by simp⟩
          case round =>
            obtain ⟨k, hk, rfl, rfl⟩ := hrel
            by_cases hkm : k < m
            · have hkU : k < U.length := by rw [hm.out]; exact hkm
              obtain ⟨bb, rfl, hown, hcu⟩ := hcell'.out k hkU
              have t5 : (k : Int) < (m : Int) := by omega
              have htk := Lib.hid (take_contains U k hkU n)
              generalize U[k] = u at hcu htk
              obtain ⟨cc, hcc⟩ : ∃ cc, (c2 && !((U.take k).contains n)) = cc := ⟨_, rfl⟩
              rw [hcc]
              obtain ⟨d, hd⟩ : ∃ d, (u != n) = d := ⟨_, rfl⟩
              have hd' : Hid ((n == u) = !d) := Lib.hid (by rw [← hd, bne, Bool.not_not]; exact BEq.comm)
              have hnext : Hid ((c2 && !((U.take (k + 1)).contains n)) = (cc && d)) := Lib.hid (by rw [htk.out, hd'.out, ← hcc]; generalize (U.take k).contains n = q; generalize c2 = p; cases p <;> cases q <;> cases d <;> rfl)
              replace hcc := Lib.hid hcc
              clear htk hd'
              cases cc
              · go_wp2
                go_round
                case rel => exact ⟨k + 1, by omega, by go_num, by rw [hnext.out]; rfl⟩
                case measure => simp [intOf]; omega
              · go_wp2
                go_round
                case rel => exact ⟨k + 1, by omega, by go_num, by rw [hnext.out]; rfl⟩
                case measure => simp [intOf]; omega
            · obtain rfl : k = m := by omega
              have e : U.take k = U := by rw [List.take_of_length_le (by rw [hm.out]; exact Nat.le_refl _)]
              rw [e, ← hfr'.out]
              clear e hcell' hz
              go_wp2_with (guard_target =~ wpList _ _ _ (Oper.mk _ (Op.load 27 _) _ _ _ _ :: _) _ _; refine wpList_load_arr 3 rfl rfl rfl hA (by kernel_rfl) rfl ?_)
              refine (hcall.out _).mono ?_
              rintro e w4 ⟨rfl, hb4⟩
              have hA4 := hA.since hb4
              have hO4 := hO.since hb4
              have hw4 := hw.trans (hb4.mono hw.size)
              have hN4 := new_win w4 27
              have hlt4 := hA4.lt
              clear hA hO hw hb4 hcall
              go_wp2_with (guard_target =~ wpList _ _ _ (Oper.mk _ (Op.store 27 _ _) _ _ _ _ :: _) _ _; refine wpList_store_arr (cs' := wv v) 3 rfl rfl rfl rfl hN4 (by kernel_rfl) rfl rfl (wv_one _) ?_)
              intro w5 hN5 ho5 hb5 hs5
              have hA5 := (hA4.alloc (.cells #[.bool false, .int .i64 0, .int .u64 0] 27)).of_block (ho5 _ (by omega))
              have hO5 := (hO4.alloc (.cells #[.bool false, .int .i64 0, .int .u64 0] 27)).of_block (fun q e => ho5 q (by have := (hO4.lt e).2; omega))
              have hw5 := (hw4.alloc hw4.size (.cells #[.bool false, .int .i64 0, .int .u64 0] 27)).trans (hb5.mono hw4.size)
              clear hN4 hA4 hO4 hw4 ho5 hb5 hs5
              cases ok
              · obtain ⟨_, hvx, hHv⟩ := hno.out rfl
                subst hvx
                have hq := fun W => neq_win v v W
                rw [show (!decide (v = v)) = false by simp] at hq
                have hb0 := has_bit0 hHv hU
                go_wp2_with (first | (guard_target =~ wpList _ _ _ (Oper.mk _ (Op.load 27 (Operand.tmp 13)) _ _ _ _ :: _) _ _; refine wpList_load_arr_any 3 rfl rfl rfl hN5 (by kernel_rfl) rfl ?_) | (guard_target =~ wpList _ _ _ (Oper.mk _ (Op.load 27 (Operand.tmp 6)) _ _ _ _ :: _) _ _; refine wpList_load_arr_any 3 rfl rfl rfl hA5 (by kernel_rfl) rfl ?_) | (guard_target =~ wpList _ _ _ (Oper.mk _ (Op.store 27 _ _) _ _ _ _ :: _) _ _; refine wpList_store_arr (cs' := wv v) 3 rfl rfl rfl rfl hA5 (by kernel_rfl) rfl rfl (wv_one _) ?_))
                intro w6 hA6 ho6 hb6 hs6
                have hw6 := hw5.trans (hb6.mono hz1)
                have hO6 := hO5.of_block (fun q e => ho6 q (by have := (hO5.lt e).1; omega))
                clear hA5 hO5 hw5 ho6 hb6 hN5 hs6
                have hbit : bits BinOp.and IntKind.u64 (v.seen : Int) 1 = 1 := by rw [bit0 hokv.2.2, hb0.2]; rfl
                have c0 := hA6.cell (i := 0) rfl
                have c1 := hA6.cell (i := 1) rfl
                have c2' := hA6.cell (i := 2) rfl
                rw [hb0.1] at c0
                clear hq hno hyes
                go_wp2
                go_roundw
                case rel => exact ⟨i + 1, U, v, by omega, by rw [hm.out]; omega, by go_num, by rw [if_neg hU], hw6, hA6, by rw [OwnI, hm.out]; exact hm.out ▸ hO6, hokv, hHv⟩
                case measure => simp [intOf]; omega
              · obtain ⟨hHv, hmx⟩ := hyes.out rfl
                have hb0 := has_bit0 hHv (by simp)
                have hbit : bits BinOp.and IntKind.u64 (v.seen : Int) 1 = 1 := by rw [bit0 hokv.2.2, hb0.2]; rfl
                have hv0 := hokv.1
                replace hno := ()
                replace hyes := ()
                go_wp2_with (first | (guard_target =~ wpList _ _ _ (Oper.mk _ (Op.load 27 _) _ _ _ _ :: _) _ _; refine wpList_load_arr_any 3 rfl rfl rfl hN5 (by kernel_rfl) rfl ?_) | (guard_target =~ wpList _ _ _ (Oper.mk _ (Op.store 27 _ _) _ _ _ _ :: _) _ _; refine wpList_store_arr (cs' := wv v) 3 rfl rfl rfl rfl hA5 (by kernel_rfl) rfl rfl (wv_one _) ?_))
                intro w6 hA6 ho6 hb6 hs6
                have hw6 := hw5.trans (hb6.mono hz1)
                have hO6 := hO5.of_block (fun q e => ho6 q (by have := (hO5.lt e).1; omega))
                clear hA5 hO5 hw5 ho6 hb6 hN5 hs6
                have hsz6 := hw6.size
                have hgw := hA6.lt
                have hA7 := hA6.alloc (.cells #[.int .i64 n] 3)
                have hO7 := hO6.alloc (.cells #[.int .i64 n] 3)
                have hw7 := hw6.alloc hsz6 (.cells #[.int .i64 n] 3)
                have hc7 := (Arr.new_at w6 [.int .i64 n] #[.int .i64 n] 3 rfl).cell (i := 0) rfl
                clear hA6 hO6 hw6
                have hl9 : U.length ≤ 1048576 := by rw [hm.out]; omega
                have hz9 : g + 1 ≤ (w6.alloc (.cells #[.int .i64 n] 3)).heap.size := by rw [World.size_alloc]; omega
                replace hl9 := Lib.hid hl9
                replace hz9 := Lib.hid hz9
                go_wp2_with (at_builtin; refine wpList_append_int _ rfl _ _ rfl (g + 1) _ U rfl hO7 w6.heap.size n rfl hc7 hl9.out hz9.out ?_)
                intro v8 w8 hO8 hg8 hat8
                have hA8 := hA7.of_block (hg8.block g hA7.lt (fun e => by have := (hO7.lt e.symm).1; omega))
                have hw8 := hO7.grew hw7 (by omega) hw7.size hg8
                have c0 := hA8.cell (i := 0) rfl
                have c1 := hA8.cell (i := 1) rfl
                have c2' := hA8.cell (i := 2) rfl
                rw [hb0.1] at c0
                clear hA7 hO7 hw7 hc7 hg8 hat8
                go_wp2
                go_roundw
                case rel => exact ⟨i + 1, U ++ [n], v, by omega, by rw [List.length_append, hm.out]; simp; omega, by go_num, by rw [if_neg (by simp)], hw8, hA8, (by first | exact hO8 | (rw [hU]; exact hO8)), hokv, hHv⟩
                case measure => simp [intOf]; omega
      · have t1 : (i : Int) < (len : Int) := by omega
        have t2 : ¬ ((i : Int) < 100) := by omega
        clear hz hH
        generalize (if U = [] then (-1 : Int) else x.high) = hh
        go_wp2
        go_ret
        exact ⟨rfl, hw⟩
    · have t1 : ¬ ((i : Int) < (len : Int)) := by omega
      clear hz hH
      generalize (if U = [] then (-1 : Int) else x.high) = hh
      go_wp2
      go_ret
      exact ⟨rfl, hw⟩
theorem once_given (H : CodeOk) (a : Option Addr) (len cap : Nat) (zs : List Int) (f : Int) (w : World) (h : Nums .u16 w a len cap zs) (hf : (Lit.int .u32 f).wf = true) :
    Calls Try.prog 3 #[.slice a len cap, .int .u32 f] w fun e w' => e = .returned (.bool true) ∧ Below w.heap.size w w' := by
  obtain ⟨z, hz⟩ := nums_16 h
  exact once_core H a len cap z f w (wf32 hf) hz
end Go.Proofs.Ytahfhanibiaimaa.walks
