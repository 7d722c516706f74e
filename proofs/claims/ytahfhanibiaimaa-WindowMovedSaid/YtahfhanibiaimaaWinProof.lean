/-
  THE CODE's See KEEPS ITS CONTRACT (at 2f51a6a: See asks whether with's window is another one).
-/
import Derived.Test.YtahfhanibiaimaaWin
import Derived.Test.YtahfhanibiaimaaWinBits
import Derived.StillTail
import Derived.StillTailTactics
import Derived.Test.YtahfhanibiaimaaMore
import Derived.Deep.RegionHeld3
import Derived.Deep.CutRange
namespace Go.Proofs.Ytahfhanibiaimaa.window
open Go.RowKit Go.Proofs.Ytahfhanibiaimaa.octets
set_option linter.unusedVariables false
set_option linter.unusedSimpArgs false
theorem or_same (s k : Nat) (h : s.testBit k = true) : s ||| 2 ^ k = s := by
  apply Nat.eq_of_testBit_eq
  intro i
  rw [Nat.testBit_or, Nat.testBit_two_pow]
  by_cases e : k = i
  · subst e; simp [h]
  · simp [e]
theorem or_other (s k : Nat) (h : ¬ s.testBit k = true) : s ||| 2 ^ k ≠ s := by
  intro e
  apply h
  rw [← e, Nat.testBit_or, Nat.testBit_two_pow]
  simp
/-- a number is new just if the window is another one then -/
theorem see_other (w : Win) (n : Int) : (!decide ((see w n).1 = w)) = (see w n).2 := by
  unfold see
  split
  · simp
  split
  · rename_i h
    obtain ⟨a, hi, s⟩ := w
    simp only at h
    subst h
    simp
  split
  · rename_i h
    obtain ⟨a, hi, s⟩ := w
    simp only at h
    simp
    omega
  split
  · simp
  · rename_i h
    obtain ⟨a, hi, s⟩ := w
    simp only [not_or] at h
    have := or_other s (hi - n).toNat h.2
    simp [this]
theorem ret_win1 {P : Program} {fn : Func} {R : Ending → World → Prop} {a : Act} {w : World} {p u : Tmp} {ty : TypeId} (h : fn.results = #[.cell p ty, .tmp u]) (g : Nat) (cs : List Value) (d : TypeDesc) (hp : a.tmps.getD p undef = .pointer (some ⟨g, 0, none⟩)) (hA : Arr w g cs)
    (hu : P.underlying ty = some d) (hd : d.isRow = true) (hi : (P.info? ty).map (·.size) = some cs.length) (hdf : a.defers = []) (hR : R (.returned (.tuple #[.agg cs.toArray, a.tmps.getD u undef])) w) : bodyPost P fn R .ret a w := by
  refine bodyPost_ret ?_ hdf hR
  rw [results_cell_tmp h, hp]
  have := run_loadVar_mid (P := P) w g 0 ty cs d hA.range hu hd hi
  simp [asAddr, Result.andThen, this]
theorem two_new (W : World) (o : Obj) (w : Win) (C : Array Value) (T : TypeId) (e : C = (wv w).toArray) : Arr ((W.alloc o).alloc (.cells C T)) (W.heap.size + 1) (wv w) := by
  have := Arr.new_at (W.alloc o) (wv w) C T e
  rw [World.size_alloc] at this
  exact this
theorem two_below (W : World) (o o' : Obj) : Below W.heap.size W ((W.alloc o).alloc o') := ((Below.refl _ _).alloc (Nat.le_refl _) _).alloc (by simp) _
theorem above_ok (n h k : Int) (W : World) (hk : n - h = k) (h0 : 0 ≤ k) (h1 : -4294967296 ≤ n) (h2 : n ≤ 8589934591) (h3 : 0 ≤ h) (h4 : h ≤ 4294967295) : Calls Try.prog 8 #[.int .i64 n, .int .i64 h] W fun e W' => e = .returned (.int .u64 k) ∧ W = W' := by
  have e : IntKind.u64.wrap (IntKind.u64.wrap n - IntKind.u64.wrap h) = k := by
    simp only [IntKind.wrap_u64]
    omega
  go_enter Try.func8, Try.ntmps8
  go_wp2
  go_ret
  exact ⟨by first | (simp only [e]; done) | rfl, rfl⟩
set_option maxRecDepth 100000 in
set_option maxHeartbeats 2000000 in
theorem with_ok (w : Win) (n : Int) (W : World) (hw : okW w) (h1 : -4294967296 ≤ n) (h2 : n ≤ 8589934591) : Calls Try.prog 7 #[.agg (wv w).toArray, .int .i64 n] W fun e W' => e = .returned (.agg (wv (see w n).1).toArray) ∧ Below W.heap.size W W' := by
  obtain ⟨a, h, s⟩ := w
  obtain ⟨h0, h3, h4⟩ := hw
  simp only at h0 h3 h4
  show Calls Try.prog 7 #[.agg #[.bool a, .int .i64 h, .int .u64 (s : Int)], .int .i64 n] W _
  by_cases hn : n < 0 ∨ 4294967295 < n
  · have e : see ⟨a, h, s⟩ n = (⟨a, h, s⟩, false) := by unfold see; rw [if_pos hn]
    rw [e]
    clear e h4
    rcases hn with hn | hn
    all_goals
      go_enter Try.func7, Try.ntmps7
      go_wp2
      exact ret_arr rfl (W.heap.size + 1) _ _ rfl (two_new W _ ⟨a, h, s⟩ _ _ rfl) Try.underlying27 rfl (by kernel_rfl) rfl ⟨rfl, two_below _ _ _⟩
  rw [see_in _ (by omega) (by omega)]
  have t1 : ¬ n < 0 := by omega
  have t2 : ¬ 4294967295 < n := by omega
  cases a with
  | false =>
    rw [if_pos rfl]
    clear h4 hn
    go_enter Try.func7, Try.ntmps7
    go_wp2
    exact ret_arr rfl (W.heap.size + 1) _ _ rfl (two_new W _ ⟨true, n, 1⟩ _ _ rfl) Try.underlying27 rfl (by kernel_rfl) rfl ⟨rfl, two_below _ _ _⟩
  | true =>
    rw [if_neg (by simp)]
    by_cases hgt : h < n
    · rw [if_pos hgt]
      obtain ⟨k, hk⟩ : ∃ k : Nat, n - h = (k : Int) := ⟨(n - h).toNat, by omega⟩
      have hkN : (n - h).toNat = k := by omega
      have hab := fun V => above_ok n h k V hk (by omega) h1 h2 h0 h3
      have hm : bits BinOp.or IntKind.u64 (IntKind.u64.wrap ((s : Int) * 2 ^ (min k 64))) 1 = ((((s <<< k) % max64) ||| 1 : Nat) : Int) := by
        by_cases hd : k ≤ 64
        · rw [Nat.min_eq_left hd]
          exact shl_or _ _
        · rw [Nat.min_eq_right (by omega), shl_or]
          have z1 : (s <<< 64) % max64 = 0 := by rw [Nat.shiftLeft_eq, max64_pow]; exact Nat.mul_mod_left _ _
          have z2 : (s <<< k) % max64 = 0 := by
            obtain ⟨j, rfl⟩ : ∃ j, k = 64 + j := ⟨k - 64, by omega⟩
            rw [Nat.shiftLeft_eq, Nat.pow_add, max64_pow, ← Nat.mul_assoc, Nat.mul_right_comm]; exact Nat.mul_mod_left _ _
          rw [z1, z2]
      rw [hkN]
      show Calls Try.prog _ _ _ fun e W' => e = .returned (.agg (wv ⟨true, n, ((s <<< k) % max64) ||| 1⟩).toArray) ∧ _
      generalize ((s <<< k) % max64) ||| 1 = m at hm ⊢
      replace hab := Lib.hid hab
      replace hk := Lib.hid hk
      clear h4 hn hkN
      go_enter Try.func7, Try.ntmps7
      go_wp2_with fail
      have hA : Arr ((W.alloc (.cells #[.bool true, .int .i64 h, .int .u64 (s : Int)] 27)).alloc (.cells #[.bool false, .int .i64 0, .int .u64 0] 27)) W.heap.size (wv ⟨true, h, s⟩) := (Arr.new_at W (wv ⟨true, h, s⟩) _ _ rfl).alloc _
      have hZ : Arr ((W.alloc (.cells #[.bool true, .int .i64 h, .int .u64 (s : Int)] 27)).alloc (.cells #[.bool false, .int .i64 0, .int .u64 0] 27)) (W.heap.size + 1) (wv zW) := two_new W _ zW _ _ rfl
      have hw := two_below W (.cells #[.bool true, .int .i64 h, .int .u64 (s : Int)] 27) (.cells #[.bool false, .int .i64 0, .int .u64 0] 27)
      generalize ((W.alloc (.cells #[.bool true, .int .i64 h, .int .u64 (s : Int)] 27)).alloc (.cells #[.bool false, .int .i64 0, .int .u64 0] 27)) = V at hA hZ hw ⊢
      have hSd : (fun X => Arr X W.heap.size (wv ⟨true, h, s⟩)) V.drew := hA.drew
      have hZd := hZ.drew
      have hwd := hw.drew
      refine wp_region_held_drew (S := (fun X => Arr X W.heap.size (wv ⟨true, h, s⟩))) (by kernel_rfl) hSd (fun _ => ?_)
      refine wpAnyH_take (i := 0) (oi := Oper.mk (some 24) _ _ _ _ _) (v := ?_) rfl (by kernel_rfl) (by kernel_rfl) (by kernel_rfl) (fun _ _ _ h => h) (Or.inl ⟨by rfl, ?_⟩) hSd ?_
      rotate_left
      · intro w hSw
        have k1 := hSw.cell (i := 1) rfl; have k2 := hSw.cell (i := 2) rfl
        go_simp
        try with_reducible rfl
      simp only [Act.put, List.setIfInBounds_toArray, List.set_cons_zero, List.set_cons_succ]
      try dsimp only
      refine wpAnyH_take (i := 1) (oi := Oper.mk (some 25) _ _ _ _ _) (v := ?_) rfl (by kernel_rfl) (by kernel_rfl) (by kernel_rfl) (fun _ _ _ h => h) (Or.inl ⟨by rfl, ?_⟩) hSd ?_
      rotate_left
      · intro w hSw
        have k1 := hSw.cell (i := 1) rfl; have k2 := hSw.cell (i := 2) rfl
        go_simp
        try with_reducible rfl
      simp only [Act.put, List.setIfInBounds_toArray, List.set_cons_zero, List.set_cons_succ]
      try dsimp only
      refine wpAnyH_take (i := 2) (oi := Oper.mk (some 26) _ _ _ _ _) (v := ?_) rfl (by kernel_rfl) (by kernel_rfl) (by kernel_rfl) (fun _ _ _ h => h) (Or.inl ⟨by rfl, ?_⟩) hSd ?_
      rotate_left
      · intro w hSw
        have k1 := hSw.cell (i := 1) rfl; have k2 := hSw.cell (i := 2) rfl
        go_simp
        try with_reducible rfl
      simp only [Act.put, List.setIfInBounds_toArray, List.set_cons_zero, List.set_cons_succ]
      try dsimp only
      refine wpAnyH_take (i := 3) (oi := Oper.mk (some 27) _ _ _ _ _) (v := ?_) rfl (by kernel_rfl) (by kernel_rfl) (by kernel_rfl) (fun _ _ _ h => h) (Or.inl ⟨by rfl, ?_⟩) hSd ?_
      rotate_left
      · intro w hSw
        have k1 := hSw.cell (i := 1) rfl; have k2 := hSw.cell (i := 2) rfl
        go_simp
        try with_reducible rfl
      simp only [Act.put, List.setIfInBounds_toArray, List.set_cons_zero, List.set_cons_succ]
      try dsimp only
      refine wpAnyH_take (i := 4) (oi := Oper.mk (some 28) _ _ _ _ _) (v := ?_) rfl (by kernel_rfl) (by kernel_rfl) (by kernel_rfl) (fun _ _ _ h => h) (Or.inl ⟨by rfl, ?_⟩) hSd ?_
      rotate_left
      · intro w hSw
        have k1 := hSw.cell (i := 1) rfl; have k2 := hSw.cell (i := 2) rfl
        go_simp
        try with_reducible rfl
      simp only [Act.put, List.setIfInBounds_toArray, List.set_cons_zero, List.set_cons_succ]
      try dsimp only
      refine wpAnyH_take (i := 5) (oi := Oper.mk (some 29) _ _ _ _ _) (v := ?_) rfl (by kernel_rfl) (by kernel_rfl) (by kernel_rfl) (fun _ _ _ h => h) (Or.inl ⟨by rfl, ?_⟩) hSd ?_
      rotate_left
      · intro w hSw
        have k1 := hSw.cell (i := 1) rfl; have k2 := hSw.cell (i := 2) rfl
        go_simp
        try with_reducible rfl
      simp only [Act.put, List.setIfInBounds_toArray, List.set_cons_zero, List.set_cons_succ]
      try dsimp only
      refine wpAnyH_ready (rs := [6]) (by kernel_rfl) (by simp) ?_
      refine AllReadyH.cons (o := Oper.mk (some 30) _ _ _ _ _) rfl (fun F hF => ?_) AllReadyH.nil
      go_simp
      (with_reducible refine (hab.out _).mono ?_)
      rintro e w5 ⟨rfl, rfl⟩
      try dsimp only
      refine hF.out _ _ hSd (fun _ => ?_)
      clear hF F
      refine wpAnyH_take (i := 7) (oi := Oper.mk (some 31) _ _ _ _ _) (v := ?_) rfl (by kernel_rfl) (by kernel_rfl) (by kernel_rfl) (fun _ _ _ h => h) (Or.inl ⟨by rfl, ?_⟩) hSd ?_
      rotate_left
      · intro w hSw
        have k1 := hSw.cell (i := 1) rfl; have k2 := hSw.cell (i := 2) rfl
        go_simp
        try with_reducible rfl
      simp only [Act.put, List.setIfInBounds_toArray, List.set_cons_zero, List.set_cons_succ]
      try dsimp only
      refine wpAnyH_take (i := 8) (oi := Oper.mk (some 32) _ _ _ _ _) (v := ?_) rfl (by kernel_rfl) (by kernel_rfl) (by kernel_rfl) (fun _ _ _ h => h) (Or.inl ⟨by rfl, ?_⟩) hSd ?_
      rotate_left
      · intro w hSw
        have k1 := hSw.cell (i := 1) rfl; have k2 := hSw.cell (i := 2) rfl
        go_simp
        try with_reducible rfl
      simp only [Act.put, List.setIfInBounds_toArray, List.set_cons_zero, List.set_cons_succ]
      try dsimp only
      refine wpAnyH_take (i := 9) (oi := Oper.mk (some 33) _ _ _ _ _) (v := ?_) rfl (by kernel_rfl) (by kernel_rfl) (by kernel_rfl) (fun _ _ _ h => h) (Or.inl ⟨by rfl, ?_⟩) hSd ?_
      rotate_left
      · intro w hSw
        have k1 := hSw.cell (i := 1) rfl; have k2 := hSw.cell (i := 2) rfl
        go_simp
        try with_reducible rfl
      simp only [Act.put, List.setIfInBounds_toArray, List.set_cons_zero, List.set_cons_succ]
      try dsimp only
      refine wpAnyH_ready (rs := [10]) (by kernel_rfl) (by simp) ?_
      refine AllReadyH.cons (o := Oper.mk (none) _ _ _ _ _) rfl (fun F hF => ?_) AllReadyH.nil
      refine wp_store_arr (cs' := wv ⟨true, n, m⟩) 3 rfl rfl rfl hZd (by kernel_rfl) rfl rfl (wv_one _) ?_
      intro w8 hN8 ho8 hb8 hs8
      have hS8 : (fun X => Arr X W.heap.size (wv ⟨true, h, s⟩)) w8 := Arr.of_block hSd (ho8 _ (by omega))
      have hw8 := hwd.trans (hb8.mono (by omega))
      try dsimp only
      refine hF.out _ _ hS8 (fun _ => ?_)
      clear hF F
      refine wpAnyH_done (by kernel_rfl) ?_ _
      go_wp2
      exact ret_arr rfl (W.heap.size + 1) _ _ rfl hN8 Try.underlying27 rfl (by kernel_rfl) rfl ⟨rfl, hw8⟩
    · rw [if_neg hgt]
      have hgt' : ¬ (h < n) := hgt
      obtain ⟨k, hk⟩ : ∃ k : Nat, h - n = (k : Int) := ⟨(h - n).toNat, by omega⟩
      have hkN : (h - n).toNat = k := by omega
      by_cases hf : 63 < h - n
      · rw [if_pos (Or.inl hf)]
        have hf' : ¬ h - n < 64 := by omega
        have hf2 : ¬ (k : Int) < 64 := by omega
        clear h4 hn
        go_enter Try.func7, Try.ntmps7
        go_wp2
        exact ret_arr rfl (W.heap.size + 1) _ _ rfl (two_new W _ ⟨true, h, s⟩ _ _ rfl) Try.underlying27 rfl (by kernel_rfl) rfl ⟨rfl, two_below _ _ _⟩
      · have hk64 : k < 64 := by omega
        have hob := or_bit s k h4 hk64
        have e : (if 63 < h - n ∨ s.testBit (h - n).toNat = true then ((⟨true, h, s⟩ : Win), false) else (⟨true, h, s ||| 2 ^ (h - n).toNat⟩, true)).1 = ⟨true, h, s ||| 2 ^ k⟩ := by
          rw [hkN]
          by_cases ht : s.testBit k = true
          · rw [if_pos (Or.inr ht), or_same s k ht]
          · rw [if_neg (fun q => q.elim hf ht)]
        show Calls Try.prog _ _ _ fun e W' => e = .returned (.agg (wv (if 63 < h - n ∨ s.testBit (h - n).toNat = true then ((⟨true, h, s⟩ : Win), false) else (⟨true, h, s ||| 2 ^ (h - n).toNat⟩, true)).1).toArray) ∧ _
        rw [e]
        clear e
        have hob' : bits BinOp.or IntKind.u64 (s : Int) (IntKind.u64.wrap (2 ^ k)) = ((s ||| 2 ^ k : Nat) : Int) := by simpa using hob
        have hob2 : bits BinOp.or IntKind.u64 (s : Int) (IntKind.u64.wrap (2 ^ (min k 64))) = ((s ||| 2 ^ k : Nat) : Int) := by rw [Nat.min_eq_left (by omega)]; exact hob'
        generalize s ||| 2 ^ k = m at hob hob' hob2 ⊢
        have hf2 : (k : Int) < 64 := by omega
        have hwk : IntKind.i64.wrap (k : Int) = (k : Int) := by rw [IntKind.wrap_i64]; omega
        have hk0 : ¬ (k : Int) < 0 := by omega
        clear h4 hn hkN hob
        go_enter Try.func7, Try.ntmps7
        go_wp2_with fail
        have hA : Arr ((W.alloc (.cells #[.bool true, .int .i64 h, .int .u64 (s : Int)] 27)).alloc (.cells #[.bool false, .int .i64 0, .int .u64 0] 27)) W.heap.size (wv ⟨true, h, s⟩) := (Arr.new_at W (wv ⟨true, h, s⟩) _ _ rfl).alloc _
        have hZ : Arr ((W.alloc (.cells #[.bool true, .int .i64 h, .int .u64 (s : Int)] 27)).alloc (.cells #[.bool false, .int .i64 0, .int .u64 0] 27)) (W.heap.size + 1) (wv zW) := two_new W _ zW _ _ rfl
        have hw := two_below W (.cells #[.bool true, .int .i64 h, .int .u64 (s : Int)] 27) (.cells #[.bool false, .int .i64 0, .int .u64 0] 27)
        generalize ((W.alloc (.cells #[.bool true, .int .i64 h, .int .u64 (s : Int)] 27)).alloc (.cells #[.bool false, .int .i64 0, .int .u64 0] 27)) = V at hA hZ hw ⊢
        have c1 := hA.cell (i := 1) rfl
        have c2 := hA.cell (i := 2) rfl
        have f2 := hA.frozen 2
        go_still_tail 9, (by kernel_rfl)
        change wpList _ _ _ _ _ V.drew
        have hA2 : Arr (V.drew.setCell ⟨W.heap.size, 2, none⟩ (.int .u64 (m : Int))) W.heap.size (wv ⟨true, h, m⟩) := hA.drew.set 2 _
        have hZ2 : Arr (V.drew.setCell ⟨W.heap.size, 2, none⟩ (.int .u64 (m : Int))) (W.heap.size + 1) (wv zW) := hZ.drew.other (by show W.heap.size + 1 ≠ W.heap.size; omega) _
        have hw2 : Below W.heap.size W (V.drew.setCell ⟨W.heap.size, 2, none⟩ (.int .u64 (m : Int))) := hw.drew.setCell (Nat.le_refl _) _
        go_wp2_with (first
          | (guard_target =~ wpList _ _ _ (Oper.mk _ (Op.load 27 _) _ _ _ _ :: _) _ _; refine wpList_load_arr 3 rfl rfl rfl hA2 (by kernel_rfl) rfl ?_)
          | (guard_target =~ wpList _ _ _ (Oper.mk _ (Op.store 27 _ _) _ _ _ _ :: _) _ _; refine wpList_store_arr (cs' := wv ⟨true, h, m⟩) 3 rfl rfl rfl rfl hZ2 (by kernel_rfl) rfl rfl (wv_one _) ?_))
        intro w5 hR5 ho5 hb5 hs5
        have hw5 := hw2.trans (hb5.mono (by omega))
        go_wp2
        exact ret_arr rfl (W.heap.size + 1) _ _ rfl hR5 Try.underlying27 rfl (by kernel_rfl) rfl ⟨rfl, hw5⟩
set_option maxRecDepth 100000 in
set_option maxHeartbeats 2000000 in
theorem see_code (w : Win) (n : Int) (W : World) (hw : okW w) (h1 : -4294967296 ≤ n) (h2 : n ≤ 8589934591) : Calls Try.prog 6 #[.agg (wv w).toArray, .int .i64 n] W fun e W' => e = .returned (.tuple #[.agg (wv (see w n).1).toArray, .bool (see w n).2]) ∧ Below W.heap.size W W' := by
  have hc := fun V => with_ok w n V hw h1 h2
  have hso := see_other w n
  obtain ⟨v, hv⟩ : ∃ v, (see w n).1 = v := ⟨_, rfl⟩
  obtain ⟨ok, hok⟩ : ∃ ok, (see w n).2 = ok := ⟨_, rfl⟩
  rw [hv, hok] at hso
  simp only [hv] at hc
  rw [hv, hok]
  have hne : ∀ X, (binOp .neq 27 (.agg (wv v).toArray) (.agg (wv w).toArray)).run Try.prog X = .ok (.bool ok) X := fun X => by rw [neq_win, hso]
  replace hc := Lib.hid hc
  clear hv hok hso
  have hA0 := Arr.new W (wv w) 27
  have hw0 := below_new W (.cells (wv w).toArray 27)
  have hZ0 : Arr ((W.alloc (.cells (wv w).toArray 27)).alloc (.cells #[.bool false, .int .i64 0, .int .u64 0] 27)) (W.heap.size + 1) (wv zW) := two_new W _ zW _ _ rfl
  go_enter Try.func6, Try.ntmps6
  have hA1 := hA0.alloc (.cells #[.bool false, .int .i64 0, .int .u64 0] 27)
  have hw1 := two_below W (.cells (wv w).toArray 27) (.cells #[.bool false, .int .i64 0, .int .u64 0] 27)
  go_upto_region 1 with fail
  generalize hU : ((W.alloc (.cells (wv w).toArray 27)).alloc (.cells #[.bool false, .int .i64 0, .int .u64 0] 27)) = U at hA1 hZ0 hw1 ⊢
  clear hA0 hw0
  have hq := hZ0.lt
  go_wp2_with (first
    | (guard_target =~ wpList _ _ _ (Oper.mk _ (Op.load 27 _) _ _ _ _ :: _) _ _; refine wpList_load_arr 3 rfl rfl rfl hA1 (by kernel_rfl) rfl ?_))
  refine (hc.out _).mono ?_
  rintro e w5 ⟨rfl, hb5⟩
  replace hA1 := hA1.since hb5
  replace hZ0 := hZ0.since hb5
  have hq5 := hb5.size
  replace hw1 := hw1.trans (hb5.mono hw1.size)
  clear hb5
  have hN := new_win w5 27
  have hn5 := below_new w5 (.cells #[.bool false, .int .i64 0, .int .u64 0] 27)
  replace hA1 := hA1.since hn5
  replace hZ0 := hZ0.since hn5
  replace hw1 := hw1.trans (hn5.mono hw1.size)
  have hq6 : (w5.alloc (.cells #[.bool false, .int .i64 0, .int .u64 0] 27)).heap.size = w5.heap.size + 1 := by simp
  clear hn5
  go_wp2_with (guard_target =~ wpList _ _ _ (Oper.mk _ (Op.store 27 _ _) _ _ _ _ :: _) _ _; refine wpList_store_arr (cs' := wv v) 3 rfl rfl rfl rfl hN (by kernel_rfl) rfl rfl (wv_one _) ?_)
  intro w6 hV6 ho6 hb6 hs6
  replace hA1 := hA1.of_block (ho6 _ (by omega))
  replace hZ0 := hZ0.of_block (ho6 _ (by omega))
  replace hw1 := hw1.trans (hb6.mono (by omega))
  clear hN ho6 hb6
  obtain ⟨g, hg⟩ : ∃ g, w5.heap.size = g := ⟨_, rfl⟩
  rw [hg] at hV6 ⊢
  have hgq : W.heap.size + 1 < g := by omega
  clear hs6 hq6 hq5 hg hU hq
  obtain ⟨dd, d1, d2, d3⟩ := rowB_spec (show rowB Try.prog 27 3 = true by kernel_rfl)
  go_wp2_with fail
  have hSd : (fun X => Arr X (W.heap.size) (wv w) ∧ Arr X g (wv v)) w6.drew := ⟨hA1, hV6⟩
  have hZd := hZ0.drew
  have hwd := hw1.drew
  refine wp_region_held_drew (S := (fun X => Arr X (W.heap.size) (wv w) ∧ Arr X g (wv v))) (by kernel_rfl) hSd (fun _ => ?_)
  refine wpAnyH_take (i := 0) (oi := Oper.mk (some 10) _ _ _ _ _) (v := (.agg (wv v).toArray)) rfl (by kernel_rfl) (by kernel_rfl) (by kernel_rfl) (fun _ _ _ h => h) (yieldsIf_load_mid (by rfl) _ _ rfl g 0 rfl (wv v) dd (fun w h => h.2.range) d1 d2 d3) hSd ?_
  simp only [Act.put, List.setIfInBounds_toArray, List.set_cons_zero, List.set_cons_succ]
  try dsimp only
  refine wpAnyH_take (i := 1) (oi := Oper.mk (some 11) _ _ _ _ _) (v := (.agg (wv v).toArray)) rfl (by kernel_rfl) (by kernel_rfl) (by kernel_rfl) (fun _ _ _ h => h) (yieldsIf_load_mid (by rfl) _ _ rfl g 0 rfl (wv v) dd (fun w h => h.2.range) d1 d2 d3) hSd ?_
  simp only [Act.put, List.setIfInBounds_toArray, List.set_cons_zero, List.set_cons_succ]
  try dsimp only
  refine wpAnyH_take (i := 2) (oi := Oper.mk (some 12) _ _ _ _ _) (v := (.agg (wv w).toArray)) rfl (by kernel_rfl) (by kernel_rfl) (by kernel_rfl) (fun _ _ _ h => h) (yieldsIf_load_mid (by rfl) _ _ rfl W.heap.size 0 rfl (wv w) dd (fun w h => h.1.range) d1 d2 d3) hSd ?_
  simp only [Act.put, List.setIfInBounds_toArray, List.set_cons_zero, List.set_cons_succ]
  try dsimp only
  refine wpAnyH_take (i := 3) (oi := Oper.mk (some 13) _ _ _ _ _) (v := .bool ok) rfl (by kernel_rfl) (by kernel_rfl) (by kernel_rfl) (fun _ _ _ h => h) (Or.inl ⟨by rfl, ?_⟩) hSd ?_
  · intro w hSw
    go_simp
  simp only [Act.put, List.setIfInBounds_toArray, List.set_cons_zero, List.set_cons_succ]
  try dsimp only
  refine wpAnyH_ready (rs := [4]) (by kernel_rfl) (by simp) ?_
  refine AllReadyH.cons (o := Oper.mk (none) _ _ _ _ _) rfl (fun F hF => ?_) AllReadyH.nil
  refine wp_store_arr (cs' := wv v) 3 rfl rfl rfl hZd (by kernel_rfl) rfl rfl (wv_one _) ?_
  intro w8 hN8 ho8 hb8 hs8
  have hS8 : (fun X => Arr X (W.heap.size) (wv w) ∧ Arr X g (wv v)) w8 := ⟨hSd.1.of_block (ho8 _ (by omega)), hSd.2.of_block (ho8 _ (by omega))⟩
  have hw8 := hwd.trans (hb8.mono (by omega))
  try dsimp only
  refine hF.out _ _ hS8 (fun _ => ?_)
  clear hF F
  refine wpAnyH_take (i := 5) (oi := Oper.mk (some 5) _ _ _ _ _) (v := .bool ok) rfl (by kernel_rfl) (by kernel_rfl) (by kernel_rfl) (fun _ _ _ h => h) (Or.inl ⟨by rfl, ?_⟩) hS8 ?_
  · intro w hSw
    go_simp
    try with_reducible rfl
  simp only [Act.put, List.setIfInBounds_toArray, List.set_cons_zero, List.set_cons_succ]
  try dsimp only
  refine wpAnyH_done (by kernel_rfl) ?_ _
  go_wp2
  exact ret_win1 rfl (W.heap.size + 1) _ _ rfl hN8 Try.underlying27 rfl (by kernel_rfl) rfl ⟨rfl, hw8⟩
theorem codeOk : CodeOk := ⟨see_code⟩
end Go.Proofs.Ytahfhanibiaimaa.window
