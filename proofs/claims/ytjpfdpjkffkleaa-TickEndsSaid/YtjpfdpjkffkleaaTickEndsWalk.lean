/-
  THE WALK OF 'TickEnds'. (Written by program: wip/tools/gen_tick.py.)
-/
import Derived.Test.YtjpfdpjkffkleaaTick
import Derived.Deep.RegionHeld3
import Derived.Deep.CutRange
namespace Go.Proofs.Ytjpfdpjkffkleaa.walks
open Go.ChangeShapes Go.WideShapes Go.ChangeAt Go.RowKit Go.Proofs.Ytjpfdpjkffkleaa.octets Go.Proofs.Ytjpfdpjkffkleaa.tick Go.Proofs.Ytjpfdpjkffkleaa.given
set_option linter.unusedVariables false
set_option linter.unusedSimpArgs false

set_option maxRecDepth 100000 in
set_option maxHeartbeats 2000000 in
theorem ends_core (H : CodeOk) (n : Int) (w : World) (hn : 0 ≤ n ∧ n ≤ 65535) :
    Calls Try.prog 3 #[.int .u16 n] w fun e w' => e = .returned (.bool true) ∧ Below w.heap.size w w' := by
  obtain ⟨m, hm⟩ : ∃ m : Nat, n % 1024 = (m : Int) := ⟨(n % 1024).toNat, by omega⟩
  have hm1 : m < 1024 := by omega
  have hand : bits BinOp.and IntKind.u16 n 1023 = (m : Int) := by rw [and_1023 n hn.1 hn.2]; exact hm
  have q1 := Lib.hid (fun W => H.start_at (m : Int) (m : Int) W (by omega))
  have q2 := Lib.hid (fun W (i : Nat) (hi : i < m) => H.due_at (i : Int) (m : Int) false W (decide_eq_false (by omega)))
  have q3 := Lib.hid (fun W (i : Nat) (hi : i < m) => H.step_at (i : Int) (m : Int) ((i + 1 : Nat) : Int) W (by omega) (by omega) (by omega) (by omega) (by unfold sat; rw [if_pos (by omega)]; omega))
  have q4 := Lib.hid (fun W => H.due_at (m : Int) (m : Int) true W (by simp))
  have q5 := Lib.hid (fun W => H.step_at (m : Int) (m : Int) (m : Int) W (by omega) (by omega) (by omega) (by omega) (by unfold sat; rw [if_neg (by omega)]))
  have heq : ∀ W, (binOp .eql 25 (.agg #[.int .i64 (m : Int), .int .i64 (m : Int)]) (.agg #[.int .i64 (m : Int), .int .i64 (m : Int)])).run Try.prog W = .ok (.bool true) W := fun W => by rw [eql_timer]; simp
  clear hm hn
  go_enter Try.func3, Try.ntmps3
  try dsimp only [List.append]
  go_wp2_with fail
  (with_reducible refine (shown_any H _).mono ?_)
  rintro e w1 ⟨rfl, hw1⟩
  go_wp2_with fail
  refine (q1.out _).mono ?_
  rintro e w2 ⟨rfl, hb2⟩
  have hA2 := Arr.new_at w2 [.int .i64 ((0 : Nat) : Int), .int .i64 (m : Int)] #[.int .i64 0, .int .i64 (m : Int)] 25 rfl
  have hw2 := hw1.trans (hb2.mono hw1.size)
  have hw3 := hw2.alloc hw2.size (.cells #[.int .i64 0, .int .i64 (m : Int)] 25)
  have hzz := hw2.size
  clear hw1 hb2 hw2
  go_wp2
  generalize w2.heap.size = g at hA2 hzz ⊢
  go_loopw [6] (fun t W => ∃ i : Nat, i ≤ m ∧ t = .int .i64 i ∧ Below w.heap.size w W ∧ Arr W g [.int .i64 (i : Int), .int .i64 (m : Int)]) (fun t _ => m - (intOf t).toNat)
  case atStart => exact ⟨0, Nat.zero_le _, rfl, hw3, hA2⟩
  case round =>
    clear hw3 hA2
    obtain ⟨i, hi, rfl, hw, hA⟩ := hrel
    by_cases hlt : i < m
    · have k0 := hA.cell (i := 0) rfl
      have k1 := hA.cell (i := 1) rfl
      have t1 : (i : Int) < (m : Int) := by omega
      go_wp2_with fail
      refine (q2.out _ i hlt).mono ?_
      rintro e w4 ⟨rfl, hb4⟩
      have hA4 := hA.since hb4
      have hw4 := hw.trans (hb4.mono hw.size)
      clear hA hw hb4 k0 k1
      have k0 := hA4.cell (i := 0) rfl
      have k1 := hA4.cell (i := 1) rfl
      go_wp2_with fail
      refine (q3.out _ i hlt).mono ?_
      rintro e w5 ⟨rfl, hb5⟩
      have hA5 := hA4.since hb5
      have hw5 := hw4.trans (hb5.mono hw4.size)
      clear hA4 hw4 hb5 k0 k1
      go_wp2_with (guard_target =~ wpList _ _ _ (Oper.mk _ (Op.store 25 _ _) _ _ _ _ :: _) _ _; refine wpList_store_arr (cs' := [.int .i64 ((i + 1 : Nat) : Int), .int .i64 (m : Int)]) 2 rfl rfl rfl rfl hA5 (by kernel_rfl) rfl rfl (by intro v hv; simp at hv; rcases hv with rfl | rfl <;> rfl) ?_)
      intro w6 hA6 ho6 hb6 hs6
      have hw6 := hw5.trans (hb6.mono hzz)
      clear hA5 hw5 ho6 hb6 hs6
      go_wp2
      go_roundw
      case rel => exact ⟨i + 1, by omega, by go_num, hw6, hA6⟩
      case measure => simp [intOf]; omega
    · obtain rfl : i = m := by omega
      have hS : Below w.heap.size w wr ∧ wr.cell? ⟨g, 0, none⟩ = some (.int .i64 (i : Int)) ∧ wr.cell? ⟨g, 1, none⟩ = some (.int .i64 (i : Int)) := ⟨hw, hA.cell (i := 0) rfl, hA.cell (i := 1) rfl⟩
      have hlg := hA.lt
      have keep : ∀ {W W' : World}, (Below w.heap.size w W ∧ W.cell? ⟨g, 0, none⟩ = some (.int .i64 (i : Int)) ∧ W.cell? ⟨g, 1, none⟩ = some (.int .i64 (i : Int))) → Below W.heap.size W W' → wr.heap.size ≤ W.heap.size → (Below w.heap.size w W' ∧ W'.cell? ⟨g, 0, none⟩ = some (.int .i64 (i : Int)) ∧ W'.cell? ⟨g, 1, none⟩ = some (.int .i64 (i : Int))) := fun h hb hz =>
        ⟨h.1.trans (hb.mono h.1.size), (hb.cell (show g < _ by omega)).trans h.2.1, (hb.cell (show g < _ by omega)).trans h.2.2⟩
      clear q1 q2 q3 hand hw hA
      go_wp2_with fail
      have hSd : (fun W => Below w.heap.size w W ∧ W.cell? ⟨g, 0, none⟩ = some (.int .i64 (i : Int)) ∧ W.cell? ⟨g, 1, none⟩ = some (.int .i64 (i : Int))) wr.drew := keep hS (Below.drew (Below.refl _ _)) (Nat.le_refl _)
      refine wp_region_held_drew (S := (fun W => Below w.heap.size w W ∧ W.cell? ⟨g, 0, none⟩ = some (.int .i64 (i : Int)) ∧ W.cell? ⟨g, 1, none⟩ = some (.int .i64 (i : Int)))) (by kernel_rfl) hSd (fun _ => ?_)
      refine wpAnyH_take (i := 0) (oi := Oper.mk (some 28) _ _ _ _ _) (v := ?_) rfl (by kernel_rfl) (by kernel_rfl) (by kernel_rfl) (fun _ _ _ h => h) (Or.inl ⟨by rfl, ?_⟩) hSd ?_
      rotate_left
      · intro w hSw
        obtain ⟨_, k0, k1⟩ := hSw
        go_simp
        try with_reducible rfl
      simp only [Act.put, List.setIfInBounds_toArray, List.set_cons_zero, List.set_cons_succ]
      try dsimp only
      refine wpAnyH_take (i := 1) (oi := Oper.mk (some 29) _ _ _ _ _) (v := ?_) rfl (by kernel_rfl) (by kernel_rfl) (by kernel_rfl) (fun _ _ _ h => h) (Or.inl ⟨by rfl, ?_⟩) hSd ?_
      rotate_left
      · intro w hSw
        obtain ⟨_, k0, k1⟩ := hSw
        go_simp
        try with_reducible rfl
      simp only [Act.put, List.setIfInBounds_toArray, List.set_cons_zero, List.set_cons_succ]
      try dsimp only
      refine wpAnyH_take (i := 2) (oi := Oper.mk (some 30) _ _ _ _ _) (v := ?_) rfl (by kernel_rfl) (by kernel_rfl) (by kernel_rfl) (fun _ _ _ h => h) (Or.inl ⟨by rfl, ?_⟩) hSd ?_
      rotate_left
      · intro w hSw
        obtain ⟨_, k0, k1⟩ := hSw
        go_simp
        try with_reducible rfl
      simp only [Act.put, List.setIfInBounds_toArray, List.set_cons_zero, List.set_cons_succ]
      try dsimp only
      refine wpAnyH_ready (rs := [3]) (by kernel_rfl) (by simp) ?_
      refine AllReadyH.cons (o := Oper.mk (some 31) _ _ _ _ _) rfl (fun F hF => ?_) AllReadyH.nil
      go_simp
      refine (q4.out _).mono ?_
      rintro e w5 ⟨rfl, hb5⟩
      have hS5 : (fun W => Below w.heap.size w W ∧ W.cell? ⟨g, 0, none⟩ = some (.int .i64 (i : Int)) ∧ W.cell? ⟨g, 1, none⟩ = some (.int .i64 (i : Int))) w5 := keep hSd hb5 (Nat.le_refl _)
      have hz5 : wr.heap.size ≤ w5.heap.size := hb5.size
      try dsimp only
      refine hF.out _ _ hS5 (fun _ => ?_)
      clear hF F
      refine wpAnyH_take (i := 4) (oi := Oper.mk (some 32) _ _ _ _ _) (v := ?_) rfl (by kernel_rfl) (by kernel_rfl) (by kernel_rfl) (fun _ _ _ h => h) (Or.inl ⟨by rfl, ?_⟩) hS5 ?_
      rotate_left
      · intro w hSw
        obtain ⟨_, k0, k1⟩ := hSw
        go_simp
        try with_reducible rfl
      simp only [Act.put, List.setIfInBounds_toArray, List.set_cons_zero, List.set_cons_succ]
      try dsimp only
      refine wpAnyH_take (i := 5) (oi := Oper.mk (some 33) _ _ _ _ _) (v := ?_) rfl (by kernel_rfl) (by kernel_rfl) (by kernel_rfl) (fun _ _ _ h => h) (Or.inl ⟨by rfl, ?_⟩) hS5 ?_
      rotate_left
      · intro w hSw
        obtain ⟨_, k0, k1⟩ := hSw
        go_simp
        try with_reducible rfl
      simp only [Act.put, List.setIfInBounds_toArray, List.set_cons_zero, List.set_cons_succ]
      try dsimp only
      refine wpAnyH_take (i := 6) (oi := Oper.mk (some 34) _ _ _ _ _) (v := ?_) rfl (by kernel_rfl) (by kernel_rfl) (by kernel_rfl) (fun _ _ _ h => h) (Or.inl ⟨by rfl, ?_⟩) hS5 ?_
      rotate_left
      · intro w hSw
        obtain ⟨_, k0, k1⟩ := hSw
        go_simp
        try with_reducible rfl
      simp only [Act.put, List.setIfInBounds_toArray, List.set_cons_zero, List.set_cons_succ]
      try dsimp only
      refine wpAnyH_take (i := 8) (oi := Oper.mk (some 36) _ _ _ _ _) (v := ?_) rfl (by kernel_rfl) (by kernel_rfl) (by kernel_rfl) (fun _ _ _ h => h) (Or.inl ⟨by rfl, ?_⟩) hS5 ?_
      rotate_left
      · intro w hSw
        obtain ⟨_, k0, k1⟩ := hSw
        go_simp
        try with_reducible rfl
      simp only [Act.put, List.setIfInBounds_toArray, List.set_cons_zero, List.set_cons_succ]
      try dsimp only
      refine wpAnyH_ready (rs := [7]) (by kernel_rfl) (by simp) ?_
      refine AllReadyH.cons (o := Oper.mk (some 35) _ _ _ _ _) rfl (fun F hF => ?_) AllReadyH.nil
      go_simp
      refine (q5.out _).mono ?_
      rintro e w6 ⟨rfl, hb6⟩
      have hS6 : (fun W => Below w.heap.size w W ∧ W.cell? ⟨g, 0, none⟩ = some (.int .i64 (i : Int)) ∧ W.cell? ⟨g, 1, none⟩ = some (.int .i64 (i : Int))) w6 := keep hS5 hb6 hz5
      try dsimp only
      refine hF.out _ _ hS6 (fun _ => ?_)
      clear hF F
      refine wpAnyH_take (i := 9) (oi := Oper.mk (some 37) _ _ _ _ _) (v := ?_) rfl (by kernel_rfl) (by kernel_rfl) (by kernel_rfl) (fun _ _ _ h => h) (Or.inl ⟨by rfl, ?_⟩) hS6 ?_
      rotate_left
      · intro w hSw
        obtain ⟨_, k0, k1⟩ := hSw
        go_simp
        try with_reducible rfl
      simp only [Act.put, List.setIfInBounds_toArray, List.set_cons_zero, List.set_cons_succ]
      try dsimp only
      refine wpAnyH_take (i := 10) (oi := Oper.mk (some 38) _ _ _ _ _) (v := ?_) rfl (by kernel_rfl) (by kernel_rfl) (by kernel_rfl) (fun _ _ _ h => h) (Or.inl ⟨by rfl, ?_⟩) hS6 ?_
      rotate_left
      · intro w hSw
        obtain ⟨_, k0, k1⟩ := hSw
        go_simp
        try with_reducible rfl
      simp only [Act.put, List.setIfInBounds_toArray, List.set_cons_zero, List.set_cons_succ]
      try dsimp only
      refine wpAnyH_take (i := 11) (oi := Oper.mk (some 39) _ _ _ _ _) (v := ?_) rfl (by kernel_rfl) (by kernel_rfl) (by kernel_rfl) (fun _ _ _ h => h) (Or.inl ⟨by rfl, ?_⟩) hS6 ?_
      rotate_left
      · intro w hSw
        obtain ⟨_, k0, k1⟩ := hSw
        go_simp
        try with_reducible rfl
      simp only [Act.put, List.setIfInBounds_toArray, List.set_cons_zero, List.set_cons_succ]
      try dsimp only
      refine wpAnyH_take (i := 12) (oi := Oper.mk (some 40) _ _ _ _ _) (v := ?_) rfl (by kernel_rfl) (by kernel_rfl) (by kernel_rfl) (fun _ _ _ h => h) (Or.inl ⟨by rfl, ?_⟩) hS6 ?_
      rotate_left
      · intro w hSw
        obtain ⟨_, k0, k1⟩ := hSw
        go_simp
        try with_reducible rfl
      simp only [Act.put, List.setIfInBounds_toArray, List.set_cons_zero, List.set_cons_succ]
      try dsimp only
      refine wpAnyH_take (i := 13) (oi := Oper.mk (some 41) _ _ _ _ _) (v := ?_) rfl (by kernel_rfl) (by kernel_rfl) (by kernel_rfl) (fun _ _ _ h => h) (Or.inl ⟨by rfl, ?_⟩) hS6 ?_
      rotate_left
      · intro w hSw
        obtain ⟨_, k0, k1⟩ := hSw
        go_simp
        try with_reducible rfl
      simp only [Act.put, List.setIfInBounds_toArray, List.set_cons_zero, List.set_cons_succ]
      try dsimp only
      refine wpAnyH_take (i := 14) (oi := Oper.mk (some 42) _ _ _ _ _) (v := ?_) rfl (by kernel_rfl) (by kernel_rfl) (by kernel_rfl) (fun _ _ _ h => h) (Or.inl ⟨by rfl, ?_⟩) hS6 ?_
      rotate_left
      · intro w hSw
        obtain ⟨_, k0, k1⟩ := hSw
        go_simp
        try with_reducible rfl
      simp only [Act.put, List.setIfInBounds_toArray, List.set_cons_zero, List.set_cons_succ]
      try dsimp only
      refine wpAnyH_take (i := 15) (oi := Oper.mk (some 43) _ _ _ _ _) (v := ?_) rfl (by kernel_rfl) (by kernel_rfl) (by kernel_rfl) (fun _ _ _ h => h) (Or.inl ⟨by rfl, ?_⟩) hS6 ?_
      rotate_left
      · intro w hSw
        obtain ⟨_, k0, k1⟩ := hSw
        go_simp
        try with_reducible rfl
      simp only [Act.put, List.setIfInBounds_toArray, List.set_cons_zero, List.set_cons_succ]
      try dsimp only
      refine wpAnyH_take (i := 16) (oi := Oper.mk (some 44) _ _ _ _ _) (v := ?_) rfl (by kernel_rfl) (by kernel_rfl) (by kernel_rfl) (fun _ _ _ h => h) (Or.inl ⟨by rfl, ?_⟩) hS6 ?_
      rotate_left
      · intro w hSw
        obtain ⟨_, k0, k1⟩ := hSw
        go_simp
        try with_reducible rfl
      simp only [Act.put, List.setIfInBounds_toArray, List.set_cons_zero, List.set_cons_succ]
      try dsimp only
      refine wpAnyH_take (i := 17) (oi := Oper.mk (some 2) _ _ _ _ _) (v := ?_) rfl (by kernel_rfl) (by kernel_rfl) (by kernel_rfl) (fun _ _ _ h => h) (Or.inl ⟨by rfl, ?_⟩) hS6 ?_
      rotate_left
      · intro w hSw
        obtain ⟨_, k0, k1⟩ := hSw
        go_simp
        try with_reducible rfl
      simp only [Act.put, List.setIfInBounds_toArray, List.set_cons_zero, List.set_cons_succ]
      try dsimp only
      refine wpAnyH_done (by kernel_rfl) ?_ _
      go_wp2
      go_ret
      exact ⟨rfl, hS6.1⟩
theorem ends_given (H : CodeOk) (n : Int) (w : World) (h : (Lit.int .u16 n).wf = true) :
    Calls Try.prog 3 #[.int .u16 n] w fun e w' => e = .returned (.bool true) ∧ Below w.heap.size w w' :=
  ends_core H n w (by simpa [Lit.wf, IntKind.min, IntKind.max, IntKind.signed, IntKind.bits] using h)
end Go.Proofs.Ytjpfdpjkffkleaa.walks
