/-
  THE WALK OF 'TickKeeps'. (Written by program: wip/tools/gen_tick.py.)
-/
import Derived.Test.YtjpfdpjkffkleaaTick
import Derived.Deep.RegionHeld3
import Derived.Deep.CutRange
namespace Go.Proofs.Ytjpfdpjkffkleaa.walks
open Go.ChangeShapes Go.WideShapes Go.ChangeAt Go.RowKit Go.Proofs.Ytjpfdpjkffkleaa.octets Go.Proofs.Ytjpfdpjkffkleaa.tick Go.Proofs.Ytjpfdpjkffkleaa.given
set_option linter.unusedVariables false
set_option linter.unusedSimpArgs false

theorem wf64 {n : Int} (h : (Lit.int .i64 n).wf = true) : -9223372036854775808 ≤ n ∧ n ≤ 9223372036854775807 := by simpa [Lit.wf, IntKind.min, IntKind.max, IntKind.signed, IntKind.bits] using h
set_option maxRecDepth 100000 in
set_option maxHeartbeats 2000000 in
theorem keeps_core (H : CodeOk) (a m : Int) (w : World) (ha : -9223372036854775808 ≤ a ∧ a ≤ 9223372036854775807) (hm : -9223372036854775808 ≤ m ∧ m ≤ 9223372036854775807) :
    Calls Try.prog 4 #[.agg #[.int .i64 a, .int .i64 m]] w fun e w' => e = .returned (.bool true) ∧ Below w.heap.size w w' := by
  have hA0 := Arr.new_at w [.int .i64 a, .int .i64 m] #[.int .i64 a, .int .i64 m] 25 rfl
  have hw0 : Below w.heap.size w (w.alloc (.cells #[.int .i64 a, .int .i64 m] 25)) := (Below.refl _ _).alloc (Nat.le_refl _) _
  obtain ⟨b, hb⟩ : ∃ b, sat a m = b := ⟨_, rfl⟩
  have hb' : b = if a < m then a + 1 else m := by rw [← hb]; rfl
  have hb0 : -9223372036854775808 ≤ b ∧ b ≤ 9223372036854775807 := by rw [hb']; split <;> omega
  obtain ⟨d, hd⟩ : ∃ d, decide (m ≤ a) = d := ⟨_, rfl⟩
  obtain ⟨d2, hd2⟩ : ∃ d, decide (m ≤ b) = d := ⟨_, rfl⟩
  have q1 := Lib.hid (fun W => H.step_at a m b W ha.1 ha.2 hm.1 hm.2 hb)
  have q2 := Lib.hid (fun W => H.due_at a m d W hd)
  have q3 := Lib.hid (fun W => H.due_at b m d2 W hd2)
  have hyes : d = true → b = m ∧ d2 = true := fun h => by
    rw [h] at hd
    have := of_decide_eq_true hd
    have e : b = m := by rw [hb', if_neg (by omega)]
    exact ⟨e, by rw [← hd2, e]; simp⟩
  have hno : d = false → IntKind.i64.wrap (b - 1) = a ∧ (b == m) = d2 := fun h => by
    rw [h] at hd
    have := of_decide_eq_false hd
    have e : b = a + 1 := by rw [hb', if_pos (by omega)]
    refine ⟨by rw [IntKind.wrap_i64, e]; omega, ?_⟩
    rw [← hd2, Bool.eq_iff_iff, beq_iff_eq, decide_eq_true_eq]
    omega
  have hge : decide (m ≤ a) = d := hd
  replace hyes := Lib.hid hyes
  replace hno := Lib.hid hno
  clear hb hb' hd2 hd ha hm hb0
  go_enter Try.func4, Try.ntmps4
  try dsimp only [List.append]
  go_wp2_with fail
  (with_reducible refine (shown_any H _).mono ?_)
  rintro e w1 ⟨rfl, hw1⟩
  have hA1 := hA0.since hw1
  have hw1' := hw0.trans (hw1.mono hw0.size)
  have c0 := hA1.cell (i := 0) rfl
  have c1 := hA1.cell (i := 1) rfl
  clear hA0 hw0 hw1
  go_wp2_with fail
  refine (q1.out _).mono ?_
  rintro e w2 ⟨rfl, hb2⟩
  have hA2 := (hA1.since hb2).alloc (.cells #[.int .i64 b, .int .i64 m] 25)
  have hB2 := Arr.new_at w2 [.int .i64 b, .int .i64 m] #[.int .i64 b, .int .i64 m] 25 rfl
  have hw2 := (hw1'.trans (hb2.mono hw1'.size))
  have hw3 := hw2.alloc hw2.size (.cells #[.int .i64 b, .int .i64 m] 25)
  obtain ⟨g, hg⟩ : ∃ g, w2.heap.size = g := ⟨_, rfl⟩
  clear hA1 hb2 c0 c1 hw1'
  go_upto_region 3 with fail
  rw [hg] at hB2
  try rw [hg]
  have hgw : w.heap.size ≤ g := by rw [← hg]; exact hw2.size
  generalize w2.alloc (.cells #[.int .i64 b, .int .i64 m] 25) = V at hA2 hB2 hw3 ⊢
  have hla := hA2.lt
  have hlg := hB2.lt
  have hS : Below w.heap.size w V ∧ V.cell? ⟨w.heap.size, 0, none⟩ = some (.int .i64 a) ∧ V.cell? ⟨w.heap.size, 1, none⟩ = some (.int .i64 m) ∧ V.cell? ⟨g, 0, none⟩ = some (.int .i64 b) ∧ V.cell? ⟨g, 1, none⟩ = some (.int .i64 m) := ⟨hw3, hA2.cell (i := 0) rfl, hA2.cell (i := 1) rfl, hB2.cell (i := 0) rfl, hB2.cell (i := 1) rfl⟩
  have keep : ∀ {W W' : World}, (Below w.heap.size w W ∧ W.cell? ⟨w.heap.size, 0, none⟩ = some (.int .i64 a) ∧ W.cell? ⟨w.heap.size, 1, none⟩ = some (.int .i64 m) ∧ W.cell? ⟨g, 0, none⟩ = some (.int .i64 b) ∧ W.cell? ⟨g, 1, none⟩ = some (.int .i64 m)) → Below W.heap.size W W' → V.heap.size ≤ W.heap.size → (Below w.heap.size w W' ∧ W'.cell? ⟨w.heap.size, 0, none⟩ = some (.int .i64 a) ∧ W'.cell? ⟨w.heap.size, 1, none⟩ = some (.int .i64 m) ∧ W'.cell? ⟨g, 0, none⟩ = some (.int .i64 b) ∧ W'.cell? ⟨g, 1, none⟩ = some (.int .i64 m)) := fun h hb hz =>
    ⟨h.1.trans (hb.mono h.1.size), (hb.cell (show w.heap.size < _ by omega)).trans h.2.1, (hb.cell (show w.heap.size < _ by omega)).trans h.2.2.1, (hb.cell (show g < _ by omega)).trans h.2.2.2.1, (hb.cell (show g < _ by omega)).trans h.2.2.2.2⟩
  clear hw2 hA2 hB2 hg q1
  have hSd : (fun W => Below w.heap.size w W ∧ W.cell? ⟨w.heap.size, 0, none⟩ = some (.int .i64 a) ∧ W.cell? ⟨w.heap.size, 1, none⟩ = some (.int .i64 m) ∧ W.cell? ⟨g, 0, none⟩ = some (.int .i64 b) ∧ W.cell? ⟨g, 1, none⟩ = some (.int .i64 m)) V.drew := keep hS (Below.drew (Below.refl _ _)) (Nat.le_refl _)
  refine wp_region_held_drew (S := (fun W => Below w.heap.size w W ∧ W.cell? ⟨w.heap.size, 0, none⟩ = some (.int .i64 a) ∧ W.cell? ⟨w.heap.size, 1, none⟩ = some (.int .i64 m) ∧ W.cell? ⟨g, 0, none⟩ = some (.int .i64 b) ∧ W.cell? ⟨g, 1, none⟩ = some (.int .i64 m))) (by kernel_rfl) hSd (fun _ => ?_)
  refine wpAnyH_take (i := 0) (oi := Oper.mk (some 8) _ _ _ _ _) (v := ?_) rfl (by kernel_rfl) (by kernel_rfl) (by kernel_rfl) (fun _ _ _ h => h) (Or.inl ⟨by rfl, ?_⟩) hSd ?_
  rotate_left
  · intro w hSw
    obtain ⟨_, k0, k1, k2, k3⟩ := hSw
    go_simp
    try with_reducible rfl
  simp only [Act.put, List.setIfInBounds_toArray, List.set_cons_zero, List.set_cons_succ]
  try dsimp only
  refine wpAnyH_take (i := 1) (oi := Oper.mk (some 9) _ _ _ _ _) (v := ?_) rfl (by kernel_rfl) (by kernel_rfl) (by kernel_rfl) (fun _ _ _ h => h) (Or.inl ⟨by rfl, ?_⟩) hSd ?_
  rotate_left
  · intro w hSw
    obtain ⟨_, k0, k1, k2, k3⟩ := hSw
    go_simp
    try with_reducible rfl
  simp only [Act.put, List.setIfInBounds_toArray, List.set_cons_zero, List.set_cons_succ]
  try dsimp only
  refine wpAnyH_take (i := 2) (oi := Oper.mk (some 10) _ _ _ _ _) (v := ?_) rfl (by kernel_rfl) (by kernel_rfl) (by kernel_rfl) (fun _ _ _ h => h) (Or.inl ⟨by rfl, ?_⟩) hSd ?_
  rotate_left
  · intro w hSw
    obtain ⟨_, k0, k1, k2, k3⟩ := hSw
    go_simp
    try with_reducible rfl
  simp only [Act.put, List.setIfInBounds_toArray, List.set_cons_zero, List.set_cons_succ]
  try dsimp only
  refine wpAnyH_take (i := 3) (oi := Oper.mk (some 11) _ _ _ _ _) (v := ?_) rfl (by kernel_rfl) (by kernel_rfl) (by kernel_rfl) (fun _ _ _ h => h) (Or.inl ⟨by rfl, ?_⟩) hSd ?_
  rotate_left
  · intro w hSw
    obtain ⟨_, k0, k1, k2, k3⟩ := hSw
    go_simp
    try with_reducible rfl
  simp only [Act.put, List.setIfInBounds_toArray, List.set_cons_zero, List.set_cons_succ]
  try dsimp only
  refine wpAnyH_take (i := 4) (oi := Oper.mk (some 12) _ _ _ _ _) (v := ?_) rfl (by kernel_rfl) (by kernel_rfl) (by kernel_rfl) (fun _ _ _ h => h) (Or.inl ⟨by rfl, ?_⟩) hSd ?_
  rotate_left
  · intro w hSw
    obtain ⟨_, k0, k1, k2, k3⟩ := hSw
    go_simp
    try with_reducible rfl
  simp only [Act.put, List.setIfInBounds_toArray, List.set_cons_zero, List.set_cons_succ]
  try dsimp only
  refine wpAnyH_take (i := 5) (oi := Oper.mk (some 13) _ _ _ _ _) (v := ?_) rfl (by kernel_rfl) (by kernel_rfl) (by kernel_rfl) (fun _ _ _ h => h) (Or.inl ⟨by rfl, ?_⟩) hSd ?_
  rotate_left
  · intro w hSw
    obtain ⟨_, k0, k1, k2, k3⟩ := hSw
    go_simp
    try with_reducible rfl
  simp only [Act.put, List.setIfInBounds_toArray, List.set_cons_zero, List.set_cons_succ]
  try dsimp only
  refine wpAnyH_take (i := 6) (oi := Oper.mk (some 14) _ _ _ _ _) (v := ?_) rfl (by kernel_rfl) (by kernel_rfl) (by kernel_rfl) (fun _ _ _ h => h) (Or.inl ⟨by rfl, ?_⟩) hSd ?_
  rotate_left
  · intro w hSw
    obtain ⟨_, k0, k1, k2, k3⟩ := hSw
    go_simp
    try with_reducible rfl
  simp only [Act.put, List.setIfInBounds_toArray, List.set_cons_zero, List.set_cons_succ]
  try dsimp only
  refine wpAnyH_take (i := 8) (oi := Oper.mk (some 16) _ _ _ _ _) (v := ?_) rfl (by kernel_rfl) (by kernel_rfl) (by kernel_rfl) (fun _ _ _ h => h) (Or.inl ⟨by rfl, ?_⟩) hSd ?_
  rotate_left
  · intro w hSw
    obtain ⟨_, k0, k1, k2, k3⟩ := hSw
    go_simp
    try with_reducible rfl
  simp only [Act.put, List.setIfInBounds_toArray, List.set_cons_zero, List.set_cons_succ]
  try dsimp only
  refine wpAnyH_take (i := 9) (oi := Oper.mk (some 17) _ _ _ _ _) (v := ?_) rfl (by kernel_rfl) (by kernel_rfl) (by kernel_rfl) (fun _ _ _ h => h) (Or.inl ⟨by rfl, ?_⟩) hSd ?_
  rotate_left
  · intro w hSw
    obtain ⟨_, k0, k1, k2, k3⟩ := hSw
    go_simp
    try with_reducible rfl
  simp only [Act.put, List.setIfInBounds_toArray, List.set_cons_zero, List.set_cons_succ]
  try dsimp only
  refine wpAnyH_take (i := 10) (oi := Oper.mk (some 18) _ _ _ _ _) (v := ?_) rfl (by kernel_rfl) (by kernel_rfl) (by kernel_rfl) (fun _ _ _ h => h) (Or.inl ⟨by rfl, ?_⟩) hSd ?_
  rotate_left
  · intro w hSw
    obtain ⟨_, k0, k1, k2, k3⟩ := hSw
    go_simp
    try with_reducible rfl
  simp only [Act.put, List.setIfInBounds_toArray, List.set_cons_zero, List.set_cons_succ]
  try dsimp only
  refine wpAnyH_take (i := 11) (oi := Oper.mk (some 19) _ _ _ _ _) (v := ?_) rfl (by kernel_rfl) (by kernel_rfl) (by kernel_rfl) (fun _ _ _ h => h) (Or.inl ⟨by rfl, ?_⟩) hSd ?_
  rotate_left
  · intro w hSw
    obtain ⟨_, k0, k1, k2, k3⟩ := hSw
    go_simp
    try with_reducible rfl
  simp only [Act.put, List.setIfInBounds_toArray, List.set_cons_zero, List.set_cons_succ]
  try dsimp only
  refine wpAnyH_take (i := 12) (oi := Oper.mk (some 20) _ _ _ _ _) (v := ?_) rfl (by kernel_rfl) (by kernel_rfl) (by kernel_rfl) (fun _ _ _ h => h) (Or.inl ⟨by rfl, ?_⟩) hSd ?_
  rotate_left
  · intro w hSw
    obtain ⟨_, k0, k1, k2, k3⟩ := hSw
    go_simp
    try with_reducible rfl
  simp only [Act.put, List.setIfInBounds_toArray, List.set_cons_zero, List.set_cons_succ]
  try dsimp only
  refine wpAnyH_ready (rs := [7]) (by kernel_rfl) (by simp) ?_
  refine AllReadyH.cons (o := Oper.mk (some 15) _ _ _ _ _) rfl (fun F hF => ?_) AllReadyH.nil
  go_simp
  refine (q2.out _).mono ?_
  rintro e w5 ⟨rfl, hb5⟩
  have hS5 : (fun W => Below w.heap.size w W ∧ W.cell? ⟨w.heap.size, 0, none⟩ = some (.int .i64 a) ∧ W.cell? ⟨w.heap.size, 1, none⟩ = some (.int .i64 m) ∧ W.cell? ⟨g, 0, none⟩ = some (.int .i64 b) ∧ W.cell? ⟨g, 1, none⟩ = some (.int .i64 m)) w5 := keep hSd hb5 (Nat.le_refl _)
  have hz5 : V.heap.size ≤ w5.heap.size := hb5.size
  try dsimp only
  refine hF.out _ _ hS5 (fun _ => ?_)
  clear hF F
  refine wpAnyH_take (i := 13) (oi := Oper.mk (some 21) _ _ _ _ _) (v := ?_) rfl (by kernel_rfl) (by kernel_rfl) (by kernel_rfl) (fun _ _ _ h => h) (Or.inl ⟨by rfl, ?_⟩) hS5 ?_
  rotate_left
  · intro w hSw
    obtain ⟨_, k0, k1, k2, k3⟩ := hSw
    go_simp
    try with_reducible rfl
  simp only [Act.put, List.setIfInBounds_toArray, List.set_cons_zero, List.set_cons_succ]
  try dsimp only
  refine wpAnyH_take (i := 14) (oi := Oper.mk (some 22) _ _ _ _ _) (v := ?_) rfl (by kernel_rfl) (by kernel_rfl) (by kernel_rfl) (fun _ _ _ h => h) (Or.inl ⟨by rfl, ?_⟩) hS5 ?_
  rotate_left
  · intro w hSw
    obtain ⟨_, k0, k1, k2, k3⟩ := hSw
    go_simp
    try with_reducible rfl
  simp only [Act.put, List.setIfInBounds_toArray, List.set_cons_zero, List.set_cons_succ]
  try dsimp only
  refine wpAnyH_done (by kernel_rfl) ?_ _
  obtain ⟨hw5, k0, k1, k2, k3⟩ := hS5
  clear hSd hS hw3 hla
  go_wp2_with fail
  refine (q2.out _).mono ?_
  rintro e w6 ⟨rfl, hb6⟩
  have hS6 := keep ⟨hw5, k0, k1, k2, k3⟩ hb6 hz5
  have hz6 : V.heap.size ≤ w6.heap.size := Nat.le_trans hz5 hb6.size
  clear hb6 hw5 k0 k1 k2 k3 hb5
  cases d with
  | true =>
    obtain ⟨hbm, hd2⟩ := hyes.out rfl
    subst hbm hd2
    obtain ⟨hw6, k0, k1, k2, k3⟩ := hS6
    go_wp2_with fail
    refine (q3.out _).mono ?_
    rintro e w7 ⟨rfl, hb7⟩
    have hS7 := keep ⟨hw6, k0, k1, k2, k3⟩ hb7 hz6
    clear k0 k1 k2 k3
    obtain ⟨hw7, k0, k1, k2, k3⟩ := hS7
    go_wp2
    go_ret
    exact ⟨rfl, hw7⟩
  | false =>
    obtain ⟨hsub, hbm⟩ := hno.out rfl
    go_upto_region 7 with fail
    have hSd : (fun W => Below w.heap.size w W ∧ W.cell? ⟨w.heap.size, 0, none⟩ = some (.int .i64 a) ∧ W.cell? ⟨w.heap.size, 1, none⟩ = some (.int .i64 m) ∧ W.cell? ⟨g, 0, none⟩ = some (.int .i64 b) ∧ W.cell? ⟨g, 1, none⟩ = some (.int .i64 m)) w6.drew := keep hS6 (Below.drew (Below.refl _ _)) hz6
    refine wp_region_held_drew (S := (fun W => Below w.heap.size w W ∧ W.cell? ⟨w.heap.size, 0, none⟩ = some (.int .i64 a) ∧ W.cell? ⟨w.heap.size, 1, none⟩ = some (.int .i64 m) ∧ W.cell? ⟨g, 0, none⟩ = some (.int .i64 b) ∧ W.cell? ⟨g, 1, none⟩ = some (.int .i64 m))) (by kernel_rfl) hSd (fun _ => ?_)
    refine wpAnyH_take (i := 0) (oi := Oper.mk (some 37) _ _ _ _ _) (v := ?_) rfl (by kernel_rfl) (by kernel_rfl) (by kernel_rfl) (fun _ _ _ h => h) (Or.inl ⟨by rfl, ?_⟩) hSd ?_
    rotate_left
    · intro w hSw
      obtain ⟨_, k0, k1, k2, k3⟩ := hSw
      go_simp
      try with_reducible rfl
    simp only [Act.put, List.setIfInBounds_toArray, List.set_cons_zero, List.set_cons_succ]
    try dsimp only
    refine wpAnyH_take (i := 1) (oi := Oper.mk (some 38) _ _ _ _ _) (v := ?_) rfl (by kernel_rfl) (by kernel_rfl) (by kernel_rfl) (fun _ _ _ h => h) (Or.inl ⟨by rfl, ?_⟩) hSd ?_
    rotate_left
    · intro w hSw
      obtain ⟨_, k0, k1, k2, k3⟩ := hSw
      go_simp
      try with_reducible rfl
    simp only [Act.put, List.setIfInBounds_toArray, List.set_cons_zero, List.set_cons_succ]
    try dsimp only
    refine wpAnyH_take (i := 2) (oi := Oper.mk (some 39) _ _ _ _ _) (v := ?_) rfl (by kernel_rfl) (by kernel_rfl) (by kernel_rfl) (fun _ _ _ h => h) (Or.inl ⟨by rfl, ?_⟩) hSd ?_
    rotate_left
    · intro w hSw
      obtain ⟨_, k0, k1, k2, k3⟩ := hSw
      go_simp
      try with_reducible rfl
    simp only [Act.put, List.setIfInBounds_toArray, List.set_cons_zero, List.set_cons_succ]
    try dsimp only
    refine wpAnyH_take (i := 3) (oi := Oper.mk (some 40) _ _ _ _ _) (v := ?_) rfl (by kernel_rfl) (by kernel_rfl) (by kernel_rfl) (fun _ _ _ h => h) (Or.inl ⟨by rfl, ?_⟩) hSd ?_
    rotate_left
    · intro w hSw
      obtain ⟨_, k0, k1, k2, k3⟩ := hSw
      go_simp
      try with_reducible rfl
    simp only [Act.put, List.setIfInBounds_toArray, List.set_cons_zero, List.set_cons_succ]
    try dsimp only
    refine wpAnyH_take (i := 4) (oi := Oper.mk (some 41) _ _ _ _ _) (v := ?_) rfl (by kernel_rfl) (by kernel_rfl) (by kernel_rfl) (fun _ _ _ h => h) (Or.inl ⟨by rfl, ?_⟩) hSd ?_
    rotate_left
    · intro w hSw
      obtain ⟨_, k0, k1, k2, k3⟩ := hSw
      go_simp
      try with_reducible rfl
    simp only [Act.put, List.setIfInBounds_toArray, List.set_cons_zero, List.set_cons_succ]
    try dsimp only
    refine wpAnyH_take (i := 5) (oi := Oper.mk (some 42) _ _ _ _ _) (v := ?_) rfl (by kernel_rfl) (by kernel_rfl) (by kernel_rfl) (fun _ _ _ h => h) (Or.inl ⟨by rfl, ?_⟩) hSd ?_
    rotate_left
    · intro w hSw
      obtain ⟨_, k0, k1, k2, k3⟩ := hSw
      go_simp
      try with_reducible rfl
    simp only [Act.put, List.setIfInBounds_toArray, List.set_cons_zero, List.set_cons_succ]
    try dsimp only
    refine wpAnyH_take (i := 6) (oi := Oper.mk (some 43) _ _ _ _ _) (v := ?_) rfl (by kernel_rfl) (by kernel_rfl) (by kernel_rfl) (fun _ _ _ h => h) (Or.inl ⟨by rfl, ?_⟩) hSd ?_
    rotate_left
    · intro w hSw
      obtain ⟨_, k0, k1, k2, k3⟩ := hSw
      go_simp
      try with_reducible rfl
    simp only [Act.put, List.setIfInBounds_toArray, List.set_cons_zero, List.set_cons_succ]
    try dsimp only
    refine wpAnyH_take (i := 7) (oi := Oper.mk (some 44) _ _ _ _ _) (v := ?_) rfl (by kernel_rfl) (by kernel_rfl) (by kernel_rfl) (fun _ _ _ h => h) (Or.inl ⟨by rfl, ?_⟩) hSd ?_
    rotate_left
    · intro w hSw
      obtain ⟨_, k0, k1, k2, k3⟩ := hSw
      go_simp
      try with_reducible rfl
    simp only [Act.put, List.setIfInBounds_toArray, List.set_cons_zero, List.set_cons_succ]
    try dsimp only
    refine wpAnyH_take (i := 8) (oi := Oper.mk (some 45) _ _ _ _ _) (v := ?_) rfl (by kernel_rfl) (by kernel_rfl) (by kernel_rfl) (fun _ _ _ h => h) (Or.inl ⟨by rfl, ?_⟩) hSd ?_
    rotate_left
    · intro w hSw
      obtain ⟨_, k0, k1, k2, k3⟩ := hSw
      go_simp
      try with_reducible rfl
    simp only [Act.put, List.setIfInBounds_toArray, List.set_cons_zero, List.set_cons_succ]
    try dsimp only
    refine wpAnyH_take (i := 9) (oi := Oper.mk (some 46) _ _ _ _ _) (v := ?_) rfl (by kernel_rfl) (by kernel_rfl) (by kernel_rfl) (fun _ _ _ h => h) (Or.inl ⟨by rfl, ?_⟩) hSd ?_
    rotate_left
    · intro w hSw
      obtain ⟨_, k0, k1, k2, k3⟩ := hSw
      go_simp
      try with_reducible rfl
    simp only [Act.put, List.setIfInBounds_toArray, List.set_cons_zero, List.set_cons_succ]
    try dsimp only
    refine wpAnyH_take (i := 10) (oi := Oper.mk (some 47) _ _ _ _ _) (v := ?_) rfl (by kernel_rfl) (by kernel_rfl) (by kernel_rfl) (fun _ _ _ h => h) (Or.inl ⟨by rfl, ?_⟩) hSd ?_
    rotate_left
    · intro w hSw
      obtain ⟨_, k0, k1, k2, k3⟩ := hSw
      go_simp
      try with_reducible rfl
    simp only [Act.put, List.setIfInBounds_toArray, List.set_cons_zero, List.set_cons_succ]
    try dsimp only
    refine wpAnyH_take (i := 12) (oi := Oper.mk (some 49) _ _ _ _ _) (v := ?_) rfl (by kernel_rfl) (by kernel_rfl) (by kernel_rfl) (fun _ _ _ h => h) (Or.inl ⟨by rfl, ?_⟩) hSd ?_
    rotate_left
    · intro w hSw
      obtain ⟨_, k0, k1, k2, k3⟩ := hSw
      go_simp
      try with_reducible rfl
    simp only [Act.put, List.setIfInBounds_toArray, List.set_cons_zero, List.set_cons_succ]
    try dsimp only
    refine wpAnyH_take (i := 13) (oi := Oper.mk (some 50) _ _ _ _ _) (v := ?_) rfl (by kernel_rfl) (by kernel_rfl) (by kernel_rfl) (fun _ _ _ h => h) (Or.inl ⟨by rfl, ?_⟩) hSd ?_
    rotate_left
    · intro w hSw
      obtain ⟨_, k0, k1, k2, k3⟩ := hSw
      go_simp
      try with_reducible rfl
    simp only [Act.put, List.setIfInBounds_toArray, List.set_cons_zero, List.set_cons_succ]
    try dsimp only
    refine wpAnyH_take (i := 14) (oi := Oper.mk (some 51) _ _ _ _ _) (v := ?_) rfl (by kernel_rfl) (by kernel_rfl) (by kernel_rfl) (fun _ _ _ h => h) (Or.inl ⟨by rfl, ?_⟩) hSd ?_
    rotate_left
    · intro w hSw
      obtain ⟨_, k0, k1, k2, k3⟩ := hSw
      go_simp
      try with_reducible rfl
    simp only [Act.put, List.setIfInBounds_toArray, List.set_cons_zero, List.set_cons_succ]
    try dsimp only
    refine wpAnyH_take (i := 15) (oi := Oper.mk (some 52) _ _ _ _ _) (v := ?_) rfl (by kernel_rfl) (by kernel_rfl) (by kernel_rfl) (fun _ _ _ h => h) (Or.inl ⟨by rfl, ?_⟩) hSd ?_
    rotate_left
    · intro w hSw
      obtain ⟨_, k0, k1, k2, k3⟩ := hSw
      go_simp
      try with_reducible rfl
    simp only [Act.put, List.setIfInBounds_toArray, List.set_cons_zero, List.set_cons_succ]
    try dsimp only
    refine wpAnyH_take (i := 16) (oi := Oper.mk (some 53) _ _ _ _ _) (v := ?_) rfl (by kernel_rfl) (by kernel_rfl) (by kernel_rfl) (fun _ _ _ h => h) (Or.inl ⟨by rfl, ?_⟩) hSd ?_
    rotate_left
    · intro w hSw
      obtain ⟨_, k0, k1, k2, k3⟩ := hSw
      go_simp
      try with_reducible rfl
    simp only [Act.put, List.setIfInBounds_toArray, List.set_cons_zero, List.set_cons_succ]
    try dsimp only
    refine wpAnyH_ready (rs := [11]) (by kernel_rfl) (by simp) ?_
    refine AllReadyH.cons (o := Oper.mk (some 48) _ _ _ _ _) rfl (fun F hF => ?_) AllReadyH.nil
    go_simp
    refine (q3.out _).mono ?_
    rintro e w7 ⟨rfl, hb7⟩
    have hS7 : (fun W => Below w.heap.size w W ∧ W.cell? ⟨w.heap.size, 0, none⟩ = some (.int .i64 a) ∧ W.cell? ⟨w.heap.size, 1, none⟩ = some (.int .i64 m) ∧ W.cell? ⟨g, 0, none⟩ = some (.int .i64 b) ∧ W.cell? ⟨g, 1, none⟩ = some (.int .i64 m)) w7 := keep hSd hb7 hz6
    try dsimp only
    refine hF.out _ _ hS7 (fun _ => ?_)
    clear hF F
    refine wpAnyH_take (i := 17) (oi := Oper.mk (some 54) _ _ _ _ _) (v := ?_) rfl (by kernel_rfl) (by kernel_rfl) (by kernel_rfl) (fun _ _ _ h => h) (Or.inl ⟨by rfl, ?_⟩) hS7 ?_
    rotate_left
    · intro w hSw
      obtain ⟨_, k0, k1, k2, k3⟩ := hSw
      go_simp
      try with_reducible rfl
    simp only [Act.put, List.setIfInBounds_toArray, List.set_cons_zero, List.set_cons_succ]
    try dsimp only
    refine wpAnyH_take (i := 18) (oi := Oper.mk (some 55) _ _ _ _ _) (v := ?_) rfl (by kernel_rfl) (by kernel_rfl) (by kernel_rfl) (fun _ _ _ h => h) (Or.inl ⟨by rfl, ?_⟩) hS7 ?_
    rotate_left
    · intro w hSw
      obtain ⟨_, k0, k1, k2, k3⟩ := hSw
      go_simp
      try with_reducible rfl
    simp only [Act.put, List.setIfInBounds_toArray, List.set_cons_zero, List.set_cons_succ]
    try dsimp only
    refine wpAnyH_take (i := 19) (oi := Oper.mk (some 2) _ _ _ _ _) (v := ?_) rfl (by kernel_rfl) (by kernel_rfl) (by kernel_rfl) (fun _ _ _ h => h) (Or.inl ⟨by rfl, ?_⟩) hS7 ?_
    rotate_left
    · intro w hSw
      obtain ⟨_, k0, k1, k2, k3⟩ := hSw
      go_simp
      try with_reducible rfl
    simp only [Act.put, List.setIfInBounds_toArray, List.set_cons_zero, List.set_cons_succ]
    try dsimp only
    refine wpAnyH_done (by kernel_rfl) ?_ _
    go_wp2
    go_ret
    exact ⟨rfl, hS7.1⟩
theorem keeps_given (H : CodeOk) (v : Value) (w : World) {base : Nat} (h0 : Value.okWide Try.prog w .any base 25 v) :
    Calls Try.prog 4 #[v] w fun e w' => e = .returned (.bool true) ∧ Below w.heap.size w w' := by
  obtain ⟨c0, c1, rfl, k0, k1⟩ := agg_two (e0 := 3) (e1 := 3) (Or.inr ⟨_, Try.underlying25⟩) (by kernel_rfl) (by kernel_rfl) h0
  obtain ⟨a, rfl, ha⟩ := int_of_cell Try.underlying3 k0
  obtain ⟨m, rfl, hm⟩ := int_of_cell Try.underlying3 k1
  exact keeps_core H a m w (wf64 ha) (wf64 hm)
end Go.Proofs.Ytjpfdpjkffkleaa.walks
