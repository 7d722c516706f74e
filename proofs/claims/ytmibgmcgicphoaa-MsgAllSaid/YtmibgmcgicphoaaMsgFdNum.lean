/-
  THE CONTRACTS OF msg's closures of numbers: what one puts, what one takes. (Written by program: wip/tools/gen_msg_fd.py.)
-/
import Derived.Test.YtmibgmcgicphoaaMsgFdMathR
import Derived.Test.YtmibgmcgicphoaaMsgVal
import Derived.Test.YtmibgmcgicphoaaPack
import Derived.Deep.RegionHeld3
import Derived.BigQuiet
import Derived.Deep.QuietTactic
namespace Go.Proofs.Ytmibgmcgicphoaa.msg
open Go.RowKit Go.Proofs.Ytmibgmcgicphoaa.octets Go.Proofs.Ytmibgmcgicphoaa.pack
set_option linter.unusedVariables false
set_option linter.unusedSimpArgs false

theorem wrap_low (n : Int) : IntKind.u64.wrap n = (low64 n : Int) := by rw [IntKind.wrap_u64]; unfold low64; omega
theorem low64_le (n : Int) : low64 n ≤ 18446744073709551615 := by unfold low64; omega
theorem made_seen {l : List UInt8} {w w' : World} {e : Ending} (h : Made l w e w') : ∃ A, e = .returned (.tuple #[.slice A l.length l.length, .int .i64 0]) ∧ Seen w' A l ∧ Below w.heap.size w w' := by
  obtain ⟨b, rfl, _, hr, hb⟩ := h
  exact ⟨_, rfl, hr.seen, hb⟩
/-- three cells that a later world keeps -/
theorem keep3 {w W W' : World} {a b c : Addr} {x y z : Value} (ha : a.block < w.heap.size) (hb : b.block < w.heap.size) (hc : c.block < w.heap.size) (h : Below w.heap.size w W ∧ W.cell? a = some x ∧ W.cell? b = some y ∧ W.cell? c = some z) (hbl : Below W.heap.size W W') :
    Below w.heap.size w W' ∧ W'.cell? a = some x ∧ W'.cell? b = some y ∧ W'.cell? c = some z :=
  have hz := h.1.size
  ⟨h.1.trans (hbl.mono hz), (hbl.cell (by omega)).trans h.2.1, (hbl.cell (by omega)).trans h.2.2.1, (hbl.cell (by omega)).trans h.2.2.2⟩

theorem grown_set (w : World) (a : Addr) (u : Value) : w.grownBy (w.setCell a u) (some a.block) :=
  have h : Below a.block w (w.setCell a u) := (Below.refl _ _).setCell (Nat.le_refl _) _
  ⟨h.os, h.tape, h.output, h.size, fun k hk hne => Below.heap_setCell w a u k (fun e => hne (by rw [e]))⟩
theorem grown_drewN {w w' : World} {r : Option Nat} (h : w.grownBy w' r) (q : Nat) : w.grownBy (w'.drewN q) r := ⟨h.os, h.tape, h.output, h.size, h.block⟩

set_option maxRecDepth 100000 in
set_option maxHeartbeats 1000000 in
theorem numPut_int (pa ps g i k : Nat) (n : Int) (w : World) (hk : k ≤ 4) (ha : w.cell? ⟨pa, 0, none⟩ = some (.pointer (some ⟨g, i, none⟩))) (hs : w.cell? ⟨ps, 0, none⟩ = some (.int .i64 k)) (hc : w.cell? ⟨g, i, none⟩ = some (.int .i64 n)) :
    Calls Try.prog 53 #[.pointer (some ⟨pa, 0, none⟩), .pointer (some ⟨ps, 0, none⟩)] w fun e w' => ∃ A c, e = .returned (.slice A (numB k n).length c) ∧ Seen w' A (numB k n) ∧ Below w.heap.size w w' := by
  have la := World.block_lt_of_cell? w _ ha
  have ls := World.block_lt_of_cell? w _ hs
  have lc := World.block_lt_of_cell? w _ hc
  have hS : Below w.heap.size w w ∧ w.cell? ⟨pa, 0, none⟩ = some (.pointer (some ⟨g, i, none⟩)) ∧ w.cell? ⟨ps, 0, none⟩ = some (.int .i64 k) ∧ w.cell? ⟨g, i, none⟩ = some (.int .i64 n) := ⟨Below.refl _ _, ha, hs, hc⟩
  have ex : Unit → IntKind.u64.wrap n = (low64 n : Int) := fun _ => wrap_low n
  have hx : Unit → low64 n ≤ 18446744073709551615 := fun _ => low64_le n
  have eB : Unit → numB k n = if low64 n < 256 ^ k then octs k (low64 n) else [] := fun _ => rfl
  generalize low64 n = x at ex hx eB
  generalize numB k n = B at eB ⊢
  clear ha hs hc
  have hSd : (fun W => Below w.heap.size w W ∧ W.cell? ⟨pa, 0, none⟩ = some (.pointer (some ⟨g, i, none⟩)) ∧ W.cell? ⟨ps, 0, none⟩ = some (.int .i64 k) ∧ W.cell? ⟨g, i, none⟩ = some (.int .i64 n)) w.drew := keep3 la ls lc hS (Below.drew (Below.refl _ _))
  by_cases hlt : x < 256 ^ k
  · have e : B = octs k x := by rw [eB ()]; exact if_pos hlt
    subst e
    have hl : Unit → x < 256 ^ k := fun _ => hlt
    clear hlt eB
    go_enter Try.func53, Try.ntmps53
    go_wp2_with fail
    refine wp_region_held_drew (S := (fun W => Below w.heap.size w W ∧ W.cell? ⟨pa, 0, none⟩ = some (.pointer (some ⟨g, i, none⟩)) ∧ W.cell? ⟨ps, 0, none⟩ = some (.int .i64 k) ∧ W.cell? ⟨g, i, none⟩ = some (.int .i64 n))) (by kernel_rfl) hSd (fun _ => ?_)
    refine wpAnyH_take (i := 0) (oi := Oper.mk (some 6) _ _ _ _ _) (v := ?_) rfl (by kernel_rfl) (by kernel_rfl) (by kernel_rfl) (fun _ _ _ h => h) (Or.inl ⟨by rfl, ?_⟩) hSd ?_
    rotate_left
    · intro w hSw
      obtain ⟨cb, c1, c2, c3⟩ := hSw
      go_simp
      try with_reducible rfl
    simp only [Act.put, List.setIfInBounds_toArray, List.set_cons_zero, List.set_cons_succ]
    try dsimp only
    refine wpAnyH_take (i := 1) (oi := Oper.mk (some 7) _ _ _ _ _) (v := ?_) rfl (by kernel_rfl) (by kernel_rfl) (by kernel_rfl) (fun _ _ _ h => h) (Or.inl ⟨by rfl, ?_⟩) hSd ?_
    rotate_left
    · intro w hSw
      obtain ⟨cb, c1, c2, c3⟩ := hSw
      go_simp
      try with_reducible rfl
    simp only [Act.put, List.setIfInBounds_toArray, List.set_cons_zero, List.set_cons_succ]
    try dsimp only
    refine wpAnyH_take (i := 2) (oi := Oper.mk (some 8) _ _ _ _ _) (v := ?_) rfl (by kernel_rfl) (by kernel_rfl) (by kernel_rfl) (fun _ _ _ h => h) (Or.inl ⟨by rfl, ?_⟩) hSd ?_
    rotate_left
    · intro w hSw
      obtain ⟨cb, c1, c2, c3⟩ := hSw
      go_simp
      try with_reducible rfl
    simp only [Act.put, List.setIfInBounds_toArray, List.set_cons_zero, List.set_cons_succ]
    try dsimp only
    refine wpAnyH_take (i := 3) (oi := Oper.mk (some 9) _ _ _ _ _) (v := ?_) rfl (by kernel_rfl) (by kernel_rfl) (by kernel_rfl) (fun _ _ _ h => h) (Or.inl ⟨by rfl, ?_⟩) hSd ?_
    rotate_left
    · intro w hSw
      obtain ⟨cb, c1, c2, c3⟩ := hSw
      go_simp
      try with_reducible rfl
    simp only [Act.put, List.setIfInBounds_toArray, List.set_cons_zero, List.set_cons_succ]
    try dsimp only
    refine wpAnyH_take (i := 4) (oi := Oper.mk (some 10) _ _ _ _ _) (v := ?_) rfl (by kernel_rfl) (by kernel_rfl) (by kernel_rfl) (fun _ _ _ h => h) (Or.inl ⟨by rfl, ?_⟩) hSd ?_
    rotate_left
    · intro w hSw
      obtain ⟨cb, c1, c2, c3⟩ := hSw
      go_simp
      try with_reducible rfl
    simp only [Act.put, List.setIfInBounds_toArray, List.set_cons_zero, List.set_cons_succ]
    try dsimp only
    refine wpAnyH_ready (rs := [5]) (by kernel_rfl) (by simp) ?_
    refine AllReadyH.cons (o := Oper.mk (some 11) _ _ _ _ _) rfl (fun F hF => ?_) AllReadyH.nil
    go_simp
    refine (put_at _ _ x k _ (ex ()) rfl (by omega) (hl ())).mono ?_
    intro e w2 hm
    obtain ⟨A, rfl, hse, hb⟩ := made_seen hm
    clear hm
    have hS2 := keep3 la ls lc hSd hb
    clear hSd hb ex hx hl
    rw [octs_len]
    dsimp only
    refine hF.out _ _ hS2 (fun _ => ?_)
    clear hF F
    refine wpAnyH_take (i := 6) (oi := Oper.mk (some 5) _ _ _ _ _) (v := ?_) rfl (by kernel_rfl) (by kernel_rfl) (by kernel_rfl) (fun _ _ _ h => h) (Or.inl ⟨by rfl, ?_⟩) hS2 ?_
    rotate_left
    · intro w hSw
      obtain ⟨cb, c1, c2, c3⟩ := hSw
      go_simp
      try with_reducible rfl
    simp only [Act.put, List.setIfInBounds_toArray, List.set_cons_zero, List.set_cons_succ]
    try dsimp only
    refine wpAnyH_take (i := 7) (oi := Oper.mk (some 12) _ _ _ _ _) (v := ?_) rfl (by kernel_rfl) (by kernel_rfl) (by kernel_rfl) (fun _ _ _ h => h) (Or.inl ⟨by rfl, ?_⟩) hS2 ?_
    rotate_left
    · intro w hSw
      obtain ⟨cb, c1, c2, c3⟩ := hSw
      go_simp
      try with_reducible rfl
    simp only [Act.put, List.setIfInBounds_toArray, List.set_cons_zero, List.set_cons_succ]
    try dsimp only
    refine wpAnyH_take (i := 8) (oi := Oper.mk (some 13) _ _ _ _ _) (v := ?_) rfl (by kernel_rfl) (by kernel_rfl) (by kernel_rfl) (fun _ _ _ h => h) (Or.inl ⟨by rfl, ?_⟩) hS2 ?_
    rotate_left
    · intro w hSw
      obtain ⟨cb, c1, c2, c3⟩ := hSw
      go_simp
      try with_reducible rfl
    simp only [Act.put, List.setIfInBounds_toArray, List.set_cons_zero, List.set_cons_succ]
    try dsimp only
    refine wpAnyH_take (i := 9) (oi := Oper.mk (some 3) _ _ _ _ _) (v := ?_) rfl (by kernel_rfl) (by kernel_rfl) (by kernel_rfl) (fun _ _ _ h => h) (Or.inl ⟨by rfl, ?_⟩) hS2 ?_
    rotate_left
    · intro w hSw
      obtain ⟨cb, c1, c2, c3⟩ := hSw
      go_simp
      try with_reducible rfl
    simp only [Act.put, List.setIfInBounds_toArray, List.set_cons_zero, List.set_cons_succ]
    try dsimp only
    refine wpAnyH_take (i := 10) (oi := Oper.mk (some 4) _ _ _ _ _) (v := ?_) rfl (by kernel_rfl) (by kernel_rfl) (by kernel_rfl) (fun _ _ _ h => h) (Or.inl ⟨by rfl, ?_⟩) hS2 ?_
    rotate_left
    · intro w hSw
      obtain ⟨cb, c1, c2, c3⟩ := hSw
      go_simp
      try with_reducible rfl
    simp only [Act.put, List.setIfInBounds_toArray, List.set_cons_zero, List.set_cons_succ]
    try dsimp only
    refine wpAnyH_done (by kernel_rfl) ?_ _
    go_wp2
    go_ret
    exact ⟨_, _, by rw [octs_len]; rfl, by assumption, hS2.1⟩
  · have e : B = [] := by rw [eB ()]; exact if_neg hlt
    subst e
    have hl : Unit → 256 ^ k ≤ x := fun _ => Nat.le_of_not_lt hlt
    clear hlt eB
    go_enter Try.func53, Try.ntmps53
    go_wp2_with fail
    refine wp_region_held_drew (S := (fun W => Below w.heap.size w W ∧ W.cell? ⟨pa, 0, none⟩ = some (.pointer (some ⟨g, i, none⟩)) ∧ W.cell? ⟨ps, 0, none⟩ = some (.int .i64 k) ∧ W.cell? ⟨g, i, none⟩ = some (.int .i64 n))) (by kernel_rfl) hSd (fun _ => ?_)
    refine wpAnyH_take (i := 0) (oi := Oper.mk (some 6) _ _ _ _ _) (v := ?_) rfl (by kernel_rfl) (by kernel_rfl) (by kernel_rfl) (fun _ _ _ h => h) (Or.inl ⟨by rfl, ?_⟩) hSd ?_
    rotate_left
    · intro w hSw
      obtain ⟨cb, c1, c2, c3⟩ := hSw
      go_simp
      try with_reducible rfl
    simp only [Act.put, List.setIfInBounds_toArray, List.set_cons_zero, List.set_cons_succ]
    try dsimp only
    refine wpAnyH_take (i := 1) (oi := Oper.mk (some 7) _ _ _ _ _) (v := ?_) rfl (by kernel_rfl) (by kernel_rfl) (by kernel_rfl) (fun _ _ _ h => h) (Or.inl ⟨by rfl, ?_⟩) hSd ?_
    rotate_left
    · intro w hSw
      obtain ⟨cb, c1, c2, c3⟩ := hSw
      go_simp
      try with_reducible rfl
    simp only [Act.put, List.setIfInBounds_toArray, List.set_cons_zero, List.set_cons_succ]
    try dsimp only
    refine wpAnyH_take (i := 2) (oi := Oper.mk (some 8) _ _ _ _ _) (v := ?_) rfl (by kernel_rfl) (by kernel_rfl) (by kernel_rfl) (fun _ _ _ h => h) (Or.inl ⟨by rfl, ?_⟩) hSd ?_
    rotate_left
    · intro w hSw
      obtain ⟨cb, c1, c2, c3⟩ := hSw
      go_simp
      try with_reducible rfl
    simp only [Act.put, List.setIfInBounds_toArray, List.set_cons_zero, List.set_cons_succ]
    try dsimp only
    refine wpAnyH_take (i := 3) (oi := Oper.mk (some 9) _ _ _ _ _) (v := ?_) rfl (by kernel_rfl) (by kernel_rfl) (by kernel_rfl) (fun _ _ _ h => h) (Or.inl ⟨by rfl, ?_⟩) hSd ?_
    rotate_left
    · intro w hSw
      obtain ⟨cb, c1, c2, c3⟩ := hSw
      go_simp
      try with_reducible rfl
    simp only [Act.put, List.setIfInBounds_toArray, List.set_cons_zero, List.set_cons_succ]
    try dsimp only
    refine wpAnyH_take (i := 4) (oi := Oper.mk (some 10) _ _ _ _ _) (v := ?_) rfl (by kernel_rfl) (by kernel_rfl) (by kernel_rfl) (fun _ _ _ h => h) (Or.inl ⟨by rfl, ?_⟩) hSd ?_
    rotate_left
    · intro w hSw
      obtain ⟨cb, c1, c2, c3⟩ := hSw
      go_simp
      try with_reducible rfl
    simp only [Act.put, List.setIfInBounds_toArray, List.set_cons_zero, List.set_cons_succ]
    try dsimp only
    refine wpAnyH_ready (rs := [5]) (by kernel_rfl) (by simp) ?_
    refine AllReadyH.cons (o := Oper.mk (some 11) _ _ _ _ _) rfl (fun F hF => ?_) AllReadyH.nil
    go_simp
    refine (put_no_at _ _ x k _ (ex ()) rfl (hx ()) (by omega) (hl ())).mono ?_
    rintro e w2 ⟨rfl, rfl⟩
    have hS2 := hSd
    clear hSd ex hx hl
    dsimp only
    refine hF.out _ _ hS2 (fun _ => ?_)
    clear hF F
    refine wpAnyH_take (i := 6) (oi := Oper.mk (some 5) _ _ _ _ _) (v := ?_) rfl (by kernel_rfl) (by kernel_rfl) (by kernel_rfl) (fun _ _ _ h => h) (Or.inl ⟨by rfl, ?_⟩) hS2 ?_
    rotate_left
    · intro w hSw
      obtain ⟨cb, c1, c2, c3⟩ := hSw
      go_simp
      try with_reducible rfl
    simp only [Act.put, List.setIfInBounds_toArray, List.set_cons_zero, List.set_cons_succ]
    try dsimp only
    refine wpAnyH_take (i := 7) (oi := Oper.mk (some 12) _ _ _ _ _) (v := ?_) rfl (by kernel_rfl) (by kernel_rfl) (by kernel_rfl) (fun _ _ _ h => h) (Or.inl ⟨by rfl, ?_⟩) hS2 ?_
    rotate_left
    · intro w hSw
      obtain ⟨cb, c1, c2, c3⟩ := hSw
      go_simp
      try with_reducible rfl
    simp only [Act.put, List.setIfInBounds_toArray, List.set_cons_zero, List.set_cons_succ]
    try dsimp only
    refine wpAnyH_take (i := 8) (oi := Oper.mk (some 13) _ _ _ _ _) (v := ?_) rfl (by kernel_rfl) (by kernel_rfl) (by kernel_rfl) (fun _ _ _ h => h) (Or.inl ⟨by rfl, ?_⟩) hS2 ?_
    rotate_left
    · intro w hSw
      obtain ⟨cb, c1, c2, c3⟩ := hSw
      go_simp
      try with_reducible rfl
    simp only [Act.put, List.setIfInBounds_toArray, List.set_cons_zero, List.set_cons_succ]
    try dsimp only
    refine wpAnyH_take (i := 9) (oi := Oper.mk (some 3) _ _ _ _ _) (v := ?_) rfl (by kernel_rfl) (by kernel_rfl) (by kernel_rfl) (fun _ _ _ h => h) (Or.inl ⟨by rfl, ?_⟩) hS2 ?_
    rotate_left
    · intro w hSw
      obtain ⟨cb, c1, c2, c3⟩ := hSw
      go_simp
      try with_reducible rfl
    simp only [Act.put, List.setIfInBounds_toArray, List.set_cons_zero, List.set_cons_succ]
    try dsimp only
    refine wpAnyH_take (i := 10) (oi := Oper.mk (some 4) _ _ _ _ _) (v := ?_) rfl (by kernel_rfl) (by kernel_rfl) (by kernel_rfl) (fun _ _ _ h => h) (Or.inl ⟨by rfl, ?_⟩) hS2 ?_
    rotate_left
    · intro w hSw
      obtain ⟨cb, c1, c2, c3⟩ := hSw
      go_simp
      try with_reducible rfl
    simp only [Act.put, List.setIfInBounds_toArray, List.set_cons_zero, List.set_cons_succ]
    try dsimp only
    refine wpAnyH_done (by kernel_rfl) ?_ _
    go_wp2
    go_ret
    exact ⟨_, _, rfl, Seen.none_ _ _, hS2.1⟩
set_option maxRecDepth 100000 in
set_option maxHeartbeats 1000000 in
theorem numTake_int (pa pl ph g i k : Nat) (low high : Int) (A : Option Addr) (c : Nat) (l : List UInt8) (cs : List Value) (w : World) (hk : k ≤ 4) (hl : l.length = k) (hse : Seen w A l) (ha : w.cell? ⟨pa, 0, none⟩ = some (.pointer (some ⟨g, i, none⟩))) (hlo : w.cell? ⟨pl, 0, none⟩ = some (.int .i64 low)) (hhi : w.cell? ⟨ph, 0, none⟩ = some (.int .i64 high))
    (hg : Arr w g cs) (hi : i < cs.length) (ga : pa ≠ g) (gl : pl ≠ g) (gh : ph ≠ g) :
    Calls Try.prog 55 #[.slice A k c, .pointer (some ⟨pa, 0, none⟩), .pointer (some ⟨pl, 0, none⟩), .pointer (some ⟨ph, 0, none⟩)] w fun e w' => e = .returned (.bool (decide (low ≤ (num l : Int)) && decide ((num l : Int) ≤ high))) ∧ Arr w' g (cs.set i (.int .i64 (num l))) ∧ w.grownBy w' (some g) := by
  obtain ⟨x, hx⟩ : ∃ x, num l = x := ⟨_, rfl⟩
  have hx4 : x < 4294967296 := by
    have := num_lt l
    have h4 : 256 ^ l.length ≤ 256 ^ 4 := Nat.pow_le_pow_right (by decide) (by omega)
    have h4' : (256 : Nat) ^ 4 = 4294967296 := by decide
    omega
  rw [hx]
  replace hx : Unit → num l = x := fun _ => hx
  replace hl := Lib.hid hl
  obtain ⟨old, cg⟩ : ∃ v, w.cell? ⟨g, i, none⟩ = some v := ⟨_, hg.cell (List.getElem?_eq_getElem hi)⟩
  have fg := hg.frozen i
  have hA2 := hg.set i (.int .i64 (x : Int))
  have hc2 : ∀ q, ((w.setCell ⟨g, i, none⟩ (.int .i64 (x : Int))).drewN q).cell? ⟨g, i, none⟩ = some (.int .i64 (x : Int)) := fun q => hA2.cell (by rw [List.getElem?_set_self hi])
  have ha2 : ∀ q, ((w.setCell ⟨g, i, none⟩ (.int .i64 (x : Int))).drewN q).cell? ⟨pa, 0, none⟩ = some (.pointer (some ⟨g, i, none⟩)) := fun q => (World.cell?_of_block (Below.heap_setCell w ⟨g, i, none⟩ _ pa ga)).trans ha
  have hl2 : ∀ q, ((w.setCell ⟨g, i, none⟩ (.int .i64 (x : Int))).drewN q).cell? ⟨pl, 0, none⟩ = some (.int .i64 low) := fun q => (World.cell?_of_block (Below.heap_setCell w ⟨g, i, none⟩ _ pl gl)).trans hlo
  have hh2 : ∀ q, ((w.setCell ⟨g, i, none⟩ (.int .i64 (x : Int))).drewN q).cell? ⟨ph, 0, none⟩ = some (.int .i64 high) := fun q => (World.cell?_of_block (Below.heap_setCell w ⟨g, i, none⟩ _ ph gh)).trans hhi
  have hgr := grown_set w ⟨g, i, none⟩ (.int .i64 (x : Int))
  have ew : IntKind.i64.wrap (x : Int) = (x : Int) := by rw [IntKind.wrap_i64]; omega
  clear hg hi ga gl gh hlo hhi
  obtain ⟨b1, t1⟩ : ∃ b, decide (low ≤ (x : Int)) = b := ⟨_, rfl⟩
  obtain ⟨b2, t2⟩ : ∃ b, decide ((x : Int) ≤ high) = b := ⟨_, rfl⟩
  rw [t1, t2]
  cases b1
  all_goals
    go_enter Try.func55, Try.ntmps55
    go_wp2_with fail
    refine (take_seen_at A c k x l _ hl.out (by omega) hse (hx ())).mono ?_
    rintro e w' ⟨rfl, rfl⟩
    go_wp2_with fail
    go_quiet (fail)
    go_wp2
    go_ret
    exact ⟨rfl, hA2.drewN _, grown_drewN hgr _⟩
set_option maxRecDepth 100000 in
set_option maxHeartbeats 1000000 in
theorem numPut_errno (pa ps g i k : Nat) (n : Int) (w : World) (hk : k ≤ 4) (ha : w.cell? ⟨pa, 0, none⟩ = some (.pointer (some ⟨g, i, none⟩))) (hs : w.cell? ⟨ps, 0, none⟩ = some (.int .i64 k)) (hc : w.cell? ⟨g, i, none⟩ = some (.int .i64 n)) :
    Calls Try.prog 61 #[.pointer (some ⟨pa, 0, none⟩), .pointer (some ⟨ps, 0, none⟩)] w fun e w' => ∃ A c, e = .returned (.slice A (numB k n).length c) ∧ Seen w' A (numB k n) ∧ Below w.heap.size w w' := by
  have la := World.block_lt_of_cell? w _ ha
  have ls := World.block_lt_of_cell? w _ hs
  have lc := World.block_lt_of_cell? w _ hc
  have hS : Below w.heap.size w w ∧ w.cell? ⟨pa, 0, none⟩ = some (.pointer (some ⟨g, i, none⟩)) ∧ w.cell? ⟨ps, 0, none⟩ = some (.int .i64 k) ∧ w.cell? ⟨g, i, none⟩ = some (.int .i64 n) := ⟨Below.refl _ _, ha, hs, hc⟩
  have ex : Unit → IntKind.u64.wrap n = (low64 n : Int) := fun _ => wrap_low n
  have hx : Unit → low64 n ≤ 18446744073709551615 := fun _ => low64_le n
  have eB : Unit → numB k n = if low64 n < 256 ^ k then octs k (low64 n) else [] := fun _ => rfl
  generalize low64 n = x at ex hx eB
  generalize numB k n = B at eB ⊢
  clear ha hs hc
  have hSd : (fun W => Below w.heap.size w W ∧ W.cell? ⟨pa, 0, none⟩ = some (.pointer (some ⟨g, i, none⟩)) ∧ W.cell? ⟨ps, 0, none⟩ = some (.int .i64 k) ∧ W.cell? ⟨g, i, none⟩ = some (.int .i64 n)) w.drew := keep3 la ls lc hS (Below.drew (Below.refl _ _))
  by_cases hlt : x < 256 ^ k
  · have e : B = octs k x := by rw [eB ()]; exact if_pos hlt
    subst e
    have hl : Unit → x < 256 ^ k := fun _ => hlt
    clear hlt eB
    go_enter Try.func61, Try.ntmps61
    go_wp2_with fail
    refine wp_region_held_drew (S := (fun W => Below w.heap.size w W ∧ W.cell? ⟨pa, 0, none⟩ = some (.pointer (some ⟨g, i, none⟩)) ∧ W.cell? ⟨ps, 0, none⟩ = some (.int .i64 k) ∧ W.cell? ⟨g, i, none⟩ = some (.int .i64 n))) (by kernel_rfl) hSd (fun _ => ?_)
    refine wpAnyH_take (i := 0) (oi := Oper.mk (some 6) _ _ _ _ _) (v := ?_) rfl (by kernel_rfl) (by kernel_rfl) (by kernel_rfl) (fun _ _ _ h => h) (Or.inl ⟨by rfl, ?_⟩) hSd ?_
    rotate_left
    · intro w hSw
      obtain ⟨cb, c1, c2, c3⟩ := hSw
      go_simp
      try with_reducible rfl
    simp only [Act.put, List.setIfInBounds_toArray, List.set_cons_zero, List.set_cons_succ]
    try dsimp only
    refine wpAnyH_take (i := 1) (oi := Oper.mk (some 7) _ _ _ _ _) (v := ?_) rfl (by kernel_rfl) (by kernel_rfl) (by kernel_rfl) (fun _ _ _ h => h) (Or.inl ⟨by rfl, ?_⟩) hSd ?_
    rotate_left
    · intro w hSw
      obtain ⟨cb, c1, c2, c3⟩ := hSw
      go_simp
      try with_reducible rfl
    simp only [Act.put, List.setIfInBounds_toArray, List.set_cons_zero, List.set_cons_succ]
    try dsimp only
    refine wpAnyH_take (i := 2) (oi := Oper.mk (some 8) _ _ _ _ _) (v := ?_) rfl (by kernel_rfl) (by kernel_rfl) (by kernel_rfl) (fun _ _ _ h => h) (Or.inl ⟨by rfl, ?_⟩) hSd ?_
    rotate_left
    · intro w hSw
      obtain ⟨cb, c1, c2, c3⟩ := hSw
      go_simp
      try with_reducible rfl
    simp only [Act.put, List.setIfInBounds_toArray, List.set_cons_zero, List.set_cons_succ]
    try dsimp only
    refine wpAnyH_take (i := 3) (oi := Oper.mk (some 9) _ _ _ _ _) (v := ?_) rfl (by kernel_rfl) (by kernel_rfl) (by kernel_rfl) (fun _ _ _ h => h) (Or.inl ⟨by rfl, ?_⟩) hSd ?_
    rotate_left
    · intro w hSw
      obtain ⟨cb, c1, c2, c3⟩ := hSw
      go_simp
      try with_reducible rfl
    simp only [Act.put, List.setIfInBounds_toArray, List.set_cons_zero, List.set_cons_succ]
    try dsimp only
    refine wpAnyH_take (i := 4) (oi := Oper.mk (some 10) _ _ _ _ _) (v := ?_) rfl (by kernel_rfl) (by kernel_rfl) (by kernel_rfl) (fun _ _ _ h => h) (Or.inl ⟨by rfl, ?_⟩) hSd ?_
    rotate_left
    · intro w hSw
      obtain ⟨cb, c1, c2, c3⟩ := hSw
      go_simp
      try with_reducible rfl
    simp only [Act.put, List.setIfInBounds_toArray, List.set_cons_zero, List.set_cons_succ]
    try dsimp only
    refine wpAnyH_ready (rs := [5]) (by kernel_rfl) (by simp) ?_
    refine AllReadyH.cons (o := Oper.mk (some 11) _ _ _ _ _) rfl (fun F hF => ?_) AllReadyH.nil
    go_simp
    refine (put_at _ _ x k _ (ex ()) rfl (by omega) (hl ())).mono ?_
    intro e w2 hm
    obtain ⟨A, rfl, hse, hb⟩ := made_seen hm
    clear hm
    have hS2 := keep3 la ls lc hSd hb
    clear hSd hb ex hx hl
    rw [octs_len]
    dsimp only
    refine hF.out _ _ hS2 (fun _ => ?_)
    clear hF F
    refine wpAnyH_take (i := 6) (oi := Oper.mk (some 5) _ _ _ _ _) (v := ?_) rfl (by kernel_rfl) (by kernel_rfl) (by kernel_rfl) (fun _ _ _ h => h) (Or.inl ⟨by rfl, ?_⟩) hS2 ?_
    rotate_left
    · intro w hSw
      obtain ⟨cb, c1, c2, c3⟩ := hSw
      go_simp
      try with_reducible rfl
    simp only [Act.put, List.setIfInBounds_toArray, List.set_cons_zero, List.set_cons_succ]
    try dsimp only
    refine wpAnyH_take (i := 7) (oi := Oper.mk (some 12) _ _ _ _ _) (v := ?_) rfl (by kernel_rfl) (by kernel_rfl) (by kernel_rfl) (fun _ _ _ h => h) (Or.inl ⟨by rfl, ?_⟩) hS2 ?_
    rotate_left
    · intro w hSw
      obtain ⟨cb, c1, c2, c3⟩ := hSw
      go_simp
      try with_reducible rfl
    simp only [Act.put, List.setIfInBounds_toArray, List.set_cons_zero, List.set_cons_succ]
    try dsimp only
    refine wpAnyH_take (i := 8) (oi := Oper.mk (some 13) _ _ _ _ _) (v := ?_) rfl (by kernel_rfl) (by kernel_rfl) (by kernel_rfl) (fun _ _ _ h => h) (Or.inl ⟨by rfl, ?_⟩) hS2 ?_
    rotate_left
    · intro w hSw
      obtain ⟨cb, c1, c2, c3⟩ := hSw
      go_simp
      try with_reducible rfl
    simp only [Act.put, List.setIfInBounds_toArray, List.set_cons_zero, List.set_cons_succ]
    try dsimp only
    refine wpAnyH_take (i := 9) (oi := Oper.mk (some 3) _ _ _ _ _) (v := ?_) rfl (by kernel_rfl) (by kernel_rfl) (by kernel_rfl) (fun _ _ _ h => h) (Or.inl ⟨by rfl, ?_⟩) hS2 ?_
    rotate_left
    · intro w hSw
      obtain ⟨cb, c1, c2, c3⟩ := hSw
      go_simp
      try with_reducible rfl
    simp only [Act.put, List.setIfInBounds_toArray, List.set_cons_zero, List.set_cons_succ]
    try dsimp only
    refine wpAnyH_take (i := 10) (oi := Oper.mk (some 4) _ _ _ _ _) (v := ?_) rfl (by kernel_rfl) (by kernel_rfl) (by kernel_rfl) (fun _ _ _ h => h) (Or.inl ⟨by rfl, ?_⟩) hS2 ?_
    rotate_left
    · intro w hSw
      obtain ⟨cb, c1, c2, c3⟩ := hSw
      go_simp
      try with_reducible rfl
    simp only [Act.put, List.setIfInBounds_toArray, List.set_cons_zero, List.set_cons_succ]
    try dsimp only
    refine wpAnyH_done (by kernel_rfl) ?_ _
    go_wp2
    go_ret
    exact ⟨_, _, by rw [octs_len]; rfl, by assumption, hS2.1⟩
  · have e : B = [] := by rw [eB ()]; exact if_neg hlt
    subst e
    have hl : Unit → 256 ^ k ≤ x := fun _ => Nat.le_of_not_lt hlt
    clear hlt eB
    go_enter Try.func61, Try.ntmps61
    go_wp2_with fail
    refine wp_region_held_drew (S := (fun W => Below w.heap.size w W ∧ W.cell? ⟨pa, 0, none⟩ = some (.pointer (some ⟨g, i, none⟩)) ∧ W.cell? ⟨ps, 0, none⟩ = some (.int .i64 k) ∧ W.cell? ⟨g, i, none⟩ = some (.int .i64 n))) (by kernel_rfl) hSd (fun _ => ?_)
    refine wpAnyH_take (i := 0) (oi := Oper.mk (some 6) _ _ _ _ _) (v := ?_) rfl (by kernel_rfl) (by kernel_rfl) (by kernel_rfl) (fun _ _ _ h => h) (Or.inl ⟨by rfl, ?_⟩) hSd ?_
    rotate_left
    · intro w hSw
      obtain ⟨cb, c1, c2, c3⟩ := hSw
      go_simp
      try with_reducible rfl
    simp only [Act.put, List.setIfInBounds_toArray, List.set_cons_zero, List.set_cons_succ]
    try dsimp only
    refine wpAnyH_take (i := 1) (oi := Oper.mk (some 7) _ _ _ _ _) (v := ?_) rfl (by kernel_rfl) (by kernel_rfl) (by kernel_rfl) (fun _ _ _ h => h) (Or.inl ⟨by rfl, ?_⟩) hSd ?_
    rotate_left
    · intro w hSw
      obtain ⟨cb, c1, c2, c3⟩ := hSw
      go_simp
      try with_reducible rfl
    simp only [Act.put, List.setIfInBounds_toArray, List.set_cons_zero, List.set_cons_succ]
    try dsimp only
    refine wpAnyH_take (i := 2) (oi := Oper.mk (some 8) _ _ _ _ _) (v := ?_) rfl (by kernel_rfl) (by kernel_rfl) (by kernel_rfl) (fun _ _ _ h => h) (Or.inl ⟨by rfl, ?_⟩) hSd ?_
    rotate_left
    · intro w hSw
      obtain ⟨cb, c1, c2, c3⟩ := hSw
      go_simp
      try with_reducible rfl
    simp only [Act.put, List.setIfInBounds_toArray, List.set_cons_zero, List.set_cons_succ]
    try dsimp only
    refine wpAnyH_take (i := 3) (oi := Oper.mk (some 9) _ _ _ _ _) (v := ?_) rfl (by kernel_rfl) (by kernel_rfl) (by kernel_rfl) (fun _ _ _ h => h) (Or.inl ⟨by rfl, ?_⟩) hSd ?_
    rotate_left
    · intro w hSw
      obtain ⟨cb, c1, c2, c3⟩ := hSw
      go_simp
      try with_reducible rfl
    simp only [Act.put, List.setIfInBounds_toArray, List.set_cons_zero, List.set_cons_succ]
    try dsimp only
    refine wpAnyH_take (i := 4) (oi := Oper.mk (some 10) _ _ _ _ _) (v := ?_) rfl (by kernel_rfl) (by kernel_rfl) (by kernel_rfl) (fun _ _ _ h => h) (Or.inl ⟨by rfl, ?_⟩) hSd ?_
    rotate_left
    · intro w hSw
      obtain ⟨cb, c1, c2, c3⟩ := hSw
      go_simp
      try with_reducible rfl
    simp only [Act.put, List.setIfInBounds_toArray, List.set_cons_zero, List.set_cons_succ]
    try dsimp only
    refine wpAnyH_ready (rs := [5]) (by kernel_rfl) (by simp) ?_
    refine AllReadyH.cons (o := Oper.mk (some 11) _ _ _ _ _) rfl (fun F hF => ?_) AllReadyH.nil
    go_simp
    refine (put_no_at _ _ x k _ (ex ()) rfl (hx ()) (by omega) (hl ())).mono ?_
    rintro e w2 ⟨rfl, rfl⟩
    have hS2 := hSd
    clear hSd ex hx hl
    dsimp only
    refine hF.out _ _ hS2 (fun _ => ?_)
    clear hF F
    refine wpAnyH_take (i := 6) (oi := Oper.mk (some 5) _ _ _ _ _) (v := ?_) rfl (by kernel_rfl) (by kernel_rfl) (by kernel_rfl) (fun _ _ _ h => h) (Or.inl ⟨by rfl, ?_⟩) hS2 ?_
    rotate_left
    · intro w hSw
      obtain ⟨cb, c1, c2, c3⟩ := hSw
      go_simp
      try with_reducible rfl
    simp only [Act.put, List.setIfInBounds_toArray, List.set_cons_zero, List.set_cons_succ]
    try dsimp only
    refine wpAnyH_take (i := 7) (oi := Oper.mk (some 12) _ _ _ _ _) (v := ?_) rfl (by kernel_rfl) (by kernel_rfl) (by kernel_rfl) (fun _ _ _ h => h) (Or.inl ⟨by rfl, ?_⟩) hS2 ?_
    rotate_left
    · intro w hSw
      obtain ⟨cb, c1, c2, c3⟩ := hSw
      go_simp
      try with_reducible rfl
    simp only [Act.put, List.setIfInBounds_toArray, List.set_cons_zero, List.set_cons_succ]
    try dsimp only
    refine wpAnyH_take (i := 8) (oi := Oper.mk (some 13) _ _ _ _ _) (v := ?_) rfl (by kernel_rfl) (by kernel_rfl) (by kernel_rfl) (fun _ _ _ h => h) (Or.inl ⟨by rfl, ?_⟩) hS2 ?_
    rotate_left
    · intro w hSw
      obtain ⟨cb, c1, c2, c3⟩ := hSw
      go_simp
      try with_reducible rfl
    simp only [Act.put, List.setIfInBounds_toArray, List.set_cons_zero, List.set_cons_succ]
    try dsimp only
    refine wpAnyH_take (i := 9) (oi := Oper.mk (some 3) _ _ _ _ _) (v := ?_) rfl (by kernel_rfl) (by kernel_rfl) (by kernel_rfl) (fun _ _ _ h => h) (Or.inl ⟨by rfl, ?_⟩) hS2 ?_
    rotate_left
    · intro w hSw
      obtain ⟨cb, c1, c2, c3⟩ := hSw
      go_simp
      try with_reducible rfl
    simp only [Act.put, List.setIfInBounds_toArray, List.set_cons_zero, List.set_cons_succ]
    try dsimp only
    refine wpAnyH_take (i := 10) (oi := Oper.mk (some 4) _ _ _ _ _) (v := ?_) rfl (by kernel_rfl) (by kernel_rfl) (by kernel_rfl) (fun _ _ _ h => h) (Or.inl ⟨by rfl, ?_⟩) hS2 ?_
    rotate_left
    · intro w hSw
      obtain ⟨cb, c1, c2, c3⟩ := hSw
      go_simp
      try with_reducible rfl
    simp only [Act.put, List.setIfInBounds_toArray, List.set_cons_zero, List.set_cons_succ]
    try dsimp only
    refine wpAnyH_done (by kernel_rfl) ?_ _
    go_wp2
    go_ret
    exact ⟨_, _, rfl, Seen.none_ _ _, hS2.1⟩
set_option maxRecDepth 100000 in
set_option maxHeartbeats 1000000 in
theorem numTake_errno (pa pl ph g i k : Nat) (low high : Int) (A : Option Addr) (c : Nat) (l : List UInt8) (cs : List Value) (w : World) (hk : k ≤ 4) (hl : l.length = k) (hse : Seen w A l) (ha : w.cell? ⟨pa, 0, none⟩ = some (.pointer (some ⟨g, i, none⟩))) (hlo : w.cell? ⟨pl, 0, none⟩ = some (.int .i64 low)) (hhi : w.cell? ⟨ph, 0, none⟩ = some (.int .i64 high))
    (hg : Arr w g cs) (hi : i < cs.length) (ga : pa ≠ g) (gl : pl ≠ g) (gh : ph ≠ g) :
    Calls Try.prog 62 #[.slice A k c, .pointer (some ⟨pa, 0, none⟩), .pointer (some ⟨pl, 0, none⟩), .pointer (some ⟨ph, 0, none⟩)] w fun e w' => e = .returned (.bool (decide (low ≤ (num l : Int)) && decide ((num l : Int) ≤ high))) ∧ Arr w' g (cs.set i (.int .i64 (num l))) ∧ w.grownBy w' (some g) := by
  obtain ⟨x, hx⟩ : ∃ x, num l = x := ⟨_, rfl⟩
  have hx4 : x < 4294967296 := by
    have := num_lt l
    have h4 : 256 ^ l.length ≤ 256 ^ 4 := Nat.pow_le_pow_right (by decide) (by omega)
    have h4' : (256 : Nat) ^ 4 = 4294967296 := by decide
    omega
  rw [hx]
  replace hx : Unit → num l = x := fun _ => hx
  replace hl := Lib.hid hl
  obtain ⟨old, cg⟩ : ∃ v, w.cell? ⟨g, i, none⟩ = some v := ⟨_, hg.cell (List.getElem?_eq_getElem hi)⟩
  have fg := hg.frozen i
  have hA2 := hg.set i (.int .i64 (x : Int))
  have hc2 : ∀ q, ((w.setCell ⟨g, i, none⟩ (.int .i64 (x : Int))).drewN q).cell? ⟨g, i, none⟩ = some (.int .i64 (x : Int)) := fun q => hA2.cell (by rw [List.getElem?_set_self hi])
  have ha2 : ∀ q, ((w.setCell ⟨g, i, none⟩ (.int .i64 (x : Int))).drewN q).cell? ⟨pa, 0, none⟩ = some (.pointer (some ⟨g, i, none⟩)) := fun q => (World.cell?_of_block (Below.heap_setCell w ⟨g, i, none⟩ _ pa ga)).trans ha
  have hl2 : ∀ q, ((w.setCell ⟨g, i, none⟩ (.int .i64 (x : Int))).drewN q).cell? ⟨pl, 0, none⟩ = some (.int .i64 low) := fun q => (World.cell?_of_block (Below.heap_setCell w ⟨g, i, none⟩ _ pl gl)).trans hlo
  have hh2 : ∀ q, ((w.setCell ⟨g, i, none⟩ (.int .i64 (x : Int))).drewN q).cell? ⟨ph, 0, none⟩ = some (.int .i64 high) := fun q => (World.cell?_of_block (Below.heap_setCell w ⟨g, i, none⟩ _ ph gh)).trans hhi
  have hgr := grown_set w ⟨g, i, none⟩ (.int .i64 (x : Int))
  have ew : IntKind.i64.wrap (x : Int) = (x : Int) := by rw [IntKind.wrap_i64]; omega
  clear hg hi ga gl gh hlo hhi
  obtain ⟨b1, t1⟩ : ∃ b, decide (low ≤ (x : Int)) = b := ⟨_, rfl⟩
  obtain ⟨b2, t2⟩ : ∃ b, decide ((x : Int) ≤ high) = b := ⟨_, rfl⟩
  rw [t1, t2]
  cases b1
  all_goals
    go_enter Try.func62, Try.ntmps62
    go_wp2_with fail
    refine (take_seen_at A c k x l _ hl.out (by omega) hse (hx ())).mono ?_
    rintro e w' ⟨rfl, rfl⟩
    go_wp2_with fail
    go_quiet (fail)
    go_wp2
    go_ret
    exact ⟨rfl, hA2.drewN _, grown_drewN hgr _⟩
end Go.Proofs.Ytmibgmcgicphoaa.msg
