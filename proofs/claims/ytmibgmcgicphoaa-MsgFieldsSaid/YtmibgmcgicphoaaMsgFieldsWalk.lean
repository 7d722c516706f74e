/-
  THE WALK OF MsgFields.
-/
import Derived.Test.YtmibgmcgicphoaaMsgShown
import Derived.Test.YtmibgmcgicphoaaMsgFit
namespace Go.Proofs.Ytmibgmcgicphoaa
open Go.RowKit Go.Proofs.Ytmibgmcgicphoaa.octets Go.Proofs.Ytmibgmcgicphoaa.given Go.Proofs.Ytmibgmcgicphoaa.msg
set_option linter.unusedVariables false
set_option linter.unusedSimpArgs false

theorem inI_no {n a b : Int} (h : ¬ (a ≤ n ∧ n ≤ b)) : inI n a b = false := by rw [Bool.eq_false_iff]; intro e; exact h (inI_iff.1 e)
theorem no_fits {m : M} (h : fitsM m = false) : okM m = false := by unfold okM; rw [h]; rfl
theorem no_seq (m : M) : okM { m with seq := 4294967296 } = false := no_fits (by unfold fitsM; rw [show inI (M.seq { m with seq := 4294967296 }) 0 4294967295 = false from inI_no (by simp)]; simp)
theorem no_role (m : M) : okM { m with role := 4 } = false := no_fits (by unfold fitsM; rw [show inI (M.role { m with role := 4 }) 0 3 = false from inI_no (by simp)]; simp)
theorem no_to (m : M) : okM { m with to_ := 5 } = false := no_fits (by unfold fitsM; rw [show inI (M.to_ { m with to_ := 5 }) 0 4 = false from inI_no (by simp)]; simp)
theorem no_epoch (m : M) : okM { m with epoch := 65536 } = false := no_fits (by unfold fitsM; rw [show inI (M.epoch { m with epoch := 65536 }) 0 65535 = false from inI_no (by simp)]; simp)
theorem no_mode (m : M) : okM { m with mode := 5 } = false := no_fits (by unfold fitsM; rw [show inI (M.mode { m with mode := 5 }) 0 4 = false from inI_no (by simp)]; simp)
theorem no_cls (m : M) : okM { m with cls := 4 } = false := no_fits (by unfold fitsM; rw [show inI (M.cls { m with cls := 4 }) (if (M.kind { m with cls := 4 }) = 11 then 1 else 0) 3 = false from inI_no (by simp)]; simp)
theorem no_x0 (m : M) : okM { m with x0 := 32768 } = false := no_fits (by unfold fitsM; rw [show inI (M.x0 { m with x0 := 32768 }) (-32768) 32767 = false from inI_no (by simp)]; simp)
theorem no_x1 (m : M) : okM { m with x1 := 32768 } = false := no_fits (by unfold fitsM; rw [show inI (M.x1 { m with x1 := 32768 }) (-32768) 32767 = false from inI_no (by simp)]; simp)
theorem no_x2 (m : M) : okM { m with x2 := 32768 } = false := no_fits (by unfold fitsM; rw [show inI (M.x2 { m with x2 := 32768 }) (-32768) 32767 = false from inI_no (by simp)]; simp)
theorem no_x3 (m : M) : okM { m with x3 := 32768 } = false := no_fits (by unfold fitsM; rw [show inI (M.x3 { m with x3 := 32768 }) (-32768) 32767 = false from inI_no (by simp)]; simp)
theorem no_named {m : M} (h : namedM m ≠ m) : okM m = false := by unfold okM; rw [decide_eq_false h]; simp
theorem no_own (m : M) (h : m.kind = 1 ∨ m.kind = 2) : okM { m with seq := 1 } = false := no_named fun e => by
  have := congrArg M.seq e
  unfold namedM at this
  rw [if_pos (show (M.kind { m with seq := 1 } = 1 ∨ M.kind { m with seq := 1 } = 2) from h)] at this
  simp [zM] at this
theorem no_other (m : M) (h : ¬ (m.kind = 1 ∨ m.kind = 2)) : okM { m with role := 1 } = false := no_named fun e => by
  have e2 := congrArg M.role e
  have hz : (namedM { m with role := 1 }).role = 0 := by
    unfold namedM
    rw [if_neg (show ¬ (M.kind { m with role := 1 } = 1 ∨ M.kind { m with role := 1 } = 2) from h)]
    repeat' split
    all_goals rfl
  rw [hz] at e2
  simp at e2

set_option maxRecDepth 100000 in
set_option maxHeartbeats 8000000 in
theorem msgFields_of (H : CodeOk) (v : Value) (a1 : Int) (w : World) {base : Nat} (h0 : Value.okWide Try.prog w .any base 24 v) (w1 : (Lit.int .u8 a1).wf = true) :
    Calls Try.prog 6 #[v, .int .u8 a1] w fun e w' => e = .returned (.bool true) ∧ Below w.heap.size w w' := by
  obtain ⟨m, rfl⟩ := msg_came h0
  have ha1 : 0 ≤ a1 ∧ a1 ≤ 255 := by simpa [Lit.wf, IntKind.min, IntKind.max, IntKind.signed, IntKind.bits] using w1
  obtain ⟨n, rfl⟩ : ∃ n : Nat, a1 = n := ⟨a1.toNat, by omega⟩
  have hn : n ≤ 255 := by omega
  clear h0 w1 ha1
  have hx := fit_ok m
  have q1 := fun W => fitM_ok m W
  generalize fitM m = X at hx q1
  have hA0 := Arr.new w (mv m) 24
  have hw0 := below_one w (.cells (mv m).toArray 24)
  go_enter Try.func6, Try.ntmps6
  try dsimp only [List.append]
  go_wp2_with fail
  generalize w.alloc (.cells (mv m).toArray 24) = W0 at hA0 hw0 ⊢
  refine (shown_any H _).mono ?_
  rintro e w1 ⟨rfl, hb1⟩
  have hA1 := hA0.since hb1
  have hw1 := hw0.trans (hb1.mono hw0.size)
  clear hA0 hw0 hb1
  go_wp2_with (guard_target =~ wpList _ _ _ (Oper.mk _ (Op.load _ _) _ _ _ _ :: _) _ _; refine wpList_load_arr 12 rfl rfl rfl hA1 (by kernel_rfl) rfl ?_)
  refine (q1 _).mono ?_
  rintro e w2 ⟨rfl, hb2⟩
  have hw2 := hw1.trans (hb2.mono hw1.size)
  have hz2 := new_zm w2 24
  clear hA1 hw1 hb2
  go_wp2_with (guard_target =~ wpList _ _ _ (Oper.mk _ (Op.store _ _ _) _ _ _ _ :: _) _ _; refine wpList_store_arr (cs' := mv X) 12 rfl rfl rfl rfl hz2 (by kernel_rfl) rfl rfl (mv_one _) ?_)
  intro w3 hA3 ho3 hb3 hs3
  have hw3 := (hw2.alloc hw2.size (.cells #[.int .i64 0, .int .i64 0, .int .i64 0, .int .i64 0, .int .i64 0, .int .i64 0, .int .i64 0, .bool false, .int .i64 0, .int .i64 0, .int .i64 0, .int .i64 0] 24)).trans (hb3.mono hw2.size)
  have hlt3 := hA3.lt
  have hz3 := new_zm w3 24
  have hge : w.heap.size ≤ w2.heap.size := hw2.size
  clear hz2 ho3 hb3 hs3 hw2
  generalize w2.heap.size = g6 at hA3 hlt3 hge ⊢
  go_wp2_with (first
    | (guard_target =~ wpList _ _ _ (Oper.mk _ (Op.load 24 _) _ _ _ _ :: _) _ _; refine wpList_load_arr 12 rfl rfl rfl hA3 (by kernel_rfl) rfl ?_)
    | (guard_target =~ wpList _ _ _ (Oper.mk _ (Op.store 24 _ _) _ _ _ _ :: _) _ _; refine wpList_store_arr (cs' := mv X) 12 rfl rfl rfl rfl hz3 (by kernel_rfl) rfl rfl (mv_one _) ?_))
  intro w4 hA7 ho4 hb4 hs4
  have hA6 := (hA3.alloc (.cells #[.int .i64 0, .int .i64 0, .int .i64 0, .int .i64 0, .int .i64 0, .int .i64 0, .int .i64 0, .bool false, .int .i64 0, .int .i64 0, .int .i64 0, .int .i64 0] 24)).of_block (ho4 _ (by omega))
  have hw4 := (hw3.alloc hw3.size (.cells #[.int .i64 0, .int .i64 0, .int .i64 0, .int .i64 0, .int .i64 0, .int .i64 0, .int .i64 0, .bool false, .int .i64 0, .int .i64 0, .int .i64 0, .int .i64 0] 24)).trans (hb4.mono hw3.size)
  have hne : g6 ≠ w3.heap.size := by omega
  have hge7 : w.heap.size ≤ w3.heap.size := hw3.size
  clear hA3 hz3 ho4 hb4 hs4 hw3 hlt3
  generalize w3.heap.size = g7 at hA7 hne hge7 ⊢
  obtain ⟨k, hk⟩ : ∃ k, n % 7 = k := ⟨_, rfl⟩
  have hk7 : k < 7 := by rw [← hk]; exact Nat.mod_lt _ (by decide)
  have e7 : (n : Int) % 7 = (k : Int) := by omega
  obtain ⟨j, hj⟩ : ∃ j, n % 4 = j := ⟨_, rfl⟩
  have hj4 : j < 4 := by rw [← hj]; exact Nat.mod_lt _ (by decide)
  have e4 : (n : Int) % 4 = (j : Int) := by omega
  clear hk hj
  have ten : k = 0 ∨ k = 1 ∨ k = 2 ∨ k = 3 ∨ k = 4 ∨ k = 5 ∨ (k = 6 ∧ j = 0) ∨ (k = 6 ∧ j = 1) ∨ (k = 6 ∧ j = 2) ∨ (k = 6 ∧ j = 3) := by omega
  have hfr := fun i => hA7.frozen i
  rcases ten with rfl | rfl | rfl | rfl | rfl | rfl | ⟨rfl, rfl⟩ | ⟨rfl, rfl⟩ | ⟨rfl, rfl⟩ | ⟨rfl, rfl⟩
  · simp only [show ((0 : Nat) : Int) = 0 from rfl] at e7
    clear e4
    have hc : w4.cell? ⟨g7, 1, none⟩ = some (.int .i64 X.seq) := hA7.cell rfl
    have hf := hfr 1
    have hB7 : Arr (w4.setCell ⟨g7, 1, none⟩ (.int .i64 4294967296)) g7 (mv { X with seq := 4294967296 }) := hA7.set 1 (.int .i64 4294967296)
    have hB6 := hA6.other (a := ⟨g7, 1, none⟩) hne (.int .i64 4294967296)
    have hwB := hw4.setCell (p := ⟨g7, 1, none⟩) hge7 (.int .i64 4294967296)
    have hY := no_seq X
    obtain ⟨Y, hB, hYn⟩ : ∃ Y, Arr _ g7 (mv Y) ∧ okM Y = false := ⟨_, hB7, hY⟩
    clear hB7 hY hA7 hA6 hw4 hfr
    go_wp2_with (guard_target =~ wpList _ _ _ (Oper.mk _ (Op.load 24 _) _ _ _ _ :: _) _ _; refine wpList_load_arr 12 rfl rfl rfl hB (by kernel_rfl) rfl ?_)
    refine (H.put Y _).mono ?_
    rintro e w5 ⟨v5, rfl, ho5, hb5⟩
    rw [(code_no hYn).2] at ho5
    rw [(code_no hYn).1]
    obtain ⟨A5, c5, rfl, -⟩ := ho5.seen_at (k := 0) rfl
    have hA5 := hB6.since hb5
    have hw5 := hwB.trans (hb5.mono hwB.size)
    have hz5 := new_zm w5 24
    have hlt5 := hA5.lt
    have hge5 := hw5.size
    clear hB hB6 hwB hb5 ho5 hc hf
    go_wp2_with (first
      | (guard_target =~ wpList _ _ _ (Oper.mk _ (Op.load 24 _) _ _ _ _ :: _) _ _; refine wpList_load_arr 12 rfl rfl rfl hA5 (by kernel_rfl) rfl ?_)
      | (guard_target =~ wpList _ _ _ (Oper.mk _ (Op.store 24 _ _) _ _ _ _ :: _) _ _; refine wpList_store_arr (cs' := mv X) 12 rfl rfl rfl rfl hz5 (by kernel_rfl) rfl rfl (mv_one _) ?_))
    intro w6 hA10 ho6 hb6 hs6
    have hA6 := (hA5.alloc (.cells #[.int .i64 0, .int .i64 0, .int .i64 0, .int .i64 0, .int .i64 0, .int .i64 0, .int .i64 0, .bool false, .int .i64 0, .int .i64 0, .int .i64 0, .int .i64 0] 24)).of_block (ho6 _ (by omega))
    have hw6 := (hw5.alloc hw5.size (.cells #[.int .i64 0, .int .i64 0, .int .i64 0, .int .i64 0, .int .i64 0, .int .i64 0, .int .i64 0, .bool false, .int .i64 0, .int .i64 0, .int .i64 0, .int .i64 0] 24)).trans (hb6.mono hw5.size)
    clear hA5 hw5 hz5 ho6 hb6 hs6 hlt5
    generalize w5.heap.size = g10 at hA10 hge5 ⊢
    have c0 : w6.cell? ⟨g6, 0, none⟩ = some (.int .i64 X.kind) := hA6.cell rfl
    have three : ((X.kind == 1) = true ∧ (X.kind = 1 ∨ X.kind = 2)) ∨ ((X.kind == 1) = false ∧ (X.kind == 2) = true ∧ (X.kind = 1 ∨ X.kind = 2)) ∨ ((X.kind == 1) = false ∧ (X.kind == 2) = false ∧ ¬ (X.kind = 1 ∨ X.kind = 2)) := by
      by_cases h1 : X.kind = 1
      · exact .inl ⟨beq_iff_eq.2 h1, .inl h1⟩
      · by_cases h2 : X.kind = 2
        · exact .inr (.inl ⟨beq_eq_false_iff_ne.2 h1, beq_iff_eq.2 h2, .inr h2⟩)
        · exact .inr (.inr ⟨beq_eq_false_iff_ne.2 h1, beq_eq_false_iff_ne.2 h2, fun h => h.elim h1 h2⟩)
    clear hA6
    rcases three with ⟨t1, hk⟩ | ⟨t1, t2, hk⟩ | ⟨t1, t2, hk⟩
    · have hcz : w6.cell? ⟨g10, 1, none⟩ = some (.int .i64 X.seq) := hA10.cell rfl
      have hfz := hA10.frozen 1
      have hZ : Arr (w6.setCell ⟨g10, 1, none⟩ (.int .i64 1)) g10 (mv { X with seq := 1 }) := hA10.set 1 (.int .i64 1)
      have hzn := no_own X hk
      have hwZ := hw6.setCell (p := ⟨g10, 1, none⟩) hge5 (.int .i64 1)
      obtain ⟨Z, hZ', hzn'⟩ : ∃ Z, Arr _ g10 (mv Z) ∧ okM Z = false := ⟨_, hZ, hzn⟩
      clear hA10 hZ hzn hk hw6
      go_wp2_with (guard_target =~ wpList _ _ _ (Oper.mk _ (Op.load 24 _) _ _ _ _ :: _) _ _; refine wpList_load_arr 12 rfl rfl rfl hZ' (by kernel_rfl) rfl ?_)
      refine (H.put Z _).mono ?_
      rintro e w7 ⟨v7, rfl, ho7, hb7⟩
      rw [(code_no hzn').2] at ho7
      rw [(code_no hzn').1]
      obtain ⟨A7, c7, rfl, -⟩ := ho7.seen_at (k := 0) rfl
      have hw7 := hwZ.trans (hb7.mono hwZ.size)
      clear hZ' hwZ hb7 ho7 hcz hfz c0
      go_wp2
      go_ret
      exact ⟨rfl, hw7⟩
    · have hcz : w6.cell? ⟨g10, 1, none⟩ = some (.int .i64 X.seq) := hA10.cell rfl
      have hfz := hA10.frozen 1
      have hZ : Arr (w6.setCell ⟨g10, 1, none⟩ (.int .i64 1)) g10 (mv { X with seq := 1 }) := hA10.set 1 (.int .i64 1)
      have hzn := no_own X hk
      have hwZ := hw6.setCell (p := ⟨g10, 1, none⟩) hge5 (.int .i64 1)
      obtain ⟨Z, hZ', hzn'⟩ : ∃ Z, Arr _ g10 (mv Z) ∧ okM Z = false := ⟨_, hZ, hzn⟩
      clear hA10 hZ hzn hk hw6
      go_wp2_with (guard_target =~ wpList _ _ _ (Oper.mk _ (Op.load 24 _) _ _ _ _ :: _) _ _; refine wpList_load_arr 12 rfl rfl rfl hZ' (by kernel_rfl) rfl ?_)
      refine (H.put Z _).mono ?_
      rintro e w7 ⟨v7, rfl, ho7, hb7⟩
      rw [(code_no hzn').2] at ho7
      rw [(code_no hzn').1]
      obtain ⟨A7, c7, rfl, -⟩ := ho7.seen_at (k := 0) rfl
      have hw7 := hwZ.trans (hb7.mono hwZ.size)
      clear hZ' hwZ hb7 ho7 hcz hfz c0
      go_wp2
      go_ret
      exact ⟨rfl, hw7⟩
    · have hcz : w6.cell? ⟨g10, 2, none⟩ = some (.int .i64 X.role) := hA10.cell rfl
      have hfz := hA10.frozen 2
      have hZ : Arr (w6.setCell ⟨g10, 2, none⟩ (.int .i64 1)) g10 (mv { X with role := 1 }) := hA10.set 2 (.int .i64 1)
      have hzn := no_other X hk
      have hwZ := hw6.setCell (p := ⟨g10, 2, none⟩) hge5 (.int .i64 1)
      obtain ⟨Z, hZ', hzn'⟩ : ∃ Z, Arr _ g10 (mv Z) ∧ okM Z = false := ⟨_, hZ, hzn⟩
      clear hA10 hZ hzn hk hw6
      go_wp2_with (guard_target =~ wpList _ _ _ (Oper.mk _ (Op.load 24 _) _ _ _ _ :: _) _ _; refine wpList_load_arr 12 rfl rfl rfl hZ' (by kernel_rfl) rfl ?_)
      refine (H.put Z _).mono ?_
      rintro e w7 ⟨v7, rfl, ho7, hb7⟩
      rw [(code_no hzn').2] at ho7
      rw [(code_no hzn').1]
      obtain ⟨A7, c7, rfl, -⟩ := ho7.seen_at (k := 0) rfl
      have hw7 := hwZ.trans (hb7.mono hwZ.size)
      clear hZ' hwZ hb7 ho7 hcz hfz c0
      go_wp2
      go_ret
      exact ⟨rfl, hw7⟩
  · simp only [show ((1 : Nat) : Int) = 1 from rfl] at e7
    clear e4
    have hc : w4.cell? ⟨g7, 2, none⟩ = some (.int .i64 X.role) := hA7.cell rfl
    have hf := hfr 2
    have hB7 : Arr (w4.setCell ⟨g7, 2, none⟩ (.int .i64 4)) g7 (mv { X with role := 4 }) := hA7.set 2 (.int .i64 4)
    have hB6 := hA6.other (a := ⟨g7, 2, none⟩) hne (.int .i64 4)
    have hwB := hw4.setCell (p := ⟨g7, 2, none⟩) hge7 (.int .i64 4)
    have hY := no_role X
    obtain ⟨Y, hB, hYn⟩ : ∃ Y, Arr _ g7 (mv Y) ∧ okM Y = false := ⟨_, hB7, hY⟩
    clear hB7 hY hA7 hA6 hw4 hfr
    go_wp2_with (guard_target =~ wpList _ _ _ (Oper.mk _ (Op.load 24 _) _ _ _ _ :: _) _ _; refine wpList_load_arr 12 rfl rfl rfl hB (by kernel_rfl) rfl ?_)
    refine (H.put Y _).mono ?_
    rintro e w5 ⟨v5, rfl, ho5, hb5⟩
    rw [(code_no hYn).2] at ho5
    rw [(code_no hYn).1]
    obtain ⟨A5, c5, rfl, -⟩ := ho5.seen_at (k := 0) rfl
    have hA5 := hB6.since hb5
    have hw5 := hwB.trans (hb5.mono hwB.size)
    have hz5 := new_zm w5 24
    have hlt5 := hA5.lt
    have hge5 := hw5.size
    clear hB hB6 hwB hb5 ho5 hc hf
    go_wp2_with (first
      | (guard_target =~ wpList _ _ _ (Oper.mk _ (Op.load 24 _) _ _ _ _ :: _) _ _; refine wpList_load_arr 12 rfl rfl rfl hA5 (by kernel_rfl) rfl ?_)
      | (guard_target =~ wpList _ _ _ (Oper.mk _ (Op.store 24 _ _) _ _ _ _ :: _) _ _; refine wpList_store_arr (cs' := mv X) 12 rfl rfl rfl rfl hz5 (by kernel_rfl) rfl rfl (mv_one _) ?_))
    intro w6 hA10 ho6 hb6 hs6
    have hA6 := (hA5.alloc (.cells #[.int .i64 0, .int .i64 0, .int .i64 0, .int .i64 0, .int .i64 0, .int .i64 0, .int .i64 0, .bool false, .int .i64 0, .int .i64 0, .int .i64 0, .int .i64 0] 24)).of_block (ho6 _ (by omega))
    have hw6 := (hw5.alloc hw5.size (.cells #[.int .i64 0, .int .i64 0, .int .i64 0, .int .i64 0, .int .i64 0, .int .i64 0, .int .i64 0, .bool false, .int .i64 0, .int .i64 0, .int .i64 0, .int .i64 0] 24)).trans (hb6.mono hw5.size)
    clear hA5 hw5 hz5 ho6 hb6 hs6 hlt5
    generalize w5.heap.size = g10 at hA10 hge5 ⊢
    have c0 : w6.cell? ⟨g6, 0, none⟩ = some (.int .i64 X.kind) := hA6.cell rfl
    have three : ((X.kind == 1) = true ∧ (X.kind = 1 ∨ X.kind = 2)) ∨ ((X.kind == 1) = false ∧ (X.kind == 2) = true ∧ (X.kind = 1 ∨ X.kind = 2)) ∨ ((X.kind == 1) = false ∧ (X.kind == 2) = false ∧ ¬ (X.kind = 1 ∨ X.kind = 2)) := by
      by_cases h1 : X.kind = 1
      · exact .inl ⟨beq_iff_eq.2 h1, .inl h1⟩
      · by_cases h2 : X.kind = 2
        · exact .inr (.inl ⟨beq_eq_false_iff_ne.2 h1, beq_iff_eq.2 h2, .inr h2⟩)
        · exact .inr (.inr ⟨beq_eq_false_iff_ne.2 h1, beq_eq_false_iff_ne.2 h2, fun h => h.elim h1 h2⟩)
    clear hA6
    rcases three with ⟨t1, hk⟩ | ⟨t1, t2, hk⟩ | ⟨t1, t2, hk⟩
    · have hcz : w6.cell? ⟨g10, 1, none⟩ = some (.int .i64 X.seq) := hA10.cell rfl
      have hfz := hA10.frozen 1
      have hZ : Arr (w6.setCell ⟨g10, 1, none⟩ (.int .i64 1)) g10 (mv { X with seq := 1 }) := hA10.set 1 (.int .i64 1)
      have hzn := no_own X hk
      have hwZ := hw6.setCell (p := ⟨g10, 1, none⟩) hge5 (.int .i64 1)
      obtain ⟨Z, hZ', hzn'⟩ : ∃ Z, Arr _ g10 (mv Z) ∧ okM Z = false := ⟨_, hZ, hzn⟩
      clear hA10 hZ hzn hk hw6
      go_wp2_with (guard_target =~ wpList _ _ _ (Oper.mk _ (Op.load 24 _) _ _ _ _ :: _) _ _; refine wpList_load_arr 12 rfl rfl rfl hZ' (by kernel_rfl) rfl ?_)
      refine (H.put Z _).mono ?_
      rintro e w7 ⟨v7, rfl, ho7, hb7⟩
      rw [(code_no hzn').2] at ho7
      rw [(code_no hzn').1]
      obtain ⟨A7, c7, rfl, -⟩ := ho7.seen_at (k := 0) rfl
      have hw7 := hwZ.trans (hb7.mono hwZ.size)
      clear hZ' hwZ hb7 ho7 hcz hfz c0
      go_wp2
      go_ret
      exact ⟨rfl, hw7⟩
    · have hcz : w6.cell? ⟨g10, 1, none⟩ = some (.int .i64 X.seq) := hA10.cell rfl
      have hfz := hA10.frozen 1
      have hZ : Arr (w6.setCell ⟨g10, 1, none⟩ (.int .i64 1)) g10 (mv { X with seq := 1 }) := hA10.set 1 (.int .i64 1)
      have hzn := no_own X hk
      have hwZ := hw6.setCell (p := ⟨g10, 1, none⟩) hge5 (.int .i64 1)
      obtain ⟨Z, hZ', hzn'⟩ : ∃ Z, Arr _ g10 (mv Z) ∧ okM Z = false := ⟨_, hZ, hzn⟩
      clear hA10 hZ hzn hk hw6
      go_wp2_with (guard_target =~ wpList _ _ _ (Oper.mk _ (Op.load 24 _) _ _ _ _ :: _) _ _; refine wpList_load_arr 12 rfl rfl rfl hZ' (by kernel_rfl) rfl ?_)
      refine (H.put Z _).mono ?_
      rintro e w7 ⟨v7, rfl, ho7, hb7⟩
      rw [(code_no hzn').2] at ho7
      rw [(code_no hzn').1]
      obtain ⟨A7, c7, rfl, -⟩ := ho7.seen_at (k := 0) rfl
      have hw7 := hwZ.trans (hb7.mono hwZ.size)
      clear hZ' hwZ hb7 ho7 hcz hfz c0
      go_wp2
      go_ret
      exact ⟨rfl, hw7⟩
    · have hcz : w6.cell? ⟨g10, 2, none⟩ = some (.int .i64 X.role) := hA10.cell rfl
      have hfz := hA10.frozen 2
      have hZ : Arr (w6.setCell ⟨g10, 2, none⟩ (.int .i64 1)) g10 (mv { X with role := 1 }) := hA10.set 2 (.int .i64 1)
      have hzn := no_other X hk
      have hwZ := hw6.setCell (p := ⟨g10, 2, none⟩) hge5 (.int .i64 1)
      obtain ⟨Z, hZ', hzn'⟩ : ∃ Z, Arr _ g10 (mv Z) ∧ okM Z = false := ⟨_, hZ, hzn⟩
      clear hA10 hZ hzn hk hw6
      go_wp2_with (guard_target =~ wpList _ _ _ (Oper.mk _ (Op.load 24 _) _ _ _ _ :: _) _ _; refine wpList_load_arr 12 rfl rfl rfl hZ' (by kernel_rfl) rfl ?_)
      refine (H.put Z _).mono ?_
      rintro e w7 ⟨v7, rfl, ho7, hb7⟩
      rw [(code_no hzn').2] at ho7
      rw [(code_no hzn').1]
      obtain ⟨A7, c7, rfl, -⟩ := ho7.seen_at (k := 0) rfl
      have hw7 := hwZ.trans (hb7.mono hwZ.size)
      clear hZ' hwZ hb7 ho7 hcz hfz c0
      go_wp2
      go_ret
      exact ⟨rfl, hw7⟩
  · simp only [show ((2 : Nat) : Int) = 2 from rfl] at e7
    clear e4
    have hc : w4.cell? ⟨g7, 3, none⟩ = some (.int .i64 X.to_) := hA7.cell rfl
    have hf := hfr 3
    have hB7 : Arr (w4.setCell ⟨g7, 3, none⟩ (.int .i64 5)) g7 (mv { X with to_ := 5 }) := hA7.set 3 (.int .i64 5)
    have hB6 := hA6.other (a := ⟨g7, 3, none⟩) hne (.int .i64 5)
    have hwB := hw4.setCell (p := ⟨g7, 3, none⟩) hge7 (.int .i64 5)
    have hY := no_to X
    obtain ⟨Y, hB, hYn⟩ : ∃ Y, Arr _ g7 (mv Y) ∧ okM Y = false := ⟨_, hB7, hY⟩
    clear hB7 hY hA7 hA6 hw4 hfr
    go_wp2_with (guard_target =~ wpList _ _ _ (Oper.mk _ (Op.load 24 _) _ _ _ _ :: _) _ _; refine wpList_load_arr 12 rfl rfl rfl hB (by kernel_rfl) rfl ?_)
    refine (H.put Y _).mono ?_
    rintro e w5 ⟨v5, rfl, ho5, hb5⟩
    rw [(code_no hYn).2] at ho5
    rw [(code_no hYn).1]
    obtain ⟨A5, c5, rfl, -⟩ := ho5.seen_at (k := 0) rfl
    have hA5 := hB6.since hb5
    have hw5 := hwB.trans (hb5.mono hwB.size)
    have hz5 := new_zm w5 24
    have hlt5 := hA5.lt
    have hge5 := hw5.size
    clear hB hB6 hwB hb5 ho5 hc hf
    go_wp2_with (first
      | (guard_target =~ wpList _ _ _ (Oper.mk _ (Op.load 24 _) _ _ _ _ :: _) _ _; refine wpList_load_arr 12 rfl rfl rfl hA5 (by kernel_rfl) rfl ?_)
      | (guard_target =~ wpList _ _ _ (Oper.mk _ (Op.store 24 _ _) _ _ _ _ :: _) _ _; refine wpList_store_arr (cs' := mv X) 12 rfl rfl rfl rfl hz5 (by kernel_rfl) rfl rfl (mv_one _) ?_))
    intro w6 hA10 ho6 hb6 hs6
    have hA6 := (hA5.alloc (.cells #[.int .i64 0, .int .i64 0, .int .i64 0, .int .i64 0, .int .i64 0, .int .i64 0, .int .i64 0, .bool false, .int .i64 0, .int .i64 0, .int .i64 0, .int .i64 0] 24)).of_block (ho6 _ (by omega))
    have hw6 := (hw5.alloc hw5.size (.cells #[.int .i64 0, .int .i64 0, .int .i64 0, .int .i64 0, .int .i64 0, .int .i64 0, .int .i64 0, .bool false, .int .i64 0, .int .i64 0, .int .i64 0, .int .i64 0] 24)).trans (hb6.mono hw5.size)
    clear hA5 hw5 hz5 ho6 hb6 hs6 hlt5
    generalize w5.heap.size = g10 at hA10 hge5 ⊢
    have c0 : w6.cell? ⟨g6, 0, none⟩ = some (.int .i64 X.kind) := hA6.cell rfl
    have three : ((X.kind == 1) = true ∧ (X.kind = 1 ∨ X.kind = 2)) ∨ ((X.kind == 1) = false ∧ (X.kind == 2) = true ∧ (X.kind = 1 ∨ X.kind = 2)) ∨ ((X.kind == 1) = false ∧ (X.kind == 2) = false ∧ ¬ (X.kind = 1 ∨ X.kind = 2)) := by
      by_cases h1 : X.kind = 1
      · exact .inl ⟨beq_iff_eq.2 h1, .inl h1⟩
      · by_cases h2 : X.kind = 2
        · exact .inr (.inl ⟨beq_eq_false_iff_ne.2 h1, beq_iff_eq.2 h2, .inr h2⟩)
        · exact .inr (.inr ⟨beq_eq_false_iff_ne.2 h1, beq_eq_false_iff_ne.2 h2, fun h => h.elim h1 h2⟩)
    clear hA6
    rcases three with ⟨t1, hk⟩ | ⟨t1, t2, hk⟩ | ⟨t1, t2, hk⟩
    · have hcz : w6.cell? ⟨g10, 1, none⟩ = some (.int .i64 X.seq) := hA10.cell rfl
      have hfz := hA10.frozen 1
      have hZ : Arr (w6.setCell ⟨g10, 1, none⟩ (.int .i64 1)) g10 (mv { X with seq := 1 }) := hA10.set 1 (.int .i64 1)
      have hzn := no_own X hk
      have hwZ := hw6.setCell (p := ⟨g10, 1, none⟩) hge5 (.int .i64 1)
      obtain ⟨Z, hZ', hzn'⟩ : ∃ Z, Arr _ g10 (mv Z) ∧ okM Z = false := ⟨_, hZ, hzn⟩
      clear hA10 hZ hzn hk hw6
      go_wp2_with (guard_target =~ wpList _ _ _ (Oper.mk _ (Op.load 24 _) _ _ _ _ :: _) _ _; refine wpList_load_arr 12 rfl rfl rfl hZ' (by kernel_rfl) rfl ?_)
      refine (H.put Z _).mono ?_
      rintro e w7 ⟨v7, rfl, ho7, hb7⟩
      rw [(code_no hzn').2] at ho7
      rw [(code_no hzn').1]
      obtain ⟨A7, c7, rfl, -⟩ := ho7.seen_at (k := 0) rfl
      have hw7 := hwZ.trans (hb7.mono hwZ.size)
      clear hZ' hwZ hb7 ho7 hcz hfz c0
      go_wp2
      go_ret
      exact ⟨rfl, hw7⟩
    · have hcz : w6.cell? ⟨g10, 1, none⟩ = some (.int .i64 X.seq) := hA10.cell rfl
      have hfz := hA10.frozen 1
      have hZ : Arr (w6.setCell ⟨g10, 1, none⟩ (.int .i64 1)) g10 (mv { X with seq := 1 }) := hA10.set 1 (.int .i64 1)
      have hzn := no_own X hk
      have hwZ := hw6.setCell (p := ⟨g10, 1, none⟩) hge5 (.int .i64 1)
      obtain ⟨Z, hZ', hzn'⟩ : ∃ Z, Arr _ g10 (mv Z) ∧ okM Z = false := ⟨_, hZ, hzn⟩
      clear hA10 hZ hzn hk hw6
      go_wp2_with (guard_target =~ wpList _ _ _ (Oper.mk _ (Op.load 24 _) _ _ _ _ :: _) _ _; refine wpList_load_arr 12 rfl rfl rfl hZ' (by kernel_rfl) rfl ?_)
      refine (H.put Z _).mono ?_
      rintro e w7 ⟨v7, rfl, ho7, hb7⟩
      rw [(code_no hzn').2] at ho7
      rw [(code_no hzn').1]
      obtain ⟨A7, c7, rfl, -⟩ := ho7.seen_at (k := 0) rfl
      have hw7 := hwZ.trans (hb7.mono hwZ.size)
      clear hZ' hwZ hb7 ho7 hcz hfz c0
      go_wp2
      go_ret
      exact ⟨rfl, hw7⟩
    · have hcz : w6.cell? ⟨g10, 2, none⟩ = some (.int .i64 X.role) := hA10.cell rfl
      have hfz := hA10.frozen 2
      have hZ : Arr (w6.setCell ⟨g10, 2, none⟩ (.int .i64 1)) g10 (mv { X with role := 1 }) := hA10.set 2 (.int .i64 1)
      have hzn := no_other X hk
      have hwZ := hw6.setCell (p := ⟨g10, 2, none⟩) hge5 (.int .i64 1)
      obtain ⟨Z, hZ', hzn'⟩ : ∃ Z, Arr _ g10 (mv Z) ∧ okM Z = false := ⟨_, hZ, hzn⟩
      clear hA10 hZ hzn hk hw6
      go_wp2_with (guard_target =~ wpList _ _ _ (Oper.mk _ (Op.load 24 _) _ _ _ _ :: _) _ _; refine wpList_load_arr 12 rfl rfl rfl hZ' (by kernel_rfl) rfl ?_)
      refine (H.put Z _).mono ?_
      rintro e w7 ⟨v7, rfl, ho7, hb7⟩
      rw [(code_no hzn').2] at ho7
      rw [(code_no hzn').1]
      obtain ⟨A7, c7, rfl, -⟩ := ho7.seen_at (k := 0) rfl
      have hw7 := hwZ.trans (hb7.mono hwZ.size)
      clear hZ' hwZ hb7 ho7 hcz hfz c0
      go_wp2
      go_ret
      exact ⟨rfl, hw7⟩
  · simp only [show ((3 : Nat) : Int) = 3 from rfl] at e7
    clear e4
    have hc : w4.cell? ⟨g7, 4, none⟩ = some (.int .i64 X.epoch) := hA7.cell rfl
    have hf := hfr 4
    have hB7 : Arr (w4.setCell ⟨g7, 4, none⟩ (.int .i64 65536)) g7 (mv { X with epoch := 65536 }) := hA7.set 4 (.int .i64 65536)
    have hB6 := hA6.other (a := ⟨g7, 4, none⟩) hne (.int .i64 65536)
    have hwB := hw4.setCell (p := ⟨g7, 4, none⟩) hge7 (.int .i64 65536)
    have hY := no_epoch X
    obtain ⟨Y, hB, hYn⟩ : ∃ Y, Arr _ g7 (mv Y) ∧ okM Y = false := ⟨_, hB7, hY⟩
    clear hB7 hY hA7 hA6 hw4 hfr
    go_wp2_with (guard_target =~ wpList _ _ _ (Oper.mk _ (Op.load 24 _) _ _ _ _ :: _) _ _; refine wpList_load_arr 12 rfl rfl rfl hB (by kernel_rfl) rfl ?_)
    refine (H.put Y _).mono ?_
    rintro e w5 ⟨v5, rfl, ho5, hb5⟩
    rw [(code_no hYn).2] at ho5
    rw [(code_no hYn).1]
    obtain ⟨A5, c5, rfl, -⟩ := ho5.seen_at (k := 0) rfl
    have hA5 := hB6.since hb5
    have hw5 := hwB.trans (hb5.mono hwB.size)
    have hz5 := new_zm w5 24
    have hlt5 := hA5.lt
    have hge5 := hw5.size
    clear hB hB6 hwB hb5 ho5 hc hf
    go_wp2_with (first
      | (guard_target =~ wpList _ _ _ (Oper.mk _ (Op.load 24 _) _ _ _ _ :: _) _ _; refine wpList_load_arr 12 rfl rfl rfl hA5 (by kernel_rfl) rfl ?_)
      | (guard_target =~ wpList _ _ _ (Oper.mk _ (Op.store 24 _ _) _ _ _ _ :: _) _ _; refine wpList_store_arr (cs' := mv X) 12 rfl rfl rfl rfl hz5 (by kernel_rfl) rfl rfl (mv_one _) ?_))
    intro w6 hA10 ho6 hb6 hs6
    have hA6 := (hA5.alloc (.cells #[.int .i64 0, .int .i64 0, .int .i64 0, .int .i64 0, .int .i64 0, .int .i64 0, .int .i64 0, .bool false, .int .i64 0, .int .i64 0, .int .i64 0, .int .i64 0] 24)).of_block (ho6 _ (by omega))
    have hw6 := (hw5.alloc hw5.size (.cells #[.int .i64 0, .int .i64 0, .int .i64 0, .int .i64 0, .int .i64 0, .int .i64 0, .int .i64 0, .bool false, .int .i64 0, .int .i64 0, .int .i64 0, .int .i64 0] 24)).trans (hb6.mono hw5.size)
    clear hA5 hw5 hz5 ho6 hb6 hs6 hlt5
    generalize w5.heap.size = g10 at hA10 hge5 ⊢
    have c0 : w6.cell? ⟨g6, 0, none⟩ = some (.int .i64 X.kind) := hA6.cell rfl
    have three : ((X.kind == 1) = true ∧ (X.kind = 1 ∨ X.kind = 2)) ∨ ((X.kind == 1) = false ∧ (X.kind == 2) = true ∧ (X.kind = 1 ∨ X.kind = 2)) ∨ ((X.kind == 1) = false ∧ (X.kind == 2) = false ∧ ¬ (X.kind = 1 ∨ X.kind = 2)) := by
      by_cases h1 : X.kind = 1
      · exact .inl ⟨beq_iff_eq.2 h1, .inl h1⟩
      · by_cases h2 : X.kind = 2
        · exact .inr (.inl ⟨beq_eq_false_iff_ne.2 h1, beq_iff_eq.2 h2, .inr h2⟩)
        · exact .inr (.inr ⟨beq_eq_false_iff_ne.2 h1, beq_eq_false_iff_ne.2 h2, fun h => h.elim h1 h2⟩)
    clear hA6
    rcases three with ⟨t1, hk⟩ | ⟨t1, t2, hk⟩ | ⟨t1, t2, hk⟩
    · have hcz : w6.cell? ⟨g10, 1, none⟩ = some (.int .i64 X.seq) := hA10.cell rfl
      have hfz := hA10.frozen 1
      have hZ : Arr (w6.setCell ⟨g10, 1, none⟩ (.int .i64 1)) g10 (mv { X with seq := 1 }) := hA10.set 1 (.int .i64 1)
      have hzn := no_own X hk
      have hwZ := hw6.setCell (p := ⟨g10, 1, none⟩) hge5 (.int .i64 1)
      obtain ⟨Z, hZ', hzn'⟩ : ∃ Z, Arr _ g10 (mv Z) ∧ okM Z = false := ⟨_, hZ, hzn⟩
      clear hA10 hZ hzn hk hw6
      go_wp2_with (guard_target =~ wpList _ _ _ (Oper.mk _ (Op.load 24 _) _ _ _ _ :: _) _ _; refine wpList_load_arr 12 rfl rfl rfl hZ' (by kernel_rfl) rfl ?_)
      refine (H.put Z _).mono ?_
      rintro e w7 ⟨v7, rfl, ho7, hb7⟩
      rw [(code_no hzn').2] at ho7
      rw [(code_no hzn').1]
      obtain ⟨A7, c7, rfl, -⟩ := ho7.seen_at (k := 0) rfl
      have hw7 := hwZ.trans (hb7.mono hwZ.size)
      clear hZ' hwZ hb7 ho7 hcz hfz c0
      go_wp2
      go_ret
      exact ⟨rfl, hw7⟩
    · have hcz : w6.cell? ⟨g10, 1, none⟩ = some (.int .i64 X.seq) := hA10.cell rfl
      have hfz := hA10.frozen 1
      have hZ : Arr (w6.setCell ⟨g10, 1, none⟩ (.int .i64 1)) g10 (mv { X with seq := 1 }) := hA10.set 1 (.int .i64 1)
      have hzn := no_own X hk
      have hwZ := hw6.setCell (p := ⟨g10, 1, none⟩) hge5 (.int .i64 1)
      obtain ⟨Z, hZ', hzn'⟩ : ∃ Z, Arr _ g10 (mv Z) ∧ okM Z = false := ⟨_, hZ, hzn⟩
      clear hA10 hZ hzn hk hw6
      go_wp2_with (guard_target =~ wpList _ _ _ (Oper.mk _ (Op.load 24 _) _ _ _ _ :: _) _ _; refine wpList_load_arr 12 rfl rfl rfl hZ' (by kernel_rfl) rfl ?_)
      refine (H.put Z _).mono ?_
      rintro e w7 ⟨v7, rfl, ho7, hb7⟩
      rw [(code_no hzn').2] at ho7
      rw [(code_no hzn').1]
      obtain ⟨A7, c7, rfl, -⟩ := ho7.seen_at (k := 0) rfl
      have hw7 := hwZ.trans (hb7.mono hwZ.size)
      clear hZ' hwZ hb7 ho7 hcz hfz c0
      go_wp2
      go_ret
      exact ⟨rfl, hw7⟩
    · have hcz : w6.cell? ⟨g10, 2, none⟩ = some (.int .i64 X.role) := hA10.cell rfl
      have hfz := hA10.frozen 2
      have hZ : Arr (w6.setCell ⟨g10, 2, none⟩ (.int .i64 1)) g10 (mv { X with role := 1 }) := hA10.set 2 (.int .i64 1)
      have hzn := no_other X hk
      have hwZ := hw6.setCell (p := ⟨g10, 2, none⟩) hge5 (.int .i64 1)
      obtain ⟨Z, hZ', hzn'⟩ : ∃ Z, Arr _ g10 (mv Z) ∧ okM Z = false := ⟨_, hZ, hzn⟩
      clear hA10 hZ hzn hk hw6
      go_wp2_with (guard_target =~ wpList _ _ _ (Oper.mk _ (Op.load 24 _) _ _ _ _ :: _) _ _; refine wpList_load_arr 12 rfl rfl rfl hZ' (by kernel_rfl) rfl ?_)
      refine (H.put Z _).mono ?_
      rintro e w7 ⟨v7, rfl, ho7, hb7⟩
      rw [(code_no hzn').2] at ho7
      rw [(code_no hzn').1]
      obtain ⟨A7, c7, rfl, -⟩ := ho7.seen_at (k := 0) rfl
      have hw7 := hwZ.trans (hb7.mono hwZ.size)
      clear hZ' hwZ hb7 ho7 hcz hfz c0
      go_wp2
      go_ret
      exact ⟨rfl, hw7⟩
  · simp only [show ((4 : Nat) : Int) = 4 from rfl] at e7
    clear e4
    have hc : w4.cell? ⟨g7, 5, none⟩ = some (.int .i64 X.mode) := hA7.cell rfl
    have hf := hfr 5
    have hB7 : Arr (w4.setCell ⟨g7, 5, none⟩ (.int .i64 5)) g7 (mv { X with mode := 5 }) := hA7.set 5 (.int .i64 5)
    have hB6 := hA6.other (a := ⟨g7, 5, none⟩) hne (.int .i64 5)
    have hwB := hw4.setCell (p := ⟨g7, 5, none⟩) hge7 (.int .i64 5)
    have hY := no_mode X
    obtain ⟨Y, hB, hYn⟩ : ∃ Y, Arr _ g7 (mv Y) ∧ okM Y = false := ⟨_, hB7, hY⟩
    clear hB7 hY hA7 hA6 hw4 hfr
    go_wp2_with (guard_target =~ wpList _ _ _ (Oper.mk _ (Op.load 24 _) _ _ _ _ :: _) _ _; refine wpList_load_arr 12 rfl rfl rfl hB (by kernel_rfl) rfl ?_)
    refine (H.put Y _).mono ?_
    rintro e w5 ⟨v5, rfl, ho5, hb5⟩
    rw [(code_no hYn).2] at ho5
    rw [(code_no hYn).1]
    obtain ⟨A5, c5, rfl, -⟩ := ho5.seen_at (k := 0) rfl
    have hA5 := hB6.since hb5
    have hw5 := hwB.trans (hb5.mono hwB.size)
    have hz5 := new_zm w5 24
    have hlt5 := hA5.lt
    have hge5 := hw5.size
    clear hB hB6 hwB hb5 ho5 hc hf
    go_wp2_with (first
      | (guard_target =~ wpList _ _ _ (Oper.mk _ (Op.load 24 _) _ _ _ _ :: _) _ _; refine wpList_load_arr 12 rfl rfl rfl hA5 (by kernel_rfl) rfl ?_)
      | (guard_target =~ wpList _ _ _ (Oper.mk _ (Op.store 24 _ _) _ _ _ _ :: _) _ _; refine wpList_store_arr (cs' := mv X) 12 rfl rfl rfl rfl hz5 (by kernel_rfl) rfl rfl (mv_one _) ?_))
    intro w6 hA10 ho6 hb6 hs6
    have hA6 := (hA5.alloc (.cells #[.int .i64 0, .int .i64 0, .int .i64 0, .int .i64 0, .int .i64 0, .int .i64 0, .int .i64 0, .bool false, .int .i64 0, .int .i64 0, .int .i64 0, .int .i64 0] 24)).of_block (ho6 _ (by omega))
    have hw6 := (hw5.alloc hw5.size (.cells #[.int .i64 0, .int .i64 0, .int .i64 0, .int .i64 0, .int .i64 0, .int .i64 0, .int .i64 0, .bool false, .int .i64 0, .int .i64 0, .int .i64 0, .int .i64 0] 24)).trans (hb6.mono hw5.size)
    clear hA5 hw5 hz5 ho6 hb6 hs6 hlt5
    generalize w5.heap.size = g10 at hA10 hge5 ⊢
    have c0 : w6.cell? ⟨g6, 0, none⟩ = some (.int .i64 X.kind) := hA6.cell rfl
    have three : ((X.kind == 1) = true ∧ (X.kind = 1 ∨ X.kind = 2)) ∨ ((X.kind == 1) = false ∧ (X.kind == 2) = true ∧ (X.kind = 1 ∨ X.kind = 2)) ∨ ((X.kind == 1) = false ∧ (X.kind == 2) = false ∧ ¬ (X.kind = 1 ∨ X.kind = 2)) := by
      by_cases h1 : X.kind = 1
      · exact .inl ⟨beq_iff_eq.2 h1, .inl h1⟩
      · by_cases h2 : X.kind = 2
        · exact .inr (.inl ⟨beq_eq_false_iff_ne.2 h1, beq_iff_eq.2 h2, .inr h2⟩)
        · exact .inr (.inr ⟨beq_eq_false_iff_ne.2 h1, beq_eq_false_iff_ne.2 h2, fun h => h.elim h1 h2⟩)
    clear hA6
    rcases three with ⟨t1, hk⟩ | ⟨t1, t2, hk⟩ | ⟨t1, t2, hk⟩
    · have hcz : w6.cell? ⟨g10, 1, none⟩ = some (.int .i64 X.seq) := hA10.cell rfl
      have hfz := hA10.frozen 1
      have hZ : Arr (w6.setCell ⟨g10, 1, none⟩ (.int .i64 1)) g10 (mv { X with seq := 1 }) := hA10.set 1 (.int .i64 1)
      have hzn := no_own X hk
      have hwZ := hw6.setCell (p := ⟨g10, 1, none⟩) hge5 (.int .i64 1)
      obtain ⟨Z, hZ', hzn'⟩ : ∃ Z, Arr _ g10 (mv Z) ∧ okM Z = false := ⟨_, hZ, hzn⟩
      clear hA10 hZ hzn hk hw6
      go_wp2_with (guard_target =~ wpList _ _ _ (Oper.mk _ (Op.load 24 _) _ _ _ _ :: _) _ _; refine wpList_load_arr 12 rfl rfl rfl hZ' (by kernel_rfl) rfl ?_)
      refine (H.put Z _).mono ?_
      rintro e w7 ⟨v7, rfl, ho7, hb7⟩
      rw [(code_no hzn').2] at ho7
      rw [(code_no hzn').1]
      obtain ⟨A7, c7, rfl, -⟩ := ho7.seen_at (k := 0) rfl
      have hw7 := hwZ.trans (hb7.mono hwZ.size)
      clear hZ' hwZ hb7 ho7 hcz hfz c0
      go_wp2
      go_ret
      exact ⟨rfl, hw7⟩
    · have hcz : w6.cell? ⟨g10, 1, none⟩ = some (.int .i64 X.seq) := hA10.cell rfl
      have hfz := hA10.frozen 1
      have hZ : Arr (w6.setCell ⟨g10, 1, none⟩ (.int .i64 1)) g10 (mv { X with seq := 1 }) := hA10.set 1 (.int .i64 1)
      have hzn := no_own X hk
      have hwZ := hw6.setCell (p := ⟨g10, 1, none⟩) hge5 (.int .i64 1)
      obtain ⟨Z, hZ', hzn'⟩ : ∃ Z, Arr _ g10 (mv Z) ∧ okM Z = false := ⟨_, hZ, hzn⟩
      clear hA10 hZ hzn hk hw6
      go_wp2_with (guard_target =~ wpList _ _ _ (Oper.mk _ (Op.load 24 _) _ _ _ _ :: _) _ _; refine wpList_load_arr 12 rfl rfl rfl hZ' (by kernel_rfl) rfl ?_)
      refine (H.put Z _).mono ?_
      rintro e w7 ⟨v7, rfl, ho7, hb7⟩
      rw [(code_no hzn').2] at ho7
      rw [(code_no hzn').1]
      obtain ⟨A7, c7, rfl, -⟩ := ho7.seen_at (k := 0) rfl
      have hw7 := hwZ.trans (hb7.mono hwZ.size)
      clear hZ' hwZ hb7 ho7 hcz hfz c0
      go_wp2
      go_ret
      exact ⟨rfl, hw7⟩
    · have hcz : w6.cell? ⟨g10, 2, none⟩ = some (.int .i64 X.role) := hA10.cell rfl
      have hfz := hA10.frozen 2
      have hZ : Arr (w6.setCell ⟨g10, 2, none⟩ (.int .i64 1)) g10 (mv { X with role := 1 }) := hA10.set 2 (.int .i64 1)
      have hzn := no_other X hk
      have hwZ := hw6.setCell (p := ⟨g10, 2, none⟩) hge5 (.int .i64 1)
      obtain ⟨Z, hZ', hzn'⟩ : ∃ Z, Arr _ g10 (mv Z) ∧ okM Z = false := ⟨_, hZ, hzn⟩
      clear hA10 hZ hzn hk hw6
      go_wp2_with (guard_target =~ wpList _ _ _ (Oper.mk _ (Op.load 24 _) _ _ _ _ :: _) _ _; refine wpList_load_arr 12 rfl rfl rfl hZ' (by kernel_rfl) rfl ?_)
      refine (H.put Z _).mono ?_
      rintro e w7 ⟨v7, rfl, ho7, hb7⟩
      rw [(code_no hzn').2] at ho7
      rw [(code_no hzn').1]
      obtain ⟨A7, c7, rfl, -⟩ := ho7.seen_at (k := 0) rfl
      have hw7 := hwZ.trans (hb7.mono hwZ.size)
      clear hZ' hwZ hb7 ho7 hcz hfz c0
      go_wp2
      go_ret
      exact ⟨rfl, hw7⟩
  · simp only [show ((5 : Nat) : Int) = 5 from rfl] at e7
    clear e4
    have hc : w4.cell? ⟨g7, 6, none⟩ = some (.int .i64 X.cls) := hA7.cell rfl
    have hf := hfr 6
    have hB7 : Arr (w4.setCell ⟨g7, 6, none⟩ (.int .i64 4)) g7 (mv { X with cls := 4 }) := hA7.set 6 (.int .i64 4)
    have hB6 := hA6.other (a := ⟨g7, 6, none⟩) hne (.int .i64 4)
    have hwB := hw4.setCell (p := ⟨g7, 6, none⟩) hge7 (.int .i64 4)
    have hY := no_cls X
    obtain ⟨Y, hB, hYn⟩ : ∃ Y, Arr _ g7 (mv Y) ∧ okM Y = false := ⟨_, hB7, hY⟩
    clear hB7 hY hA7 hA6 hw4 hfr
    go_wp2_with (guard_target =~ wpList _ _ _ (Oper.mk _ (Op.load 24 _) _ _ _ _ :: _) _ _; refine wpList_load_arr 12 rfl rfl rfl hB (by kernel_rfl) rfl ?_)
    refine (H.put Y _).mono ?_
    rintro e w5 ⟨v5, rfl, ho5, hb5⟩
    rw [(code_no hYn).2] at ho5
    rw [(code_no hYn).1]
    obtain ⟨A5, c5, rfl, -⟩ := ho5.seen_at (k := 0) rfl
    have hA5 := hB6.since hb5
    have hw5 := hwB.trans (hb5.mono hwB.size)
    have hz5 := new_zm w5 24
    have hlt5 := hA5.lt
    have hge5 := hw5.size
    clear hB hB6 hwB hb5 ho5 hc hf
    go_wp2_with (first
      | (guard_target =~ wpList _ _ _ (Oper.mk _ (Op.load 24 _) _ _ _ _ :: _) _ _; refine wpList_load_arr 12 rfl rfl rfl hA5 (by kernel_rfl) rfl ?_)
      | (guard_target =~ wpList _ _ _ (Oper.mk _ (Op.store 24 _ _) _ _ _ _ :: _) _ _; refine wpList_store_arr (cs' := mv X) 12 rfl rfl rfl rfl hz5 (by kernel_rfl) rfl rfl (mv_one _) ?_))
    intro w6 hA10 ho6 hb6 hs6
    have hA6 := (hA5.alloc (.cells #[.int .i64 0, .int .i64 0, .int .i64 0, .int .i64 0, .int .i64 0, .int .i64 0, .int .i64 0, .bool false, .int .i64 0, .int .i64 0, .int .i64 0, .int .i64 0] 24)).of_block (ho6 _ (by omega))
    have hw6 := (hw5.alloc hw5.size (.cells #[.int .i64 0, .int .i64 0, .int .i64 0, .int .i64 0, .int .i64 0, .int .i64 0, .int .i64 0, .bool false, .int .i64 0, .int .i64 0, .int .i64 0, .int .i64 0] 24)).trans (hb6.mono hw5.size)
    clear hA5 hw5 hz5 ho6 hb6 hs6 hlt5
    generalize w5.heap.size = g10 at hA10 hge5 ⊢
    have c0 : w6.cell? ⟨g6, 0, none⟩ = some (.int .i64 X.kind) := hA6.cell rfl
    have three : ((X.kind == 1) = true ∧ (X.kind = 1 ∨ X.kind = 2)) ∨ ((X.kind == 1) = false ∧ (X.kind == 2) = true ∧ (X.kind = 1 ∨ X.kind = 2)) ∨ ((X.kind == 1) = false ∧ (X.kind == 2) = false ∧ ¬ (X.kind = 1 ∨ X.kind = 2)) := by
      by_cases h1 : X.kind = 1
      · exact .inl ⟨beq_iff_eq.2 h1, .inl h1⟩
      · by_cases h2 : X.kind = 2
        · exact .inr (.inl ⟨beq_eq_false_iff_ne.2 h1, beq_iff_eq.2 h2, .inr h2⟩)
        · exact .inr (.inr ⟨beq_eq_false_iff_ne.2 h1, beq_eq_false_iff_ne.2 h2, fun h => h.elim h1 h2⟩)
    clear hA6
    rcases three with ⟨t1, hk⟩ | ⟨t1, t2, hk⟩ | ⟨t1, t2, hk⟩
    · have hcz : w6.cell? ⟨g10, 1, none⟩ = some (.int .i64 X.seq) := hA10.cell rfl
      have hfz := hA10.frozen 1
      have hZ : Arr (w6.setCell ⟨g10, 1, none⟩ (.int .i64 1)) g10 (mv { X with seq := 1 }) := hA10.set 1 (.int .i64 1)
      have hzn := no_own X hk
      have hwZ := hw6.setCell (p := ⟨g10, 1, none⟩) hge5 (.int .i64 1)
      obtain ⟨Z, hZ', hzn'⟩ : ∃ Z, Arr _ g10 (mv Z) ∧ okM Z = false := ⟨_, hZ, hzn⟩
      clear hA10 hZ hzn hk hw6
      go_wp2_with (guard_target =~ wpList _ _ _ (Oper.mk _ (Op.load 24 _) _ _ _ _ :: _) _ _; refine wpList_load_arr 12 rfl rfl rfl hZ' (by kernel_rfl) rfl ?_)
      refine (H.put Z _).mono ?_
      rintro e w7 ⟨v7, rfl, ho7, hb7⟩
      rw [(code_no hzn').2] at ho7
      rw [(code_no hzn').1]
      obtain ⟨A7, c7, rfl, -⟩ := ho7.seen_at (k := 0) rfl
      have hw7 := hwZ.trans (hb7.mono hwZ.size)
      clear hZ' hwZ hb7 ho7 hcz hfz c0
      go_wp2
      go_ret
      exact ⟨rfl, hw7⟩
    · have hcz : w6.cell? ⟨g10, 1, none⟩ = some (.int .i64 X.seq) := hA10.cell rfl
      have hfz := hA10.frozen 1
      have hZ : Arr (w6.setCell ⟨g10, 1, none⟩ (.int .i64 1)) g10 (mv { X with seq := 1 }) := hA10.set 1 (.int .i64 1)
      have hzn := no_own X hk
      have hwZ := hw6.setCell (p := ⟨g10, 1, none⟩) hge5 (.int .i64 1)
      obtain ⟨Z, hZ', hzn'⟩ : ∃ Z, Arr _ g10 (mv Z) ∧ okM Z = false := ⟨_, hZ, hzn⟩
      clear hA10 hZ hzn hk hw6
      go_wp2_with (guard_target =~ wpList _ _ _ (Oper.mk _ (Op.load 24 _) _ _ _ _ :: _) _ _; refine wpList_load_arr 12 rfl rfl rfl hZ' (by kernel_rfl) rfl ?_)
      refine (H.put Z _).mono ?_
      rintro e w7 ⟨v7, rfl, ho7, hb7⟩
      rw [(code_no hzn').2] at ho7
      rw [(code_no hzn').1]
      obtain ⟨A7, c7, rfl, -⟩ := ho7.seen_at (k := 0) rfl
      have hw7 := hwZ.trans (hb7.mono hwZ.size)
      clear hZ' hwZ hb7 ho7 hcz hfz c0
      go_wp2
      go_ret
      exact ⟨rfl, hw7⟩
    · have hcz : w6.cell? ⟨g10, 2, none⟩ = some (.int .i64 X.role) := hA10.cell rfl
      have hfz := hA10.frozen 2
      have hZ : Arr (w6.setCell ⟨g10, 2, none⟩ (.int .i64 1)) g10 (mv { X with role := 1 }) := hA10.set 2 (.int .i64 1)
      have hzn := no_other X hk
      have hwZ := hw6.setCell (p := ⟨g10, 2, none⟩) hge5 (.int .i64 1)
      obtain ⟨Z, hZ', hzn'⟩ : ∃ Z, Arr _ g10 (mv Z) ∧ okM Z = false := ⟨_, hZ, hzn⟩
      clear hA10 hZ hzn hk hw6
      go_wp2_with (guard_target =~ wpList _ _ _ (Oper.mk _ (Op.load 24 _) _ _ _ _ :: _) _ _; refine wpList_load_arr 12 rfl rfl rfl hZ' (by kernel_rfl) rfl ?_)
      refine (H.put Z _).mono ?_
      rintro e w7 ⟨v7, rfl, ho7, hb7⟩
      rw [(code_no hzn').2] at ho7
      rw [(code_no hzn').1]
      obtain ⟨A7, c7, rfl, -⟩ := ho7.seen_at (k := 0) rfl
      have hw7 := hwZ.trans (hb7.mono hwZ.size)
      clear hZ' hwZ hb7 ho7 hcz hfz c0
      go_wp2
      go_ret
      exact ⟨rfl, hw7⟩
  · simp only [show ((6 : Nat) : Int) = 6 from rfl] at e7
    simp only [show ((0 : Nat) : Int) = 0 from rfl] at e4
    have hc : w4.cell? ⟨g7, 8, none⟩ = some (.int .i64 X.x0) := hA7.cell rfl
    have hf := hfr 8
    have hB7 : Arr (w4.setCell ⟨g7, 8, none⟩ (.int .i64 32768)) g7 (mv { X with x0 := 32768 }) := hA7.set 8 (.int .i64 32768)
    have hB6 := hA6.other (a := ⟨g7, 8, none⟩) hne (.int .i64 32768)
    have hwB := hw4.setCell (p := ⟨g7, 8, none⟩) hge7 (.int .i64 32768)
    have hY := no_x0 X
    obtain ⟨Y, hB, hYn⟩ : ∃ Y, Arr _ g7 (mv Y) ∧ okM Y = false := ⟨_, hB7, hY⟩
    clear hB7 hY hA7 hA6 hw4 hfr
    go_wp2_with (guard_target =~ wpList _ _ _ (Oper.mk _ (Op.load 24 _) _ _ _ _ :: _) _ _; refine wpList_load_arr 12 rfl rfl rfl hB (by kernel_rfl) rfl ?_)
    refine (H.put Y _).mono ?_
    rintro e w5 ⟨v5, rfl, ho5, hb5⟩
    rw [(code_no hYn).2] at ho5
    rw [(code_no hYn).1]
    obtain ⟨A5, c5, rfl, -⟩ := ho5.seen_at (k := 0) rfl
    have hA5 := hB6.since hb5
    have hw5 := hwB.trans (hb5.mono hwB.size)
    have hz5 := new_zm w5 24
    have hlt5 := hA5.lt
    have hge5 := hw5.size
    clear hB hB6 hwB hb5 ho5 hc hf
    go_wp2_with (first
      | (guard_target =~ wpList _ _ _ (Oper.mk _ (Op.load 24 _) _ _ _ _ :: _) _ _; refine wpList_load_arr 12 rfl rfl rfl hA5 (by kernel_rfl) rfl ?_)
      | (guard_target =~ wpList _ _ _ (Oper.mk _ (Op.store 24 _ _) _ _ _ _ :: _) _ _; refine wpList_store_arr (cs' := mv X) 12 rfl rfl rfl rfl hz5 (by kernel_rfl) rfl rfl (mv_one _) ?_))
    intro w6 hA10 ho6 hb6 hs6
    have hA6 := (hA5.alloc (.cells #[.int .i64 0, .int .i64 0, .int .i64 0, .int .i64 0, .int .i64 0, .int .i64 0, .int .i64 0, .bool false, .int .i64 0, .int .i64 0, .int .i64 0, .int .i64 0] 24)).of_block (ho6 _ (by omega))
    have hw6 := (hw5.alloc hw5.size (.cells #[.int .i64 0, .int .i64 0, .int .i64 0, .int .i64 0, .int .i64 0, .int .i64 0, .int .i64 0, .bool false, .int .i64 0, .int .i64 0, .int .i64 0, .int .i64 0] 24)).trans (hb6.mono hw5.size)
    clear hA5 hw5 hz5 ho6 hb6 hs6 hlt5
    generalize w5.heap.size = g10 at hA10 hge5 ⊢
    have c0 : w6.cell? ⟨g6, 0, none⟩ = some (.int .i64 X.kind) := hA6.cell rfl
    have three : ((X.kind == 1) = true ∧ (X.kind = 1 ∨ X.kind = 2)) ∨ ((X.kind == 1) = false ∧ (X.kind == 2) = true ∧ (X.kind = 1 ∨ X.kind = 2)) ∨ ((X.kind == 1) = false ∧ (X.kind == 2) = false ∧ ¬ (X.kind = 1 ∨ X.kind = 2)) := by
      by_cases h1 : X.kind = 1
      · exact .inl ⟨beq_iff_eq.2 h1, .inl h1⟩
      · by_cases h2 : X.kind = 2
        · exact .inr (.inl ⟨beq_eq_false_iff_ne.2 h1, beq_iff_eq.2 h2, .inr h2⟩)
        · exact .inr (.inr ⟨beq_eq_false_iff_ne.2 h1, beq_eq_false_iff_ne.2 h2, fun h => h.elim h1 h2⟩)
    clear hA6
    rcases three with ⟨t1, hk⟩ | ⟨t1, t2, hk⟩ | ⟨t1, t2, hk⟩
    · have hcz : w6.cell? ⟨g10, 1, none⟩ = some (.int .i64 X.seq) := hA10.cell rfl
      have hfz := hA10.frozen 1
      have hZ : Arr (w6.setCell ⟨g10, 1, none⟩ (.int .i64 1)) g10 (mv { X with seq := 1 }) := hA10.set 1 (.int .i64 1)
      have hzn := no_own X hk
      have hwZ := hw6.setCell (p := ⟨g10, 1, none⟩) hge5 (.int .i64 1)
      obtain ⟨Z, hZ', hzn'⟩ : ∃ Z, Arr _ g10 (mv Z) ∧ okM Z = false := ⟨_, hZ, hzn⟩
      clear hA10 hZ hzn hk hw6
      go_wp2_with (guard_target =~ wpList _ _ _ (Oper.mk _ (Op.load 24 _) _ _ _ _ :: _) _ _; refine wpList_load_arr 12 rfl rfl rfl hZ' (by kernel_rfl) rfl ?_)
      refine (H.put Z _).mono ?_
      rintro e w7 ⟨v7, rfl, ho7, hb7⟩
      rw [(code_no hzn').2] at ho7
      rw [(code_no hzn').1]
      obtain ⟨A7, c7, rfl, -⟩ := ho7.seen_at (k := 0) rfl
      have hw7 := hwZ.trans (hb7.mono hwZ.size)
      clear hZ' hwZ hb7 ho7 hcz hfz c0
      go_wp2
      go_ret
      exact ⟨rfl, hw7⟩
    · have hcz : w6.cell? ⟨g10, 1, none⟩ = some (.int .i64 X.seq) := hA10.cell rfl
      have hfz := hA10.frozen 1
      have hZ : Arr (w6.setCell ⟨g10, 1, none⟩ (.int .i64 1)) g10 (mv { X with seq := 1 }) := hA10.set 1 (.int .i64 1)
      have hzn := no_own X hk
      have hwZ := hw6.setCell (p := ⟨g10, 1, none⟩) hge5 (.int .i64 1)
      obtain ⟨Z, hZ', hzn'⟩ : ∃ Z, Arr _ g10 (mv Z) ∧ okM Z = false := ⟨_, hZ, hzn⟩
      clear hA10 hZ hzn hk hw6
      go_wp2_with (guard_target =~ wpList _ _ _ (Oper.mk _ (Op.load 24 _) _ _ _ _ :: _) _ _; refine wpList_load_arr 12 rfl rfl rfl hZ' (by kernel_rfl) rfl ?_)
      refine (H.put Z _).mono ?_
      rintro e w7 ⟨v7, rfl, ho7, hb7⟩
      rw [(code_no hzn').2] at ho7
      rw [(code_no hzn').1]
      obtain ⟨A7, c7, rfl, -⟩ := ho7.seen_at (k := 0) rfl
      have hw7 := hwZ.trans (hb7.mono hwZ.size)
      clear hZ' hwZ hb7 ho7 hcz hfz c0
      go_wp2
      go_ret
      exact ⟨rfl, hw7⟩
    · have hcz : w6.cell? ⟨g10, 2, none⟩ = some (.int .i64 X.role) := hA10.cell rfl
      have hfz := hA10.frozen 2
      have hZ : Arr (w6.setCell ⟨g10, 2, none⟩ (.int .i64 1)) g10 (mv { X with role := 1 }) := hA10.set 2 (.int .i64 1)
      have hzn := no_other X hk
      have hwZ := hw6.setCell (p := ⟨g10, 2, none⟩) hge5 (.int .i64 1)
      obtain ⟨Z, hZ', hzn'⟩ : ∃ Z, Arr _ g10 (mv Z) ∧ okM Z = false := ⟨_, hZ, hzn⟩
      clear hA10 hZ hzn hk hw6
      go_wp2_with (guard_target =~ wpList _ _ _ (Oper.mk _ (Op.load 24 _) _ _ _ _ :: _) _ _; refine wpList_load_arr 12 rfl rfl rfl hZ' (by kernel_rfl) rfl ?_)
      refine (H.put Z _).mono ?_
      rintro e w7 ⟨v7, rfl, ho7, hb7⟩
      rw [(code_no hzn').2] at ho7
      rw [(code_no hzn').1]
      obtain ⟨A7, c7, rfl, -⟩ := ho7.seen_at (k := 0) rfl
      have hw7 := hwZ.trans (hb7.mono hwZ.size)
      clear hZ' hwZ hb7 ho7 hcz hfz c0
      go_wp2
      go_ret
      exact ⟨rfl, hw7⟩
  · simp only [show ((6 : Nat) : Int) = 6 from rfl] at e7
    simp only [show ((1 : Nat) : Int) = 1 from rfl] at e4
    have hc : w4.cell? ⟨g7, 9, none⟩ = some (.int .i64 X.x1) := hA7.cell rfl
    have hf := hfr 9
    have hB7 : Arr (w4.setCell ⟨g7, 9, none⟩ (.int .i64 32768)) g7 (mv { X with x1 := 32768 }) := hA7.set 9 (.int .i64 32768)
    have hB6 := hA6.other (a := ⟨g7, 9, none⟩) hne (.int .i64 32768)
    have hwB := hw4.setCell (p := ⟨g7, 9, none⟩) hge7 (.int .i64 32768)
    have hY := no_x1 X
    obtain ⟨Y, hB, hYn⟩ : ∃ Y, Arr _ g7 (mv Y) ∧ okM Y = false := ⟨_, hB7, hY⟩
    clear hB7 hY hA7 hA6 hw4 hfr
    go_wp2_with (guard_target =~ wpList _ _ _ (Oper.mk _ (Op.load 24 _) _ _ _ _ :: _) _ _; refine wpList_load_arr 12 rfl rfl rfl hB (by kernel_rfl) rfl ?_)
    refine (H.put Y _).mono ?_
    rintro e w5 ⟨v5, rfl, ho5, hb5⟩
    rw [(code_no hYn).2] at ho5
    rw [(code_no hYn).1]
    obtain ⟨A5, c5, rfl, -⟩ := ho5.seen_at (k := 0) rfl
    have hA5 := hB6.since hb5
    have hw5 := hwB.trans (hb5.mono hwB.size)
    have hz5 := new_zm w5 24
    have hlt5 := hA5.lt
    have hge5 := hw5.size
    clear hB hB6 hwB hb5 ho5 hc hf
    go_wp2_with (first
      | (guard_target =~ wpList _ _ _ (Oper.mk _ (Op.load 24 _) _ _ _ _ :: _) _ _; refine wpList_load_arr 12 rfl rfl rfl hA5 (by kernel_rfl) rfl ?_)
      | (guard_target =~ wpList _ _ _ (Oper.mk _ (Op.store 24 _ _) _ _ _ _ :: _) _ _; refine wpList_store_arr (cs' := mv X) 12 rfl rfl rfl rfl hz5 (by kernel_rfl) rfl rfl (mv_one _) ?_))
    intro w6 hA10 ho6 hb6 hs6
    have hA6 := (hA5.alloc (.cells #[.int .i64 0, .int .i64 0, .int .i64 0, .int .i64 0, .int .i64 0, .int .i64 0, .int .i64 0, .bool false, .int .i64 0, .int .i64 0, .int .i64 0, .int .i64 0] 24)).of_block (ho6 _ (by omega))
    have hw6 := (hw5.alloc hw5.size (.cells #[.int .i64 0, .int .i64 0, .int .i64 0, .int .i64 0, .int .i64 0, .int .i64 0, .int .i64 0, .bool false, .int .i64 0, .int .i64 0, .int .i64 0, .int .i64 0] 24)).trans (hb6.mono hw5.size)
    clear hA5 hw5 hz5 ho6 hb6 hs6 hlt5
    generalize w5.heap.size = g10 at hA10 hge5 ⊢
    have c0 : w6.cell? ⟨g6, 0, none⟩ = some (.int .i64 X.kind) := hA6.cell rfl
    have three : ((X.kind == 1) = true ∧ (X.kind = 1 ∨ X.kind = 2)) ∨ ((X.kind == 1) = false ∧ (X.kind == 2) = true ∧ (X.kind = 1 ∨ X.kind = 2)) ∨ ((X.kind == 1) = false ∧ (X.kind == 2) = false ∧ ¬ (X.kind = 1 ∨ X.kind = 2)) := by
      by_cases h1 : X.kind = 1
      · exact .inl ⟨beq_iff_eq.2 h1, .inl h1⟩
      · by_cases h2 : X.kind = 2
        · exact .inr (.inl ⟨beq_eq_false_iff_ne.2 h1, beq_iff_eq.2 h2, .inr h2⟩)
        · exact .inr (.inr ⟨beq_eq_false_iff_ne.2 h1, beq_eq_false_iff_ne.2 h2, fun h => h.elim h1 h2⟩)
    clear hA6
    rcases three with ⟨t1, hk⟩ | ⟨t1, t2, hk⟩ | ⟨t1, t2, hk⟩
    · have hcz : w6.cell? ⟨g10, 1, none⟩ = some (.int .i64 X.seq) := hA10.cell rfl
      have hfz := hA10.frozen 1
      have hZ : Arr (w6.setCell ⟨g10, 1, none⟩ (.int .i64 1)) g10 (mv { X with seq := 1 }) := hA10.set 1 (.int .i64 1)
      have hzn := no_own X hk
      have hwZ := hw6.setCell (p := ⟨g10, 1, none⟩) hge5 (.int .i64 1)
      obtain ⟨Z, hZ', hzn'⟩ : ∃ Z, Arr _ g10 (mv Z) ∧ okM Z = false := ⟨_, hZ, hzn⟩
      clear hA10 hZ hzn hk hw6
      go_wp2_with (guard_target =~ wpList _ _ _ (Oper.mk _ (Op.load 24 _) _ _ _ _ :: _) _ _; refine wpList_load_arr 12 rfl rfl rfl hZ' (by kernel_rfl) rfl ?_)
      refine (H.put Z _).mono ?_
      rintro e w7 ⟨v7, rfl, ho7, hb7⟩
      rw [(code_no hzn').2] at ho7
      rw [(code_no hzn').1]
      obtain ⟨A7, c7, rfl, -⟩ := ho7.seen_at (k := 0) rfl
      have hw7 := hwZ.trans (hb7.mono hwZ.size)
      clear hZ' hwZ hb7 ho7 hcz hfz c0
      go_wp2
      go_ret
      exact ⟨rfl, hw7⟩
    · have hcz : w6.cell? ⟨g10, 1, none⟩ = some (.int .i64 X.seq) := hA10.cell rfl
      have hfz := hA10.frozen 1
      have hZ : Arr (w6.setCell ⟨g10, 1, none⟩ (.int .i64 1)) g10 (mv { X with seq := 1 }) := hA10.set 1 (.int .i64 1)
      have hzn := no_own X hk
      have hwZ := hw6.setCell (p := ⟨g10, 1, none⟩) hge5 (.int .i64 1)
      obtain ⟨Z, hZ', hzn'⟩ : ∃ Z, Arr _ g10 (mv Z) ∧ okM Z = false := ⟨_, hZ, hzn⟩
      clear hA10 hZ hzn hk hw6
      go_wp2_with (guard_target =~ wpList _ _ _ (Oper.mk _ (Op.load 24 _) _ _ _ _ :: _) _ _; refine wpList_load_arr 12 rfl rfl rfl hZ' (by kernel_rfl) rfl ?_)
      refine (H.put Z _).mono ?_
      rintro e w7 ⟨v7, rfl, ho7, hb7⟩
      rw [(code_no hzn').2] at ho7
      rw [(code_no hzn').1]
      obtain ⟨A7, c7, rfl, -⟩ := ho7.seen_at (k := 0) rfl
      have hw7 := hwZ.trans (hb7.mono hwZ.size)
      clear hZ' hwZ hb7 ho7 hcz hfz c0
      go_wp2
      go_ret
      exact ⟨rfl, hw7⟩
    · have hcz : w6.cell? ⟨g10, 2, none⟩ = some (.int .i64 X.role) := hA10.cell rfl
      have hfz := hA10.frozen 2
      have hZ : Arr (w6.setCell ⟨g10, 2, none⟩ (.int .i64 1)) g10 (mv { X with role := 1 }) := hA10.set 2 (.int .i64 1)
      have hzn := no_other X hk
      have hwZ := hw6.setCell (p := ⟨g10, 2, none⟩) hge5 (.int .i64 1)
      obtain ⟨Z, hZ', hzn'⟩ : ∃ Z, Arr _ g10 (mv Z) ∧ okM Z = false := ⟨_, hZ, hzn⟩
      clear hA10 hZ hzn hk hw6
      go_wp2_with (guard_target =~ wpList _ _ _ (Oper.mk _ (Op.load 24 _) _ _ _ _ :: _) _ _; refine wpList_load_arr 12 rfl rfl rfl hZ' (by kernel_rfl) rfl ?_)
      refine (H.put Z _).mono ?_
      rintro e w7 ⟨v7, rfl, ho7, hb7⟩
      rw [(code_no hzn').2] at ho7
      rw [(code_no hzn').1]
      obtain ⟨A7, c7, rfl, -⟩ := ho7.seen_at (k := 0) rfl
      have hw7 := hwZ.trans (hb7.mono hwZ.size)
      clear hZ' hwZ hb7 ho7 hcz hfz c0
      go_wp2
      go_ret
      exact ⟨rfl, hw7⟩
  · simp only [show ((6 : Nat) : Int) = 6 from rfl] at e7
    simp only [show ((2 : Nat) : Int) = 2 from rfl] at e4
    have hc : w4.cell? ⟨g7, 10, none⟩ = some (.int .i64 X.x2) := hA7.cell rfl
    have hf := hfr 10
    have hB7 : Arr (w4.setCell ⟨g7, 10, none⟩ (.int .i64 32768)) g7 (mv { X with x2 := 32768 }) := hA7.set 10 (.int .i64 32768)
    have hB6 := hA6.other (a := ⟨g7, 10, none⟩) hne (.int .i64 32768)
    have hwB := hw4.setCell (p := ⟨g7, 10, none⟩) hge7 (.int .i64 32768)
    have hY := no_x2 X
    obtain ⟨Y, hB, hYn⟩ : ∃ Y, Arr _ g7 (mv Y) ∧ okM Y = false := ⟨_, hB7, hY⟩
    clear hB7 hY hA7 hA6 hw4 hfr
    go_wp2_with (guard_target =~ wpList _ _ _ (Oper.mk _ (Op.load 24 _) _ _ _ _ :: _) _ _; refine wpList_load_arr 12 rfl rfl rfl hB (by kernel_rfl) rfl ?_)
    refine (H.put Y _).mono ?_
    rintro e w5 ⟨v5, rfl, ho5, hb5⟩
    rw [(code_no hYn).2] at ho5
    rw [(code_no hYn).1]
    obtain ⟨A5, c5, rfl, -⟩ := ho5.seen_at (k := 0) rfl
    have hA5 := hB6.since hb5
    have hw5 := hwB.trans (hb5.mono hwB.size)
    have hz5 := new_zm w5 24
    have hlt5 := hA5.lt
    have hge5 := hw5.size
    clear hB hB6 hwB hb5 ho5 hc hf
    go_wp2_with (first
      | (guard_target =~ wpList _ _ _ (Oper.mk _ (Op.load 24 _) _ _ _ _ :: _) _ _; refine wpList_load_arr 12 rfl rfl rfl hA5 (by kernel_rfl) rfl ?_)
      | (guard_target =~ wpList _ _ _ (Oper.mk _ (Op.store 24 _ _) _ _ _ _ :: _) _ _; refine wpList_store_arr (cs' := mv X) 12 rfl rfl rfl rfl hz5 (by kernel_rfl) rfl rfl (mv_one _) ?_))
    intro w6 hA10 ho6 hb6 hs6
    have hA6 := (hA5.alloc (.cells #[.int .i64 0, .int .i64 0, .int .i64 0, .int .i64 0, .int .i64 0, .int .i64 0, .int .i64 0, .bool false, .int .i64 0, .int .i64 0, .int .i64 0, .int .i64 0] 24)).of_block (ho6 _ (by omega))
    have hw6 := (hw5.alloc hw5.size (.cells #[.int .i64 0, .int .i64 0, .int .i64 0, .int .i64 0, .int .i64 0, .int .i64 0, .int .i64 0, .bool false, .int .i64 0, .int .i64 0, .int .i64 0, .int .i64 0] 24)).trans (hb6.mono hw5.size)
    clear hA5 hw5 hz5 ho6 hb6 hs6 hlt5
    generalize w5.heap.size = g10 at hA10 hge5 ⊢
    have c0 : w6.cell? ⟨g6, 0, none⟩ = some (.int .i64 X.kind) := hA6.cell rfl
    have three : ((X.kind == 1) = true ∧ (X.kind = 1 ∨ X.kind = 2)) ∨ ((X.kind == 1) = false ∧ (X.kind == 2) = true ∧ (X.kind = 1 ∨ X.kind = 2)) ∨ ((X.kind == 1) = false ∧ (X.kind == 2) = false ∧ ¬ (X.kind = 1 ∨ X.kind = 2)) := by
      by_cases h1 : X.kind = 1
      · exact .inl ⟨beq_iff_eq.2 h1, .inl h1⟩
      · by_cases h2 : X.kind = 2
        · exact .inr (.inl ⟨beq_eq_false_iff_ne.2 h1, beq_iff_eq.2 h2, .inr h2⟩)
        · exact .inr (.inr ⟨beq_eq_false_iff_ne.2 h1, beq_eq_false_iff_ne.2 h2, fun h => h.elim h1 h2⟩)
    clear hA6
    rcases three with ⟨t1, hk⟩ | ⟨t1, t2, hk⟩ | ⟨t1, t2, hk⟩
    · have hcz : w6.cell? ⟨g10, 1, none⟩ = some (.int .i64 X.seq) := hA10.cell rfl
      have hfz := hA10.frozen 1
      have hZ : Arr (w6.setCell ⟨g10, 1, none⟩ (.int .i64 1)) g10 (mv { X with seq := 1 }) := hA10.set 1 (.int .i64 1)
      have hzn := no_own X hk
      have hwZ := hw6.setCell (p := ⟨g10, 1, none⟩) hge5 (.int .i64 1)
      obtain ⟨Z, hZ', hzn'⟩ : ∃ Z, Arr _ g10 (mv Z) ∧ okM Z = false := ⟨_, hZ, hzn⟩
      clear hA10 hZ hzn hk hw6
      go_wp2_with (guard_target =~ wpList _ _ _ (Oper.mk _ (Op.load 24 _) _ _ _ _ :: _) _ _; refine wpList_load_arr 12 rfl rfl rfl hZ' (by kernel_rfl) rfl ?_)
      refine (H.put Z _).mono ?_
      rintro e w7 ⟨v7, rfl, ho7, hb7⟩
      rw [(code_no hzn').2] at ho7
      rw [(code_no hzn').1]
      obtain ⟨A7, c7, rfl, -⟩ := ho7.seen_at (k := 0) rfl
      have hw7 := hwZ.trans (hb7.mono hwZ.size)
      clear hZ' hwZ hb7 ho7 hcz hfz c0
      go_wp2
      go_ret
      exact ⟨rfl, hw7⟩
    · have hcz : w6.cell? ⟨g10, 1, none⟩ = some (.int .i64 X.seq) := hA10.cell rfl
      have hfz := hA10.frozen 1
      have hZ : Arr (w6.setCell ⟨g10, 1, none⟩ (.int .i64 1)) g10 (mv { X with seq := 1 }) := hA10.set 1 (.int .i64 1)
      have hzn := no_own X hk
      have hwZ := hw6.setCell (p := ⟨g10, 1, none⟩) hge5 (.int .i64 1)
      obtain ⟨Z, hZ', hzn'⟩ : ∃ Z, Arr _ g10 (mv Z) ∧ okM Z = false := ⟨_, hZ, hzn⟩
      clear hA10 hZ hzn hk hw6
      go_wp2_with (guard_target =~ wpList _ _ _ (Oper.mk _ (Op.load 24 _) _ _ _ _ :: _) _ _; refine wpList_load_arr 12 rfl rfl rfl hZ' (by kernel_rfl) rfl ?_)
      refine (H.put Z _).mono ?_
      rintro e w7 ⟨v7, rfl, ho7, hb7⟩
      rw [(code_no hzn').2] at ho7
      rw [(code_no hzn').1]
      obtain ⟨A7, c7, rfl, -⟩ := ho7.seen_at (k := 0) rfl
      have hw7 := hwZ.trans (hb7.mono hwZ.size)
      clear hZ' hwZ hb7 ho7 hcz hfz c0
      go_wp2
      go_ret
      exact ⟨rfl, hw7⟩
    · have hcz : w6.cell? ⟨g10, 2, none⟩ = some (.int .i64 X.role) := hA10.cell rfl
      have hfz := hA10.frozen 2
      have hZ : Arr (w6.setCell ⟨g10, 2, none⟩ (.int .i64 1)) g10 (mv { X with role := 1 }) := hA10.set 2 (.int .i64 1)
      have hzn := no_other X hk
      have hwZ := hw6.setCell (p := ⟨g10, 2, none⟩) hge5 (.int .i64 1)
      obtain ⟨Z, hZ', hzn'⟩ : ∃ Z, Arr _ g10 (mv Z) ∧ okM Z = false := ⟨_, hZ, hzn⟩
      clear hA10 hZ hzn hk hw6
      go_wp2_with (guard_target =~ wpList _ _ _ (Oper.mk _ (Op.load 24 _) _ _ _ _ :: _) _ _; refine wpList_load_arr 12 rfl rfl rfl hZ' (by kernel_rfl) rfl ?_)
      refine (H.put Z _).mono ?_
      rintro e w7 ⟨v7, rfl, ho7, hb7⟩
      rw [(code_no hzn').2] at ho7
      rw [(code_no hzn').1]
      obtain ⟨A7, c7, rfl, -⟩ := ho7.seen_at (k := 0) rfl
      have hw7 := hwZ.trans (hb7.mono hwZ.size)
      clear hZ' hwZ hb7 ho7 hcz hfz c0
      go_wp2
      go_ret
      exact ⟨rfl, hw7⟩
  · simp only [show ((6 : Nat) : Int) = 6 from rfl] at e7
    simp only [show ((3 : Nat) : Int) = 3 from rfl] at e4
    have hc : w4.cell? ⟨g7, 11, none⟩ = some (.int .i64 X.x3) := hA7.cell rfl
    have hf := hfr 11
    have hB7 : Arr (w4.setCell ⟨g7, 11, none⟩ (.int .i64 32768)) g7 (mv { X with x3 := 32768 }) := hA7.set 11 (.int .i64 32768)
    have hB6 := hA6.other (a := ⟨g7, 11, none⟩) hne (.int .i64 32768)
    have hwB := hw4.setCell (p := ⟨g7, 11, none⟩) hge7 (.int .i64 32768)
    have hY := no_x3 X
    obtain ⟨Y, hB, hYn⟩ : ∃ Y, Arr _ g7 (mv Y) ∧ okM Y = false := ⟨_, hB7, hY⟩
    clear hB7 hY hA7 hA6 hw4 hfr
    go_wp2_with (guard_target =~ wpList _ _ _ (Oper.mk _ (Op.load 24 _) _ _ _ _ :: _) _ _; refine wpList_load_arr 12 rfl rfl rfl hB (by kernel_rfl) rfl ?_)
    refine (H.put Y _).mono ?_
    rintro e w5 ⟨v5, rfl, ho5, hb5⟩
    rw [(code_no hYn).2] at ho5
    rw [(code_no hYn).1]
    obtain ⟨A5, c5, rfl, -⟩ := ho5.seen_at (k := 0) rfl
    have hA5 := hB6.since hb5
    have hw5 := hwB.trans (hb5.mono hwB.size)
    have hz5 := new_zm w5 24
    have hlt5 := hA5.lt
    have hge5 := hw5.size
    clear hB hB6 hwB hb5 ho5 hc hf
    go_wp2_with (first
      | (guard_target =~ wpList _ _ _ (Oper.mk _ (Op.load 24 _) _ _ _ _ :: _) _ _; refine wpList_load_arr 12 rfl rfl rfl hA5 (by kernel_rfl) rfl ?_)
      | (guard_target =~ wpList _ _ _ (Oper.mk _ (Op.store 24 _ _) _ _ _ _ :: _) _ _; refine wpList_store_arr (cs' := mv X) 12 rfl rfl rfl rfl hz5 (by kernel_rfl) rfl rfl (mv_one _) ?_))
    intro w6 hA10 ho6 hb6 hs6
    have hA6 := (hA5.alloc (.cells #[.int .i64 0, .int .i64 0, .int .i64 0, .int .i64 0, .int .i64 0, .int .i64 0, .int .i64 0, .bool false, .int .i64 0, .int .i64 0, .int .i64 0, .int .i64 0] 24)).of_block (ho6 _ (by omega))
    have hw6 := (hw5.alloc hw5.size (.cells #[.int .i64 0, .int .i64 0, .int .i64 0, .int .i64 0, .int .i64 0, .int .i64 0, .int .i64 0, .bool false, .int .i64 0, .int .i64 0, .int .i64 0, .int .i64 0] 24)).trans (hb6.mono hw5.size)
    clear hA5 hw5 hz5 ho6 hb6 hs6 hlt5
    generalize w5.heap.size = g10 at hA10 hge5 ⊢
    have c0 : w6.cell? ⟨g6, 0, none⟩ = some (.int .i64 X.kind) := hA6.cell rfl
    have three : ((X.kind == 1) = true ∧ (X.kind = 1 ∨ X.kind = 2)) ∨ ((X.kind == 1) = false ∧ (X.kind == 2) = true ∧ (X.kind = 1 ∨ X.kind = 2)) ∨ ((X.kind == 1) = false ∧ (X.kind == 2) = false ∧ ¬ (X.kind = 1 ∨ X.kind = 2)) := by
      by_cases h1 : X.kind = 1
      · exact .inl ⟨beq_iff_eq.2 h1, .inl h1⟩
      · by_cases h2 : X.kind = 2
        · exact .inr (.inl ⟨beq_eq_false_iff_ne.2 h1, beq_iff_eq.2 h2, .inr h2⟩)
        · exact .inr (.inr ⟨beq_eq_false_iff_ne.2 h1, beq_eq_false_iff_ne.2 h2, fun h => h.elim h1 h2⟩)
    clear hA6
    rcases three with ⟨t1, hk⟩ | ⟨t1, t2, hk⟩ | ⟨t1, t2, hk⟩
    · have hcz : w6.cell? ⟨g10, 1, none⟩ = some (.int .i64 X.seq) := hA10.cell rfl
      have hfz := hA10.frozen 1
      have hZ : Arr (w6.setCell ⟨g10, 1, none⟩ (.int .i64 1)) g10 (mv { X with seq := 1 }) := hA10.set 1 (.int .i64 1)
      have hzn := no_own X hk
      have hwZ := hw6.setCell (p := ⟨g10, 1, none⟩) hge5 (.int .i64 1)
      obtain ⟨Z, hZ', hzn'⟩ : ∃ Z, Arr _ g10 (mv Z) ∧ okM Z = false := ⟨_, hZ, hzn⟩
      clear hA10 hZ hzn hk hw6
      go_wp2_with (guard_target =~ wpList _ _ _ (Oper.mk _ (Op.load 24 _) _ _ _ _ :: _) _ _; refine wpList_load_arr 12 rfl rfl rfl hZ' (by kernel_rfl) rfl ?_)
      refine (H.put Z _).mono ?_
      rintro e w7 ⟨v7, rfl, ho7, hb7⟩
      rw [(code_no hzn').2] at ho7
      rw [(code_no hzn').1]
      obtain ⟨A7, c7, rfl, -⟩ := ho7.seen_at (k := 0) rfl
      have hw7 := hwZ.trans (hb7.mono hwZ.size)
      clear hZ' hwZ hb7 ho7 hcz hfz c0
      go_wp2
      go_ret
      exact ⟨rfl, hw7⟩
    · have hcz : w6.cell? ⟨g10, 1, none⟩ = some (.int .i64 X.seq) := hA10.cell rfl
      have hfz := hA10.frozen 1
      have hZ : Arr (w6.setCell ⟨g10, 1, none⟩ (.int .i64 1)) g10 (mv { X with seq := 1 }) := hA10.set 1 (.int .i64 1)
      have hzn := no_own X hk
      have hwZ := hw6.setCell (p := ⟨g10, 1, none⟩) hge5 (.int .i64 1)
      obtain ⟨Z, hZ', hzn'⟩ : ∃ Z, Arr _ g10 (mv Z) ∧ okM Z = false := ⟨_, hZ, hzn⟩
      clear hA10 hZ hzn hk hw6
      go_wp2_with (guard_target =~ wpList _ _ _ (Oper.mk _ (Op.load 24 _) _ _ _ _ :: _) _ _; refine wpList_load_arr 12 rfl rfl rfl hZ' (by kernel_rfl) rfl ?_)
      refine (H.put Z _).mono ?_
      rintro e w7 ⟨v7, rfl, ho7, hb7⟩
      rw [(code_no hzn').2] at ho7
      rw [(code_no hzn').1]
      obtain ⟨A7, c7, rfl, -⟩ := ho7.seen_at (k := 0) rfl
      have hw7 := hwZ.trans (hb7.mono hwZ.size)
      clear hZ' hwZ hb7 ho7 hcz hfz c0
      go_wp2
      go_ret
      exact ⟨rfl, hw7⟩
    · have hcz : w6.cell? ⟨g10, 2, none⟩ = some (.int .i64 X.role) := hA10.cell rfl
      have hfz := hA10.frozen 2
      have hZ : Arr (w6.setCell ⟨g10, 2, none⟩ (.int .i64 1)) g10 (mv { X with role := 1 }) := hA10.set 2 (.int .i64 1)
      have hzn := no_other X hk
      have hwZ := hw6.setCell (p := ⟨g10, 2, none⟩) hge5 (.int .i64 1)
      obtain ⟨Z, hZ', hzn'⟩ : ∃ Z, Arr _ g10 (mv Z) ∧ okM Z = false := ⟨_, hZ, hzn⟩
      clear hA10 hZ hzn hk hw6
      go_wp2_with (guard_target =~ wpList _ _ _ (Oper.mk _ (Op.load 24 _) _ _ _ _ :: _) _ _; refine wpList_load_arr 12 rfl rfl rfl hZ' (by kernel_rfl) rfl ?_)
      refine (H.put Z _).mono ?_
      rintro e w7 ⟨v7, rfl, ho7, hb7⟩
      rw [(code_no hzn').2] at ho7
      rw [(code_no hzn').1]
      obtain ⟨A7, c7, rfl, -⟩ := ho7.seen_at (k := 0) rfl
      have hw7 := hwZ.trans (hb7.mono hwZ.size)
      clear hZ' hwZ hb7 ho7 hcz hfz c0
      go_wp2
      go_ret
      exact ⟨rfl, hw7⟩
end Go.Proofs.Ytmibgmcgicphoaa
