/-
  THE CONTRACTS OF msg's Put, PutReply; all four. (Written by program: wip/tools/gen_msg_proof.py.)
-/
import Derived.Test.YtmibgmcgicphoaaMsgCodeTake
import Derived.Test.YtmibgmcgicphoaaMsgCode
namespace Go.Proofs.Ytmibgmcgicphoaa.msg
open Go.RowKit Go.Proofs.Ytmibgmcgicphoaa.octets Go.Proofs.Ytmibgmcgicphoaa.pack
set_option linter.unusedVariables false
set_option linter.unusedSimpArgs false

theorem fdM_put (k : Int) (x : M) : ∀ d ∈ fdM k, (d.put x).length ≤ 8 := by
  have h1 := fun n (k : Nat) (hk : k ≤ 8) => Nat.le_trans (numB_le k n) hk
  have h2 := fun n => Nat.le_trans (axisB_le n) (show 2 ≤ 8 by decide)
  unfold fdM
  repeat' split
  all_goals
    intro d hd
    simp only [List.mem_cons, List.mem_append, List.not_mem_nil, or_false, or_assoc] at hd
    all_goals first
      | (rcases hd with rfl | rfl <;> first | exact h1 _ _ (by decide) | exact h2 _ | decide)
      | (rcases hd with rfl | rfl | rfl <;> first | exact h1 _ _ (by decide) | exact h2 _ | exact (show 1 ≤ 8 by decide))
      | (rcases hd with rfl | rfl | rfl | rfl <;> first | exact h1 _ _ (by decide) | exact h2 _)
      | (rcases hd with rfl | rfl | rfl | rfl | rfl | rfl | rfl | rfl <;> first | exact h1 _ _ (by decide) | exact h2 _)
theorem fdR_put (k : Int) (x : R) (h8 : x.nonce.length = 8) : ∀ d ∈ fdR k, (d.put x).length ≤ 8 := by
  have h1 := fun n (k : Nat) (hk : k ≤ 8) => Nat.le_trans (numB_le k n) hk
  have h2 : x.nonce.length ≤ 8 := by omega
  unfold fdR
  repeat' split
  all_goals
    intro d hd
    simp only [List.mem_cons, List.mem_append, List.not_mem_nil, or_false, or_assoc] at hd
    all_goals first
      | (rcases hd with rfl | rfl <;> first | exact h1 _ _ (by decide) | exact h2)
      | (rcases hd with rfl | rfl | rfl <;> first | exact h1 _ _ (by decide) | exact h2)
      | (rcases hd with rfl | rfl | rfl | rfl <;> first | exact h1 _ _ (by decide) | exact h2)
theorem got_okM {l : List UInt8} (h : codeT l = 0) : okM (gotM l) = true ∧ msgB (gotM l) = l := by
  unfold codeT at h
  cases ht : takeM l with
  | none => rw [ht] at h; simp at h
  | some z =>
    have : gotM l = z := by unfold gotM; rw [ht]; rfl
    rw [this]
    exact take_is ht
theorem got_okR {l : List UInt8} (h : codeTR l = 0) : okR (gotR l) = true ∧ replyB (gotR l) = l ∧ (gotR l).nonce.length = 8 := by
  unfold codeTR at h
  cases ht : takeR l with
  | none => rw [ht] at h; simp at h
  | some z =>
    have : gotR l = z := by unfold gotR; rw [ht]; rfl
    rw [this]
    exact takeR_is ht
theorem codeT_two (l : List UInt8) : codeT l = 0 ∨ codeT l = 13 := by unfold codeT; split <;> simp
theorem codeTR_two (l : List UInt8) : codeTR l = 0 ∨ codeTR l = 13 := by unfold codeTR; split <;> simp
theorem join_lenM (x : M) : (joinL (fdM x.kind) x).length ≤ 64 := by
  have h1 := joinL_le x (fdM x.kind) 8 (fdM_put _ _)
  have h2 := (fdM_pos x.kind).1
  omega
theorem join_lenR (x : R) (h8 : x.nonce.length = 8) : (joinL (fdR x.kind) x).length ≤ 64 := by
  have h1 := joinL_le x (fdR x.kind) 8 (fdR_put _ _ h8)
  have h2 := (fdR_pos x.kind).1
  omega
theorem own_parts {w : World} {base : Nat} {v : Value} {l : List UInt8} (h : Own w base v l) {n : Nat} (hn : l.length = n) : ∃ A c, v = .slice A n c ∧ n ≤ c ∧ Seen w A l := by
  rcases h.2 with ⟨rfl, h0⟩ | ⟨g, cap, cur, rfl, hg, hh, hnc, hm, hs, ht⟩
  · obtain ⟨A, c, e, hse⟩ := h.seen
    rw [hn] at h0
    subst h0
    exact ⟨none, 0, rfl, Nat.le_refl _, by rw [List.eq_nil_of_length_eq_zero hn]; exact Seen.none_ _ _⟩
  · obtain ⟨A, c, e, hse⟩ := h.seen
    injection e with e1 e2 e3
    subst e1
    exact ⟨_, cap, by rw [hn], by omega, hse⟩
/-- what Put tells hangs on what its own bytes say -/
theorem put_no {x : M} {l : List UInt8} (hl : l = joinL (fdM x.kind) x) (h : codeT l = 13 ∨ gotM l ≠ x) : okM x = false := by
  cases hx : okM x with
  | false => rfl
  | true =>
    rw [join_msg hx] at hl
    subst hl
    have g := got_ok hx
    rcases h with h | h
    · rw [g.1] at h; cases h
    · exact absurd g.2 h
theorem put_noR {x : R} (h8 : x.nonce.length = 8) {l : List UInt8} (hl : l = joinL (fdR x.kind) x) (h : codeTR l = 13 ∨ gotR l ≠ x) : okR x = false := by
  cases hx : okR x with
  | false => rfl
  | true =>
    rw [join_reply hx] at hl
    subst hl
    have g := gotR_ok hx h8
    rcases h with h | h
    · rw [g.1] at h; cases h
    · exact absurd g.2 h
set_option maxRecDepth 100000 in
set_option maxHeartbeats 2000000 in
theorem codePut_ok (x : M) (w : World) : Calls Try.prog 11 #[.agg (mv x).toArray] w fun e w' => ∃ v, e = .returned (.tuple #[v, .int .i64 (codeM x)]) ∧ Own w' w.heap.size v (bytesM x) ∧ Below w.heap.size w w' := by
  have hA1 := Arr.new w (mv x) 24
  have hw1 : Below w.heap.size w (w.alloc (.cells (mv x).toArray 24)) := (Below.refl _ _).alloc (Nat.le_refl _) _
  have hfl := Lib.hid (fields_msg x w.heap.size _ hA1)
  have hpos := Lib.hid (fdM_pos x.kind)
  have hjl := join_lenM x
  obtain ⟨L, hL⟩ : ∃ L, L = joinL (fdM x.kind) x := ⟨_, rfl⟩
  have hno := fun h => put_no hL h
  obtain ⟨Y, hY⟩ : ∃ Y, gotM L = Y := ⟨_, rfl⟩
  have hyes := fun h => got_okM (l := L) h
  rw [hY] at hno hyes
  have hct := codeT_two L
  obtain ⟨ct, hcte⟩ : ∃ ct, codeT L = ct := ⟨_, rfl⟩
  rw [hcte] at hno hyes hct
  rw [← hL] at hjl
  obtain ⟨n, hn⟩ : ∃ n, L.length = n := ⟨_, rfl⟩
  rw [hn] at hjl
  have hneq := neq_msg Y x
  have hlx : (mv x).length = 12 := rfl
  have hlY : (mv Y).length = 12 := rfl
  replace hlx := Lib.hid hlx
  replace hlY := Lib.hid hlY
  replace hn := Lib.hid hn
  replace hY : Unit → gotM L = Y := fun _ => hY
  replace hcte : Unit → codeT L = ct := fun _ => hcte
  replace hL : Unit → L = joinL (fdM x.kind) x := fun _ => hL
  replace hno : Unit → _ := fun _ => hno
  replace hyes : Unit → _ := fun _ => hyes
  go_enter Try.func11, Try.ntmps11
  go_wp2_with fail
  refine hfl.out.mono ?_
  rintro e w2 ⟨v2, rfl, hO, hb2⟩
  have hA2 := hA1.since hb2
  have hw2 := hw1.trans (hb2.mono hw1.size)
  have hlt := fun x e => hO.lt (k := x) e
  obtain ⟨A3, c3, rfl, hc3, ha3, hS3⟩ := hO.src
  clear hO hfl hlt ha3 hc3
  obtain ⟨m, hm⟩ : ∃ m, (fdM x.kind).length = m := ⟨_, rfl⟩
  have hj := Lib.hid (join_ok (fdM x.kind) x trivial _ m c3 _ A3 w2 hm (by have := hpos.out.1; omega) (by rw [← hL (), hn.out]; omega) hS3 hA2)
  rw [hm]
  rw [← hL ()] at hj
  clear hS3 hpos hm
  go_wp2_with fail
  (with_reducible refine hj.out.mono ?_)
  rintro e w3 ⟨v3, rfl, ho3, hb3⟩
  have hA3 := hA2.since hb3
  have hw3 := hw2.trans (hb3.mono hw2.size)
  replace ho3 := ho3.mono hw2.size
  obtain ⟨A4, c4, rfl, hc4, hs4⟩ := own_parts ho3 hn.out
  clear hj hA1 hA2 hw1 hw2 hb2 hb3
  go_wp2_with fail
  refine (codeTake_ok A4 n c4 L _ hn.out hc4 (by omega) hs4).mono ?_
  rintro e w4 ⟨rfl, hb4⟩
  rw [hY (), hcte ()]
  have hA4 := hA3.since hb4
  have hw4 := hw3.trans (hb4.mono hw3.size)
  have ho4 := ho3.since hb4
  have hR4 := Arr.new_at w4 (mv zM) #[.int .i64 0, .int .i64 0, .int .i64 0, .int .i64 0, .int .i64 0, .int .i64 0, .int .i64 0, .bool false, .int .i64 0, .int .i64 0, .int .i64 0, .int .i64 0] 24 rfl
  have hlt4 := hA4.lt
  clear hs4 hA3 hw3 hb4 ho3
  go_wp2_with (guard_target =~ wpList _ _ _ (Oper.mk _ (Op.store 24 _ _) _ _ _ _ :: _) _ _; refine wpList_store_arr (cs' := mv Y) 12 rfl rfl rfl rfl hR4 (by kernel_rfl) rfl hlY.out (mv_one _) ?_)
  intro w5 hR5 ho5 hb5 hs5
  have hA5 := (hA4.alloc (.cells #[.int .i64 0, .int .i64 0, .int .i64 0, .int .i64 0, .int .i64 0, .int .i64 0, .int .i64 0, .bool false, .int .i64 0, .int .i64 0, .int .i64 0, .int .i64 0] 24)).of_block (ho5 _ (by omega))
  have hw5 := (hw4.alloc hw4.size (.cells #[.int .i64 0, .int .i64 0, .int .i64 0, .int .i64 0, .int .i64 0, .int .i64 0, .int .i64 0, .bool false, .int .i64 0, .int .i64 0, .int .i64 0, .int .i64 0] 24)).trans (hb5.mono hw4.size)
  have hO5 : Own w5 w.heap.size _ _ := (ho4.alloc (.cells #[.int .i64 0, .int .i64 0, .int .i64 0, .int .i64 0, .int .i64 0, .int .i64 0, .int .i64 0, .bool false, .int .i64 0, .int .i64 0, .int .i64 0, .int .i64 0] 24)).of_block fun k e => ho5 k (by have := (ho4.lt e).2; omega)
  clear hR4 hA4 hw4 ho4 ho5 hb5 hs5
  rcases hct with rfl | rfl
  · obtain ⟨b, hb⟩ : ∃ b, decide (Y = x) = b := ⟨_, rfl⟩
    rw [hb] at hneq
    cases b with
    | true =>
      have hYx : Y = x := of_decide_eq_true hb
      have hk := hyes () rfl
      rw [hYx] at hk
      have e1 : Unit → codeM x = 0 := fun _ => by unfold codeM; rw [if_pos hk.1]
      have e2 : Unit → bytesM x = L := fun _ => by unfold bytesM; rw [if_pos hk.1, hk.2]
      clear hk hYx hb hyes hno
      go_wp2_with (first
        | (guard_target =~ wpList _ _ _ (Oper.mk _ (Op.load 24 (Operand.tmp 5)) _ _ _ _ :: _) _ _; refine wpList_load_arr_any 12 rfl rfl rfl hR5 (by kernel_rfl) hlY.out ?_)
        | (guard_target =~ wpList _ _ _ (Oper.mk _ (Op.load 24 (Operand.tmp 1)) _ _ _ _ :: _) _ _; refine wpList_load_arr_any 12 rfl rfl rfl hA5 (by kernel_rfl) hlx.out ?_))
      go_ret2
      exact ⟨_, by rw [e1 ()]; rfl, by rw [e2 ()]; exact hO5, hw5⟩
    | false =>
      have hYx : Y ≠ x := of_decide_eq_false hb
      have hf := hno () (Or.inr hYx)
      have e1 : Unit → codeM x = 1 := fun _ => by unfold codeM; rw [if_neg (by simp [hf])]
      have e2 : Unit → bytesM x = [] := fun _ => by unfold bytesM; rw [if_neg (by simp [hf])]
      clear hf hYx hb hyes hno
      go_wp2_with (first
        | (guard_target =~ wpList _ _ _ (Oper.mk _ (Op.load 24 (Operand.tmp 5)) _ _ _ _ :: _) _ _; refine wpList_load_arr_any 12 rfl rfl rfl hR5 (by kernel_rfl) hlY.out ?_)
        | (guard_target =~ wpList _ _ _ (Oper.mk _ (Op.load 24 (Operand.tmp 1)) _ _ _ _ :: _) _ _; refine wpList_load_arr_any 12 rfl rfl rfl hA5 (by kernel_rfl) hlx.out ?_))
      go_ret2
      exact ⟨_, by rw [e1 ()]; rfl, by rw [e2 ()]; exact Own.none_ _ _, hw5⟩
  · have hf := hno () (Or.inl rfl)
    have e1 : Unit → codeM x = 1 := fun _ => by unfold codeM; rw [if_neg (by simp [hf])]
    have e2 : Unit → bytesM x = [] := fun _ => by unfold bytesM; rw [if_neg (by simp [hf])]
    clear hf hyes hno
    go_wp2
    go_ret2
    exact ⟨_, by rw [e1 ()]; rfl, by rw [e2 ()]; exact Own.none_ _ _, hw5⟩
set_option maxRecDepth 100000 in
set_option maxHeartbeats 2000000 in
theorem codePutReply_ok (x : R) (h8 : x.nonce.length = 8) (w : World) : Calls Try.prog 15 #[.agg (rv x).toArray] w fun e w' => ∃ v, e = .returned (.tuple #[v, .int .i64 (codeR x)]) ∧ Own w' w.heap.size v (bytesR x) ∧ Below w.heap.size w w' := by
  have hA1 := Arr.new w (rv x) 28
  have hw1 : Below w.heap.size w (w.alloc (.cells (rv x).toArray 28)) := (Below.refl _ _).alloc (Nat.le_refl _) _
  have hfl := Lib.hid (fields_reply x w.heap.size _ hA1)
  have hpos := Lib.hid (fdR_pos x.kind)
  have hjl := join_lenR x h8
  obtain ⟨L, hL⟩ : ∃ L, L = joinL (fdR x.kind) x := ⟨_, rfl⟩
  have hno := fun h => put_noR h8 hL h
  obtain ⟨Y, hY⟩ : ∃ Y, gotR L = Y := ⟨_, rfl⟩
  have hyes := fun h => got_okR (l := L) h
  have hY8 : Y.nonce.length = 8 := by rw [← hY]; exact gotR_eight _
  rw [hY] at hno hyes
  have hct := codeTR_two L
  obtain ⟨ct, hcte⟩ : ∃ ct, codeTR L = ct := ⟨_, rfl⟩
  rw [hcte] at hno hyes hct
  rw [← hL] at hjl
  obtain ⟨n, hn⟩ : ∃ n, L.length = n := ⟨_, rfl⟩
  rw [hn] at hjl
  have hneq := neq_reply Y x hY8 h8
  have hlx : (rv x).length = 14 := (rv_len x h8)
  have hlY : (rv Y).length = 14 := (rv_len Y hY8)
  replace hlx := Lib.hid hlx
  replace hlY := Lib.hid hlY
  replace hn := Lib.hid hn
  replace hY : Unit → gotR L = Y := fun _ => hY
  replace hcte : Unit → codeTR L = ct := fun _ => hcte
  replace hL : Unit → L = joinL (fdR x.kind) x := fun _ => hL
  replace hno : Unit → _ := fun _ => hno
  replace hyes : Unit → _ := fun _ => hyes
  go_enter Try.func15, Try.ntmps15
  go_wp2_with fail
  refine hfl.out.mono ?_
  rintro e w2 ⟨v2, rfl, hO, hb2⟩
  have hA2 := hA1.since hb2
  have hw2 := hw1.trans (hb2.mono hw1.size)
  have hlt := fun x e => hO.lt (k := x) e
  obtain ⟨A3, c3, rfl, hc3, ha3, hS3⟩ := hO.src
  clear hO hfl hlt ha3 hc3
  obtain ⟨m, hm⟩ : ∃ m, (fdR x.kind).length = m := ⟨_, rfl⟩
  have hj := Lib.hid (join_ok (fdR x.kind) x h8 _ m c3 _ A3 w2 hm (by have := hpos.out.1; omega) (by rw [← hL (), hn.out]; omega) hS3 hA2)
  rw [hm]
  rw [← hL ()] at hj
  clear hS3 hpos hm
  go_wp2_with fail
  (with_reducible refine hj.out.mono ?_)
  rintro e w3 ⟨v3, rfl, ho3, hb3⟩
  have hA3 := hA2.since hb3
  have hw3 := hw2.trans (hb3.mono hw2.size)
  replace ho3 := ho3.mono hw2.size
  obtain ⟨A4, c4, rfl, hc4, hs4⟩ := own_parts ho3 hn.out
  clear hj hA1 hA2 hw1 hw2 hb2 hb3
  go_wp2_with fail
  refine (codeTakeReply_ok A4 n c4 L _ hn.out hc4 (by omega) hs4).mono ?_
  rintro e w4 ⟨rfl, hb4⟩
  rw [hY (), hcte ()]
  have hA4 := hA3.since hb4
  have hw4 := hw3.trans (hb4.mono hw3.size)
  have ho4 := ho3.since hb4
  have hR4 := Arr.new_at w4 (rv zR) #[.int .i64 0, .int .i64 0, .int .i64 0, .int .i64 0, .int .i64 0, .int .i64 0, .int .u8 0, .int .u8 0, .int .u8 0, .int .u8 0, .int .u8 0, .int .u8 0, .int .u8 0, .int .u8 0] 28 rfl
  have hlt4 := hA4.lt
  clear hs4 hA3 hw3 hb4 ho3
  go_wp2_with (guard_target =~ wpList _ _ _ (Oper.mk _ (Op.store 28 _ _) _ _ _ _ :: _) _ _; refine wpList_store_arr (cs' := rv Y) 14 rfl rfl rfl rfl hR4 (by kernel_rfl) rfl hlY.out (rv_one _) ?_)
  intro w5 hR5 ho5 hb5 hs5
  have hA5 := (hA4.alloc (.cells #[.int .i64 0, .int .i64 0, .int .i64 0, .int .i64 0, .int .i64 0, .int .i64 0, .int .u8 0, .int .u8 0, .int .u8 0, .int .u8 0, .int .u8 0, .int .u8 0, .int .u8 0, .int .u8 0] 28)).of_block (ho5 _ (by omega))
  have hw5 := (hw4.alloc hw4.size (.cells #[.int .i64 0, .int .i64 0, .int .i64 0, .int .i64 0, .int .i64 0, .int .i64 0, .int .u8 0, .int .u8 0, .int .u8 0, .int .u8 0, .int .u8 0, .int .u8 0, .int .u8 0, .int .u8 0] 28)).trans (hb5.mono hw4.size)
  have hO5 : Own w5 w.heap.size _ _ := (ho4.alloc (.cells #[.int .i64 0, .int .i64 0, .int .i64 0, .int .i64 0, .int .i64 0, .int .i64 0, .int .u8 0, .int .u8 0, .int .u8 0, .int .u8 0, .int .u8 0, .int .u8 0, .int .u8 0, .int .u8 0] 28)).of_block fun k e => ho5 k (by have := (ho4.lt e).2; omega)
  clear hR4 hA4 hw4 ho4 ho5 hb5 hs5
  rcases hct with rfl | rfl
  · obtain ⟨b, hb⟩ : ∃ b, decide (Y = x) = b := ⟨_, rfl⟩
    rw [hb] at hneq
    cases b with
    | true =>
      have hYx : Y = x := of_decide_eq_true hb
      have hk := hyes () rfl
      rw [hYx] at hk
      have e1 : Unit → codeR x = 0 := fun _ => by unfold codeR; rw [if_pos hk.1]
      have e2 : Unit → bytesR x = L := fun _ => by unfold bytesR; rw [if_pos hk.1, hk.2.1]
      clear hk hYx hb hyes hno
      go_wp2_with (first
        | (guard_target =~ wpList _ _ _ (Oper.mk _ (Op.load 28 (Operand.tmp 5)) _ _ _ _ :: _) _ _; refine wpList_load_arr_any 14 rfl rfl rfl hR5 (by kernel_rfl) hlY.out ?_)
        | (guard_target =~ wpList _ _ _ (Oper.mk _ (Op.load 28 (Operand.tmp 1)) _ _ _ _ :: _) _ _; refine wpList_load_arr_any 14 rfl rfl rfl hA5 (by kernel_rfl) hlx.out ?_))
      go_ret2
      exact ⟨_, by rw [e1 ()]; rfl, by rw [e2 ()]; exact hO5, hw5⟩
    | false =>
      have hYx : Y ≠ x := of_decide_eq_false hb
      have hf := hno () (Or.inr hYx)
      have e1 : Unit → codeR x = 1 := fun _ => by unfold codeR; rw [if_neg (by simp [hf])]
      have e2 : Unit → bytesR x = [] := fun _ => by unfold bytesR; rw [if_neg (by simp [hf])]
      clear hf hYx hb hyes hno
      go_wp2_with (first
        | (guard_target =~ wpList _ _ _ (Oper.mk _ (Op.load 28 (Operand.tmp 5)) _ _ _ _ :: _) _ _; refine wpList_load_arr_any 14 rfl rfl rfl hR5 (by kernel_rfl) hlY.out ?_)
        | (guard_target =~ wpList _ _ _ (Oper.mk _ (Op.load 28 (Operand.tmp 1)) _ _ _ _ :: _) _ _; refine wpList_load_arr_any 14 rfl rfl rfl hA5 (by kernel_rfl) hlx.out ?_))
      go_ret2
      exact ⟨_, by rw [e1 ()]; rfl, by rw [e2 ()]; exact Own.none_ _ _, hw5⟩
  · have hf := hno () (Or.inl rfl)
    have e1 : Unit → codeR x = 1 := fun _ => by unfold codeR; rw [if_neg (by simp [hf])]
    have e2 : Unit → bytesR x = [] := fun _ => by unfold bytesR; rw [if_neg (by simp [hf])]
    clear hf hyes hno
    go_wp2
    go_ret2
    exact ⟨_, by rw [e1 ()]; rfl, by rw [e2 ()]; exact Own.none_ _ _, hw5⟩
theorem codeOk : CodeOk where
  put := codePut_ok
  take := fun A n c l w hl hc hn hs => codeTake_ok A n c l w hl hc hn hs
  putReply := fun r w h8 => codePutReply_ok r h8 w
  takeReply := fun A n c l w hl hc hn hs => codeTakeReply_ok A n c l w hl hc hn hs
end Go.Proofs.Ytmibgmcgicphoaa.msg
