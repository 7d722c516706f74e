/-
  THE WALK OF MsgCuts.
-/
import Derived.Test.YtmibgmcgicphoaaMsgShown
import Derived.Test.YtmibgmcgicphoaaMsgFitR
namespace Go.Proofs.Ytmibgmcgicphoaa
open Go.RowKit Go.Proofs.Ytmibgmcgicphoaa.octets Go.Proofs.Ytmibgmcgicphoaa.given Go.Proofs.Ytmibgmcgicphoaa.msg
set_option linter.unusedVariables false
set_option linter.unusedSimpArgs false

set_option maxRecDepth 100000 in
set_option maxHeartbeats 2000000 in
theorem msgCuts_of (H : CodeOk) (v v1 : Value) (a2 : Int) (w : World) {base : Nat} (h0 : Value.okWide Try.prog w .any base 24 v) (h1 : Value.okWide Try.prog w .any base 28 v1) (w2 : (Lit.int .u8 a2).wf = true) :
    Calls Try.prog 8 #[v, v1, .int .u8 a2] w fun e w' => e = .returned (.bool true) ∧ Below w.heap.size w w' := by
  obtain ⟨m, rfl⟩ := msg_came h0
  obtain ⟨r, rfl, h8⟩ := reply_came h1
  have ha2 : 0 ≤ a2 ∧ a2 ≤ 255 := by simpa [Lit.wf, IntKind.min, IntKind.max, IntKind.signed, IntKind.bits] using w2
  obtain ⟨n, rfl⟩ : ∃ n : Nat, a2 = n := ⟨a2.toNat, by omega⟩
  have hn : n ≤ 255 := by omega
  clear h0 h1 w2 ha2
  have hx := fit_ok m
  have hy := fitR_ok r
  have hy8 := fitR_eight r h8
  have hlx := msgB_len (m := fitM m)
  have hly := replyB_len hy hy8
  have hsx := sizeM_le (fitM m).kind
  have hsy := sizeR_le (fitR r).kind
  rw [← hlx] at hsx
  rw [← hly] at hsy
  obtain ⟨n1, hn1⟩ : ∃ n, (msgB (fitM m)).length = n := ⟨_, rfl⟩
  obtain ⟨n2, hn2⟩ : ∃ n, (replyB (fitR r)).length = n := ⟨_, rfl⟩
  rw [hn1] at hsx
  rw [hn2] at hsy
  have c1 := got_no (msg_cut hx (n % n1) (by rw [hn1]; exact Nat.mod_lt _ (by omega)))
  have c2 := gotR_no (reply_cut hy hy8 (n % n2) (by rw [hn2]; exact Nat.mod_lt _ (by omega)))
  obtain ⟨k1, hk1⟩ : ∃ k, n % n1 = k := ⟨_, rfl⟩
  obtain ⟨k2, hk2⟩ : ∃ k, n % n2 = k := ⟨_, rfl⟩
  have lk1 : k1 < n1 := by rw [← hk1]; exact Nat.mod_lt _ (by omega)
  have lk2 : k2 < n2 := by rw [← hk2]; exact Nat.mod_lt _ (by omega)
  have e1 : (n : Int) % (n1 : Int) = (k1 : Int) := by rw [← hk1]; exact (Int.natCast_emod n n1).symm
  have e2 : (n : Int) % (n2 : Int) = (k2 : Int) := by rw [← hk2]; exact (Int.natCast_emod n n2).symm
  rw [hk1] at c1
  rw [hk2] at c2
  have p1 := fun W => H.put_at (fitM m) W hx
  have p2 := fun W => H.putReply_at (fitR r) W hy hy8
  have q1 := fun W => fitM_ok m W
  have q2 := fun W => fitR_is r h8 W
  have hA0 := (Arr.new w (mv m) 24).alloc (.cells (rv r).toArray 28)
  have hB0 := Arr.new (w.alloc (.cells (mv m).toArray 24)) (rv r) 28
  have hw0 := (below_one w (.cells (mv m).toArray 24)).alloc (by simp) (.cells (rv r).toArray 28)
  rw [World.size_alloc] at hB0
  have hrl := rv_len r h8
  replace hrl := Lib.hid hrl
  replace c1 := Lib.hid c1
  replace c2 := Lib.hid c2
  replace hn1 := Lib.hid hn1
  replace hn2 := Lib.hid hn2
  clear hx hy hlx hly hk1 hk2 hy8 h8
  go_enter Try.func8, Try.ntmps8
  try dsimp only [List.append]
  go_wp2_with fail
  generalize (w.alloc (.cells (mv m).toArray 24)).alloc (.cells (rv r).toArray 28) = W0 at hA0 hB0 hw0 ⊢
  refine (shown_any H _).mono ?_
  rintro e w1 ⟨rfl, hb1⟩
  have hA1 := hA0.since hb1
  have hB1 := hB0.since hb1
  have hw1 := hw0.trans (hb1.mono hw0.size)
  clear hA0 hB0 hw0 hb1
  generalize w.heap.size + 1 = gB at hB1 ⊢
  go_wp2_with (guard_target =~ wpList _ _ _ (Oper.mk _ (Op.load _ _) _ _ _ _ :: _) _ _; refine wpList_load_arr 12 rfl rfl rfl hA1 (by kernel_rfl) rfl ?_)
  refine (q1 _).mono ?_
  rintro e w2 ⟨rfl, hb2⟩
  have hB2 := hB1.since hb2
  have hw2 := hw1.trans (hb2.mono hw1.size)
  clear hA1 hB1 hw1 hb2
  go_wp2_with fail
  refine (p1 _).mono ?_
  rintro e w3 ⟨b, c, rfl, -, hh3, hb3⟩
  rw [hn1.out]
  have hB3 := hB2.since hb3
  have hw3 := hw2.trans (hb3.mono hw2.size)
  have hc3 : n1 ≤ c := by have := hh3.1; rw [hn1.out] at this; exact this
  clear hB2 hw2 hb3
  go_wp2_with (guard_target =~ wpList _ _ _ (Oper.mk _ (Op.load _ _) _ _ _ _ :: _) _ _; refine wpList_load_arr 14 rfl rfl rfl hB3 (by kernel_rfl) hrl.out ?_)
  refine (q2 _).mono ?_
  rintro e w4 ⟨rfl, hb4⟩
  have hh4 := hh3.since hb4
  have hw4 := hw3.trans (hb4.mono hw3.size)
  clear hB3 hw3 hb4 hh3
  go_wp2_with fail
  refine (p2 _).mono ?_
  rintro e w5 ⟨d, f, rfl, -, hk5, hb5⟩
  rw [hn2.out]
  have hh5 := hh4.since hb5
  have hw5 := hw4.trans (hb5.mono hw4.size)
  have hc5 : n2 ≤ f := by have := hk5.1; rw [hn2.out] at this; exact this
  have s1 := slice_h (some ⟨b, 0, none⟩) n1 c k1 (by omega)
  have s2 := slice_h (some ⟨d, 0, none⟩) n2 f k2 (by omega)
  have u1 := hh5.seen.take k1
  have u2 := hk5.seen.take k2
  have g1 : ((n1 : Int) == 0) = false := by rw [beq_eq_false_iff_ne]; omega
  have g2 : ((n2 : Int) == 0) = false := by rw [beq_eq_false_iff_ne]; omega
  have g3 : ¬ (n1 : Int) = 0 := by omega
  have g4 : ¬ (n2 : Int) = 0 := by omega
  clear hh4 hw4 hb5 hh5 hk5 p1 p2 q1 q2
  go_wp2_with fail
  refine (H.take _ k1 c _ _ (by rw [List.length_take, hn1.out]; omega) (by omega) (by omega) u1).mono ?_
  rintro e w6 ⟨rfl, hb6⟩
  rw [c1.out.1, c1.out.2]
  have u6 := u2.since hb6
  have hw6 := hw5.trans (hb6.mono hw5.size)
  have e0 : (mv zM).toArray = #[.int .i64 0, .int .i64 0, .int .i64 0, .int .i64 0, .int .i64 0, .int .i64 0, .int .i64 0, .bool false, .int .i64 0, .int .i64 0, .int .i64 0, .int .i64 0] := rfl
  rw [e0]
  clear e0 u1 u2 hw5 hb6
  have hA7 := new_zm w6 24
  have u7 := u6.alloc (.cells #[.int .i64 0, .int .i64 0, .int .i64 0, .int .i64 0, .int .i64 0, .int .i64 0, .int .i64 0, .bool false, .int .i64 0, .int .i64 0, .int .i64 0, .int .i64 0] 24)
  have hw7 := hw6.alloc hw6.size (.cells #[.int .i64 0, .int .i64 0, .int .i64 0, .int .i64 0, .int .i64 0, .int .i64 0, .int .i64 0, .bool false, .int .i64 0, .int .i64 0, .int .i64 0, .int .i64 0] 24)
  go_wp2_with fail
  refine (H.takeReply _ k2 f _ _ (by rw [List.length_take, hn2.out]; omega) (by omega) (by omega) u7).mono ?_
  rintro e w8 ⟨rfl, hb8⟩
  rw [c2.out.1, c2.out.2]
  have hA8 := hA7.since hb8
  have hw8 := hw7.trans (hb8.mono hw7.size)
  have e0 : (rv zR).toArray = #[.int .i64 0, .int .i64 0, .int .i64 0, .int .i64 0, .int .i64 0, .int .i64 0, .int .u8 0, .int .u8 0, .int .u8 0, .int .u8 0, .int .u8 0, .int .u8 0, .int .u8 0, .int .u8 0] := rfl
  rw [e0]
  have hAr := hA8.alloc (.cells #[.int .i64 0, .int .i64 0, .int .i64 0, .int .i64 0, .int .i64 0, .int .i64 0, .int .u8 0, .int .u8 0, .int .u8 0, .int .u8 0, .int .u8 0, .int .u8 0, .int .u8 0, .int .u8 0] 28)
  have hwr := hw8.alloc hw8.size (.cells #[.int .i64 0, .int .i64 0, .int .i64 0, .int .i64 0, .int .i64 0, .int .i64 0, .int .u8 0, .int .u8 0, .int .u8 0, .int .u8 0, .int .u8 0, .int .u8 0, .int .u8 0, .int .u8 0] 28)
  have z1 : ∀ W, (binOp .eql 24 (.agg (mv zM).toArray) (.agg #[.int .i64 0, .int .i64 0, .int .i64 0, .int .i64 0, .int .i64 0, .int .i64 0, .int .i64 0, .bool false, .int .i64 0, .int .i64 0, .int .i64 0, .int .i64 0])).run Try.prog W = .ok (.bool true) W := fun W => by
    have := eql_msg zM zM W
    rw [decide_eq_true rfl] at this
    exact this
  have z2 := same_z8
  clear e0 u6 u7 hw6 hw7 hb8 hA7 hA8 hw8
  go_wp2_with (guard_target =~ wpList _ _ _ (Oper.mk _ (Op.load 24 _) _ _ _ _ :: _) _ _; refine wpList_load_arr_any 12 rfl rfl rfl hAr (by kernel_rfl) rfl ?_)
  go_wp2
  go_ret
  exact ⟨rfl, hwr⟩
end Go.Proofs.Ytmibgmcgicphoaa
