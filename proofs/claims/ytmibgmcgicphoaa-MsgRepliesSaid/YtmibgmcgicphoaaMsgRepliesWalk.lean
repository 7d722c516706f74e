/-
  THE WALK OF MsgReplies. (Written by program: wip/tools/gen_msg_replies.py.)
-/
import Derived.Test.YtmibgmcgicphoaaMsgShown
import Derived.Test.YtmibgmcgicphoaaMsgFitR
namespace Go.Proofs.Ytmibgmcgicphoaa
open Go.RowKit Go.Proofs.Ytmibgmcgicphoaa.octets Go.Proofs.Ytmibgmcgicphoaa.given Go.Proofs.Ytmibgmcgicphoaa.msg
set_option linter.unusedVariables false
set_option linter.unusedSimpArgs false

set_option maxRecDepth 100000 in
set_option maxHeartbeats 8000000 in
theorem msgReplies_of (H : CodeOk) (v v1 v2 : Value) (w : World) {base : Nat} (h0 : Value.okWide Try.prog w .any base 28 v) (h1 : Value.okWide Try.prog w .any base 28 v1) (h2 : Value.okWide Try.prog w .any base 24 v2) :
    Calls Try.prog 5 #[v, v1, v2] w fun e w' => e = .returned (.bool true) ∧ Below w.heap.size w w' := by
  obtain ⟨r, rfl, r8⟩ := reply_came h0
  obtain ⟨r', rfl, r8'⟩ := reply_came h1
  obtain ⟨m, rfl⟩ := msg_came h2
  clear h0 h1 h2
  have hx := fitR_ok r
  have hy := fitR_ok r'
  have hm := fit_ok m
  have x8 := fitR_eight r r8
  have y8 := fitR_eight r' r8'
  have q1 := fun W => fitR_is r r8 W
  have q2 := fun W => fitR_is r' r8' W
  have q3 := fun W => fitM_ok m W
  generalize fitR r = X at hx x8 q1
  generalize fitR r' = Y at hy y8 q2
  generalize fitM m = O at hm q3
  have hlx := replyB_len hx x8
  have hly := replyB_len hy y8
  have hlo := msgB_len (m := O)
  have hsx := sizeR_le X.kind
  have hsy := sizeR_le Y.kind
  have hso := sizeM_le O.kind
  obtain ⟨n1, hn1⟩ : ∃ n, (replyB X).length = n := ⟨_, rfl⟩
  obtain ⟨n2, hn2⟩ : ∃ n, (replyB Y).length = n := ⟨_, rfl⟩
  obtain ⟨n3, hn3⟩ : ∃ n, (msgB O).length = n := ⟨_, rfl⟩
  rw [hn1] at hlx
  rw [hn2] at hly
  rw [hn3] at hlo
  rw [← hlx] at hsx
  rw [← hly] at hsy
  rw [← hlo] at hso
  have hinj : replyB X = replyB Y ↔ X = Y := ⟨fun h => reply_inj hx hy x8 y8 h, fun h => by rw [h]⟩
  have g1 := gotR_ok hx x8
  have g2 := gotR_no (reply_none hm)
  have g3 := got_no (msg_none hx)
  have p1 := fun W => H.putReply_at X W hx x8
  have p2 := fun W => H.putReply_at Y W hy y8
  have p3 := fun W => H.put_at O W hm
  have hA := ((Arr.new w (rv r) 28).alloc (.cells (rv r').toArray 28)).alloc (.cells (mv m).toArray 24)
  have hB := (Arr.new (w.alloc (.cells (rv r).toArray 28)) (rv r') 28).alloc (.cells (mv m).toArray 24)
  have hC := Arr.new ((w.alloc (.cells (rv r).toArray 28)).alloc (.cells (rv r').toArray 28)) (mv m) 24
  have hw := ((below_one w (.cells (rv r).toArray 28)).alloc (by simp) (.cells (rv r').toArray 28)).alloc (by simp; omega) (.cells (mv m).toArray 24)
  rw [World.size_alloc] at hB
  rw [World.size_alloc, World.size_alloc] at hC
  have hAl := rv_len r r8
  have hBl := rv_len r' r8'
  have hXl := rv_len X x8
  have hYl := rv_len Y y8
  replace hAl := Lib.hid hAl
  replace hBl := Lib.hid hBl
  replace hXl := Lib.hid hXl
  replace hYl := Lib.hid hYl
  replace hn1 := Lib.hid hn1
  replace hn2 := Lib.hid hn2
  replace hn3 := Lib.hid hn3
  replace hinj := Lib.hid hinj
  replace g1 := Lib.hid g1
  replace g2 := Lib.hid g2
  replace g3 := Lib.hid g3
  replace x8 := Lib.hid x8
  replace y8 := Lib.hid y8
  clear hlx hly hlo hx hy hm r8 r8'
  go_enter Try.func5, Try.ntmps5
  try dsimp only [List.append]
  go_wp2_with fail
  generalize ((w.alloc (.cells (rv r).toArray 28)).alloc (.cells (rv r').toArray 28)).alloc (.cells (mv m).toArray 24) = W0 at hA hB hC hw ⊢
  refine (shown_any H _).mono ?_
  rintro e w1 ⟨rfl, hbk⟩
  have hA := hA.since hbk
  have hB := hB.since hbk
  have hC := hC.since hbk
  have hw := hw.trans (hbk.mono hw.size)
  clear hbk
  generalize w.heap.size + 1 + 1 = gC at hC ⊢
  generalize w.heap.size + 1 = gB at hB ⊢
  go_wp2_with (guard_target =~ wpList _ _ _ (Oper.mk _ (Op.load 28 _) _ _ _ _ :: _) _ _; refine wpList_load_arr 14 rfl rfl rfl hA (by kernel_rfl) hAl.out ?_)
  refine (q1 _).mono ?_
  rintro e w2 ⟨rfl, hbk⟩
  have hA := hA.since hbk
  have hB := hB.since hbk
  have hC := hC.since hbk
  have hw := hw.trans (hbk.mono hw.size)
  clear hbk
  clear hA
  have hz := new_zr w2 28
  have hBlt := hB.lt
  have hClt := hC.lt
  go_wp2_with (guard_target =~ wpList _ _ _ (Oper.mk _ (Op.store 28 _ _) _ _ _ _ :: _) _ _; refine wpList_store_arr (cs' := rv X) 14 rfl rfl rfl rfl hz (by kernel_rfl) rfl hXl.out (rv_one _) ?_)
  intro w3 hX ho hb hs
  have hB := (hB.alloc (.cells #[.int .i64 0, .int .i64 0, .int .i64 0, .int .i64 0, .int .i64 0, .int .i64 0, .int .u8 0, .int .u8 0, .int .u8 0, .int .u8 0, .int .u8 0, .int .u8 0, .int .u8 0, .int .u8 0] 28)).of_block (ho _ (by omega))
  have hC := (hC.alloc (.cells #[.int .i64 0, .int .i64 0, .int .i64 0, .int .i64 0, .int .i64 0, .int .i64 0, .int .u8 0, .int .u8 0, .int .u8 0, .int .u8 0, .int .u8 0, .int .u8 0, .int .u8 0, .int .u8 0] 28)).of_block (ho _ (by omega))
  have hw := (hw.alloc hw.size (.cells #[.int .i64 0, .int .i64 0, .int .i64 0, .int .i64 0, .int .i64 0, .int .i64 0, .int .u8 0, .int .u8 0, .int .u8 0, .int .u8 0, .int .u8 0, .int .u8 0, .int .u8 0, .int .u8 0] 28)).trans (hb.mono hw.size)
  clear hz ho hb hs hBlt hClt
  generalize w2.heap.size = gX at hX ⊢
  go_wp2_with (guard_target =~ wpList _ _ _ (Oper.mk _ (Op.load 28 _) _ _ _ _ :: _) _ _; refine wpList_load_arr 14 rfl rfl rfl hB (by kernel_rfl) hBl.out ?_)
  refine (q2 _).mono ?_
  rintro e w4 ⟨rfl, hbk⟩
  have hB := hB.since hbk
  have hC := hC.since hbk
  have hX := hX.since hbk
  have hw := hw.trans (hbk.mono hw.size)
  clear hbk
  clear hB
  have hz := new_zr w4 28
  have hClt := hC.lt
  have hXlt := hX.lt
  go_wp2_with (guard_target =~ wpList _ _ _ (Oper.mk _ (Op.store 28 _ _) _ _ _ _ :: _) _ _; refine wpList_store_arr (cs' := rv Y) 14 rfl rfl rfl rfl hz (by kernel_rfl) rfl hYl.out (rv_one _) ?_)
  intro w5 hY ho hb hs
  have hC := (hC.alloc (.cells #[.int .i64 0, .int .i64 0, .int .i64 0, .int .i64 0, .int .i64 0, .int .i64 0, .int .u8 0, .int .u8 0, .int .u8 0, .int .u8 0, .int .u8 0, .int .u8 0, .int .u8 0, .int .u8 0] 28)).of_block (ho _ (by omega))
  have hX := (hX.alloc (.cells #[.int .i64 0, .int .i64 0, .int .i64 0, .int .i64 0, .int .i64 0, .int .i64 0, .int .u8 0, .int .u8 0, .int .u8 0, .int .u8 0, .int .u8 0, .int .u8 0, .int .u8 0, .int .u8 0] 28)).of_block (ho _ (by omega))
  have hw := (hw.alloc hw.size (.cells #[.int .i64 0, .int .i64 0, .int .i64 0, .int .i64 0, .int .i64 0, .int .i64 0, .int .u8 0, .int .u8 0, .int .u8 0, .int .u8 0, .int .u8 0, .int .u8 0, .int .u8 0, .int .u8 0] 28)).trans (hb.mono hw.size)
  clear hz ho hb hs hClt hXlt
  generalize w4.heap.size = gY at hY ⊢
  go_wp2_with (guard_target =~ wpList _ _ _ (Oper.mk _ (Op.load 28 _) _ _ _ _ :: _) _ _; refine wpList_load_arr 14 rfl rfl rfl hX (by kernel_rfl) hXl.out ?_)
  refine (p1 _).mono ?_
  rintro e w6 ⟨bp, cp, rfl, -, hp, hbk⟩
  have hC := hC.since hbk
  have hX := hX.since hbk
  have hY := hY.since hbk
  have hw := hw.trans (hbk.mono hw.size)
  clear hbk
  rw [hn1.out]
  go_wp2_with (guard_target =~ wpList _ _ _ (Oper.mk _ (Op.load 28 _) _ _ _ _ :: _) _ _; refine wpList_load_arr 14 rfl rfl rfl hY (by kernel_rfl) hYl.out ?_)
  refine (p2 _).mono ?_
  rintro e w7 ⟨bq, cq, rfl, -, hq, hbk⟩
  have hC := hC.since hbk
  have hX := hX.since hbk
  have hY := hY.since hbk
  have hp := hp.since hbk
  have hw := hw.trans (hbk.mono hw.size)
  clear hbk
  rw [hn2.out]
  have hcp : n1 ≤ cp := by have := hp.1; rw [hn1.out] at this; exact this
  have hcq : n2 ≤ cq := by have := hq.1; rw [hn2.out] at this; exact this
  go_wp2_with fail
  refine (H.takeReply _ n1 cp _ _ hn1.out hcp (by omega) hp.seen).mono ?_
  rintro e w8 ⟨rfl, hbk⟩
  have hC := hC.since hbk
  have hX := hX.since hbk
  have hY := hY.since hbk
  have hp := hp.since hbk
  have hq := hq.since hbk
  have hw := hw.trans (hbk.mono hw.size)
  clear hbk
  rw [g1.out.1, g1.out.2]
  have hz := new_zr w8 28
  have hClt := hC.lt
  have hXlt := hX.lt
  have hYlt := hY.lt
  have hplt := hp.lt
  have hqlt := hq.lt
  go_wp2_with (guard_target =~ wpList _ _ _ (Oper.mk _ (Op.store 28 _ _) _ _ _ _ :: _) _ _; refine wpList_store_arr (cs' := rv X) 14 rfl rfl rfl rfl hz (by kernel_rfl) rfl hXl.out (rv_one _) ?_)
  intro w9 hZ ho hb hs
  have hC := (hC.alloc (.cells #[.int .i64 0, .int .i64 0, .int .i64 0, .int .i64 0, .int .i64 0, .int .i64 0, .int .u8 0, .int .u8 0, .int .u8 0, .int .u8 0, .int .u8 0, .int .u8 0, .int .u8 0, .int .u8 0] 28)).of_block (ho _ (by omega))
  have hX := (hX.alloc (.cells #[.int .i64 0, .int .i64 0, .int .i64 0, .int .i64 0, .int .i64 0, .int .i64 0, .int .u8 0, .int .u8 0, .int .u8 0, .int .u8 0, .int .u8 0, .int .u8 0, .int .u8 0, .int .u8 0] 28)).of_block (ho _ (by omega))
  have hY := (hY.alloc (.cells #[.int .i64 0, .int .i64 0, .int .i64 0, .int .i64 0, .int .i64 0, .int .i64 0, .int .u8 0, .int .u8 0, .int .u8 0, .int .u8 0, .int .u8 0, .int .u8 0, .int .u8 0, .int .u8 0] 28)).of_block (ho _ (by omega))
  have hp := (hp.alloc (.cells #[.int .i64 0, .int .i64 0, .int .i64 0, .int .i64 0, .int .i64 0, .int .i64 0, .int .u8 0, .int .u8 0, .int .u8 0, .int .u8 0, .int .u8 0, .int .u8 0, .int .u8 0, .int .u8 0] 28)).of_block (ho _ (by omega))
  have hq := (hq.alloc (.cells #[.int .i64 0, .int .i64 0, .int .i64 0, .int .i64 0, .int .i64 0, .int .i64 0, .int .u8 0, .int .u8 0, .int .u8 0, .int .u8 0, .int .u8 0, .int .u8 0, .int .u8 0, .int .u8 0] 28)).of_block (ho _ (by omega))
  have hw := (hw.alloc hw.size (.cells #[.int .i64 0, .int .i64 0, .int .i64 0, .int .i64 0, .int .i64 0, .int .i64 0, .int .u8 0, .int .u8 0, .int .u8 0, .int .u8 0, .int .u8 0, .int .u8 0, .int .u8 0, .int .u8 0] 28)).trans (hb.mono hw.size)
  clear hz ho hb hs hClt hXlt hYlt hplt hqlt
  generalize w8.heap.size = gZ at hZ ⊢
  go_wp2_with (guard_target =~ wpList _ _ _ (Oper.mk _ (Op.load 24 _) _ _ _ _ :: _) _ _; refine wpList_load_arr 12 rfl rfl rfl hC (by kernel_rfl) rfl ?_)
  refine (q3 _).mono ?_
  rintro e w10 ⟨rfl, hbk⟩
  have hC := hC.since hbk
  have hX := hX.since hbk
  have hY := hY.since hbk
  have hp := hp.since hbk
  have hq := hq.since hbk
  have hZ := hZ.since hbk
  have hw := hw.trans (hbk.mono hw.size)
  clear hbk
  clear hC
  go_wp2_with fail
  refine (p3 _).mono ?_
  rintro e w11 ⟨bo, co, rfl, -, ho3, hbk⟩
  have hX := hX.since hbk
  have hY := hY.since hbk
  have hp := hp.since hbk
  have hq := hq.since hbk
  have hZ := hZ.since hbk
  have hw := hw.trans (hbk.mono hw.size)
  clear hbk
  rw [hn3.out]
  have hco : n3 ≤ co := by have := ho3.1; rw [hn3.out] at this; exact this
  go_wp2_with fail
  refine (H.takeReply _ n3 co _ _ hn3.out hco (by omega) ho3.seen).mono ?_
  rintro e w12 ⟨rfl, hbk⟩
  have hX := hX.since hbk
  have hY := hY.since hbk
  have hp := hp.since hbk
  have hq := hq.since hbk
  have hZ := hZ.since hbk
  have ho3 := ho3.since hbk
  have hw := hw.trans (hbk.mono hw.size)
  clear hbk
  clear ho3
  rw [g2.out.1, g2.out.2]
  have hz := new_zr w12 28
  have hXlt := hX.lt
  have hYlt := hY.lt
  have hplt := hp.lt
  have hqlt := hq.lt
  have hZlt := hZ.lt
  go_wp2_with (guard_target =~ wpList _ _ _ (Oper.mk _ (Op.store 28 _ _) _ _ _ _ :: _) _ _; refine wpList_store_arr (cs' := rv zR) 14 rfl rfl rfl rfl hz (by kernel_rfl) rfl rfl (rv_one _) ?_)
  intro w13 hR ho hb hs
  have hX := (hX.alloc (.cells #[.int .i64 0, .int .i64 0, .int .i64 0, .int .i64 0, .int .i64 0, .int .i64 0, .int .u8 0, .int .u8 0, .int .u8 0, .int .u8 0, .int .u8 0, .int .u8 0, .int .u8 0, .int .u8 0] 28)).of_block (ho _ (by omega))
  have hY := (hY.alloc (.cells #[.int .i64 0, .int .i64 0, .int .i64 0, .int .i64 0, .int .i64 0, .int .i64 0, .int .u8 0, .int .u8 0, .int .u8 0, .int .u8 0, .int .u8 0, .int .u8 0, .int .u8 0, .int .u8 0] 28)).of_block (ho _ (by omega))
  have hp := (hp.alloc (.cells #[.int .i64 0, .int .i64 0, .int .i64 0, .int .i64 0, .int .i64 0, .int .i64 0, .int .u8 0, .int .u8 0, .int .u8 0, .int .u8 0, .int .u8 0, .int .u8 0, .int .u8 0, .int .u8 0] 28)).of_block (ho _ (by omega))
  have hq := (hq.alloc (.cells #[.int .i64 0, .int .i64 0, .int .i64 0, .int .i64 0, .int .i64 0, .int .i64 0, .int .u8 0, .int .u8 0, .int .u8 0, .int .u8 0, .int .u8 0, .int .u8 0, .int .u8 0, .int .u8 0] 28)).of_block (ho _ (by omega))
  have hZ := (hZ.alloc (.cells #[.int .i64 0, .int .i64 0, .int .i64 0, .int .i64 0, .int .i64 0, .int .i64 0, .int .u8 0, .int .u8 0, .int .u8 0, .int .u8 0, .int .u8 0, .int .u8 0, .int .u8 0, .int .u8 0] 28)).of_block (ho _ (by omega))
  have hw := (hw.alloc hw.size (.cells #[.int .i64 0, .int .i64 0, .int .i64 0, .int .i64 0, .int .i64 0, .int .i64 0, .int .u8 0, .int .u8 0, .int .u8 0, .int .u8 0, .int .u8 0, .int .u8 0, .int .u8 0, .int .u8 0] 28)).trans (hb.mono hw.size)
  clear hz ho hb hs hXlt hYlt hplt hqlt hZlt
  generalize w12.heap.size = gR at hR ⊢
  clear hR
  go_wp2_with fail
  refine (H.take _ n1 cp _ _ hn1.out hcp (by omega) hp.seen).mono ?_
  rintro e w14 ⟨rfl, hbk⟩
  have hX := hX.since hbk
  have hY := hY.since hbk
  have hp := hp.since hbk
  have hq := hq.since hbk
  have hZ := hZ.since hbk
  have hw := hw.trans (hbk.mono hw.size)
  clear hbk
  rw [g3.out.1, g3.out.2]
  have hz := new_zm w14 24
  have hXlt := hX.lt
  have hYlt := hY.lt
  have hplt := hp.lt
  have hqlt := hq.lt
  have hZlt := hZ.lt
  go_wp2_with (guard_target =~ wpList _ _ _ (Oper.mk _ (Op.store 24 _ _) _ _ _ _ :: _) _ _; refine wpList_store_arr (cs' := mv zM) 12 rfl rfl rfl rfl hz (by kernel_rfl) rfl rfl (mv_one _) ?_)
  intro w15 hM ho hb hs
  have hX := (hX.alloc (.cells #[.int .i64 0, .int .i64 0, .int .i64 0, .int .i64 0, .int .i64 0, .int .i64 0, .int .i64 0, .bool false, .int .i64 0, .int .i64 0, .int .i64 0, .int .i64 0] 24)).of_block (ho _ (by omega))
  have hY := (hY.alloc (.cells #[.int .i64 0, .int .i64 0, .int .i64 0, .int .i64 0, .int .i64 0, .int .i64 0, .int .i64 0, .bool false, .int .i64 0, .int .i64 0, .int .i64 0, .int .i64 0] 24)).of_block (ho _ (by omega))
  have hp := (hp.alloc (.cells #[.int .i64 0, .int .i64 0, .int .i64 0, .int .i64 0, .int .i64 0, .int .i64 0, .int .i64 0, .bool false, .int .i64 0, .int .i64 0, .int .i64 0, .int .i64 0] 24)).of_block (ho _ (by omega))
  have hq := (hq.alloc (.cells #[.int .i64 0, .int .i64 0, .int .i64 0, .int .i64 0, .int .i64 0, .int .i64 0, .int .i64 0, .bool false, .int .i64 0, .int .i64 0, .int .i64 0, .int .i64 0] 24)).of_block (ho _ (by omega))
  have hZ := (hZ.alloc (.cells #[.int .i64 0, .int .i64 0, .int .i64 0, .int .i64 0, .int .i64 0, .int .i64 0, .int .i64 0, .bool false, .int .i64 0, .int .i64 0, .int .i64 0, .int .i64 0] 24)).of_block (ho _ (by omega))
  have hw := (hw.alloc hw.size (.cells #[.int .i64 0, .int .i64 0, .int .i64 0, .int .i64 0, .int .i64 0, .int .i64 0, .int .i64 0, .bool false, .int .i64 0, .int .i64 0, .int .i64 0, .int .i64 0] 24)).trans (hb.mono hw.size)
  clear hz ho hb hs hXlt hYlt hplt hqlt hZlt
  generalize w14.heap.size = gM at hM ⊢
  clear hM
  obtain ⟨bE, hbE⟩ : ∃ b, decide (X = Y) = b := ⟨_, rfl⟩
  have hE := fun W => eql_reply X Y x8.out y8.out W
  have hS := fun W => eql_reply X X x8.out x8.out W
  rw [hbE] at hE
  rw [decide_eq_true rfl] at hS
  obtain ⟨sp, hsp⟩ : ∃ s : ByteArray, s = ⟨(replyB X).toArray⟩ := ⟨_, rfl⟩
  obtain ⟨sq, hsq⟩ : ∃ s : ByteArray, s = ⟨(replyB Y).toArray⟩ := ⟨_, rfl⟩
  have hcmp : (sp.toList == sq.toList) = bE := by
    rw [← hbE, hsp, hsq, ByteArray.toList_eq, ByteArray.toList_eq, Bool.eq_iff_iff, beq_iff_eq, decide_eq_true_eq]
    exact hinj.out
  have t1 : ∀ q, (convert 29 9 (.slice (some ⟨bp, 0, none⟩) n1 cp)).run Try.prog (w15.drewN q) = .ok (.string sp) (w15.drewN q) := fun q => (hp.seen.drewN q).str n1 cp hn1.out sp hsp
  have t2 : ∀ q, (convert 29 9 (.slice (some ⟨bq, 0, none⟩) n2 cq)).run Try.prog (w15.drewN q) = .ok (.string sq) (w15.drewN q) := fun q => (hq.seen.drewN q).str n2 cq hn2.out sq hsq
  have hn9 : (n1 : Int) ≤ 9 := by omega
  clear hsp hsq hbE hinj hp hq g1 g2 g3 p1 p2 p3 q1 q2 q3 hXl hYl hn1 hn2 hn3
  obtain ⟨uk, us, ur, uw, ue, uc, un⟩ := X
  obtain ⟨zk, zs, zr, zw, ze, zc, zn⟩ := Y
  obtain ⟨u0, u1, u2, u3, u4, u5, u6, u7, rfl⟩ := eight x8.out
  obtain ⟨z0, z1, z2, z3, z4, z5, z6, z7, rfl⟩ := eight y8.out
  have hE : ∀ W, (binOp .eql 28 (.agg #[.int .i64 uk, .int .i64 us, .int .i64 ur, .int .i64 uw, .int .i64 ue, .int .i64 uc, .int .u8 (u0.toNat : Int), .int .u8 (u1.toNat : Int), .int .u8 (u2.toNat : Int), .int .u8 (u3.toNat : Int), .int .u8 (u4.toNat : Int), .int .u8 (u5.toNat : Int), .int .u8 (u6.toNat : Int), .int .u8 (u7.toNat : Int)]) (.agg #[.int .i64 zk, .int .i64 zs, .int .i64 zr, .int .i64 zw, .int .i64 ze, .int .i64 zc, .int .u8 (z0.toNat : Int), .int .u8 (z1.toNat : Int), .int .u8 (z2.toNat : Int), .int .u8 (z3.toNat : Int), .int .u8 (z4.toNat : Int), .int .u8 (z5.toNat : Int), .int .u8 (z6.toNat : Int), .int .u8 (z7.toNat : Int)])).run Try.prog W = .ok (.bool bE) W := hE
  have hS : ∀ W, (binOp .eql 28 (.agg #[.int .i64 uk, .int .i64 us, .int .i64 ur, .int .i64 uw, .int .i64 ue, .int .i64 uc, .int .u8 (u0.toNat : Int), .int .u8 (u1.toNat : Int), .int .u8 (u2.toNat : Int), .int .u8 (u3.toNat : Int), .int .u8 (u4.toNat : Int), .int .u8 (u5.toNat : Int), .int .u8 (u6.toNat : Int), .int .u8 (u7.toNat : Int)]) (.agg #[.int .i64 uk, .int .i64 us, .int .i64 ur, .int .i64 uw, .int .i64 ue, .int .i64 uc, .int .u8 (u0.toNat : Int), .int .u8 (u1.toNat : Int), .int .u8 (u2.toNat : Int), .int .u8 (u3.toNat : Int), .int .u8 (u4.toNat : Int), .int .u8 (u5.toNat : Int), .int .u8 (u6.toNat : Int), .int .u8 (u7.toNat : Int)])).run Try.prog W = .ok (.bool true) W := hS
  have ca0 : ∀ q, (w15.drewN q).cell? ⟨gX, 0, none⟩ = some (.int .i64 uk) := fun q => hX.cell rfl
  have ca1 : ∀ q, (w15.drewN q).cell? ⟨gX, 1, none⟩ = some (.int .i64 us) := fun q => hX.cell rfl
  have ca2 : ∀ q, (w15.drewN q).cell? ⟨gX, 2, none⟩ = some (.int .i64 ur) := fun q => hX.cell rfl
  have ca3 : ∀ q, (w15.drewN q).cell? ⟨gX, 3, none⟩ = some (.int .i64 uw) := fun q => hX.cell rfl
  have ca4 : ∀ q, (w15.drewN q).cell? ⟨gX, 4, none⟩ = some (.int .i64 ue) := fun q => hX.cell rfl
  have ca5 : ∀ q, (w15.drewN q).cell? ⟨gX, 5, none⟩ = some (.int .i64 uc) := fun q => hX.cell rfl
  have ca6 : ∀ q, (w15.drewN q).cell? ⟨gX, 6, none⟩ = some (.int .u8 (u0.toNat : Int)) := fun q => hX.cell rfl
  have ca7 : ∀ q, (w15.drewN q).cell? ⟨gX, 7, none⟩ = some (.int .u8 (u1.toNat : Int)) := fun q => hX.cell rfl
  have ca8 : ∀ q, (w15.drewN q).cell? ⟨gX, 8, none⟩ = some (.int .u8 (u2.toNat : Int)) := fun q => hX.cell rfl
  have ca9 : ∀ q, (w15.drewN q).cell? ⟨gX, 9, none⟩ = some (.int .u8 (u3.toNat : Int)) := fun q => hX.cell rfl
  have ca10 : ∀ q, (w15.drewN q).cell? ⟨gX, 10, none⟩ = some (.int .u8 (u4.toNat : Int)) := fun q => hX.cell rfl
  have ca11 : ∀ q, (w15.drewN q).cell? ⟨gX, 11, none⟩ = some (.int .u8 (u5.toNat : Int)) := fun q => hX.cell rfl
  have ca12 : ∀ q, (w15.drewN q).cell? ⟨gX, 12, none⟩ = some (.int .u8 (u6.toNat : Int)) := fun q => hX.cell rfl
  have ca13 : ∀ q, (w15.drewN q).cell? ⟨gX, 13, none⟩ = some (.int .u8 (u7.toNat : Int)) := fun q => hX.cell rfl
  have cb0 : ∀ q, (w15.drewN q).cell? ⟨gY, 0, none⟩ = some (.int .i64 zk) := fun q => hY.cell rfl
  have cb1 : ∀ q, (w15.drewN q).cell? ⟨gY, 1, none⟩ = some (.int .i64 zs) := fun q => hY.cell rfl
  have cb2 : ∀ q, (w15.drewN q).cell? ⟨gY, 2, none⟩ = some (.int .i64 zr) := fun q => hY.cell rfl
  have cb3 : ∀ q, (w15.drewN q).cell? ⟨gY, 3, none⟩ = some (.int .i64 zw) := fun q => hY.cell rfl
  have cb4 : ∀ q, (w15.drewN q).cell? ⟨gY, 4, none⟩ = some (.int .i64 ze) := fun q => hY.cell rfl
  have cb5 : ∀ q, (w15.drewN q).cell? ⟨gY, 5, none⟩ = some (.int .i64 zc) := fun q => hY.cell rfl
  have cb6 : ∀ q, (w15.drewN q).cell? ⟨gY, 6, none⟩ = some (.int .u8 (z0.toNat : Int)) := fun q => hY.cell rfl
  have cb7 : ∀ q, (w15.drewN q).cell? ⟨gY, 7, none⟩ = some (.int .u8 (z1.toNat : Int)) := fun q => hY.cell rfl
  have cb8 : ∀ q, (w15.drewN q).cell? ⟨gY, 8, none⟩ = some (.int .u8 (z2.toNat : Int)) := fun q => hY.cell rfl
  have cb9 : ∀ q, (w15.drewN q).cell? ⟨gY, 9, none⟩ = some (.int .u8 (z3.toNat : Int)) := fun q => hY.cell rfl
  have cb10 : ∀ q, (w15.drewN q).cell? ⟨gY, 10, none⟩ = some (.int .u8 (z4.toNat : Int)) := fun q => hY.cell rfl
  have cb11 : ∀ q, (w15.drewN q).cell? ⟨gY, 11, none⟩ = some (.int .u8 (z5.toNat : Int)) := fun q => hY.cell rfl
  have cb12 : ∀ q, (w15.drewN q).cell? ⟨gY, 12, none⟩ = some (.int .u8 (z6.toNat : Int)) := fun q => hY.cell rfl
  have cb13 : ∀ q, (w15.drewN q).cell? ⟨gY, 13, none⟩ = some (.int .u8 (z7.toNat : Int)) := fun q => hY.cell rfl
  have cc0 : ∀ q, (w15.drewN q).cell? ⟨gZ, 0, none⟩ = some (.int .i64 uk) := fun q => hZ.cell rfl
  have cc1 : ∀ q, (w15.drewN q).cell? ⟨gZ, 1, none⟩ = some (.int .i64 us) := fun q => hZ.cell rfl
  have cc2 : ∀ q, (w15.drewN q).cell? ⟨gZ, 2, none⟩ = some (.int .i64 ur) := fun q => hZ.cell rfl
  have cc3 : ∀ q, (w15.drewN q).cell? ⟨gZ, 3, none⟩ = some (.int .i64 uw) := fun q => hZ.cell rfl
  have cc4 : ∀ q, (w15.drewN q).cell? ⟨gZ, 4, none⟩ = some (.int .i64 ue) := fun q => hZ.cell rfl
  have cc5 : ∀ q, (w15.drewN q).cell? ⟨gZ, 5, none⟩ = some (.int .i64 uc) := fun q => hZ.cell rfl
  have cc6 : ∀ q, (w15.drewN q).cell? ⟨gZ, 6, none⟩ = some (.int .u8 (u0.toNat : Int)) := fun q => hZ.cell rfl
  have cc7 : ∀ q, (w15.drewN q).cell? ⟨gZ, 7, none⟩ = some (.int .u8 (u1.toNat : Int)) := fun q => hZ.cell rfl
  have cc8 : ∀ q, (w15.drewN q).cell? ⟨gZ, 8, none⟩ = some (.int .u8 (u2.toNat : Int)) := fun q => hZ.cell rfl
  have cc9 : ∀ q, (w15.drewN q).cell? ⟨gZ, 9, none⟩ = some (.int .u8 (u3.toNat : Int)) := fun q => hZ.cell rfl
  have cc10 : ∀ q, (w15.drewN q).cell? ⟨gZ, 10, none⟩ = some (.int .u8 (u4.toNat : Int)) := fun q => hZ.cell rfl
  have cc11 : ∀ q, (w15.drewN q).cell? ⟨gZ, 11, none⟩ = some (.int .u8 (u5.toNat : Int)) := fun q => hZ.cell rfl
  have cc12 : ∀ q, (w15.drewN q).cell? ⟨gZ, 12, none⟩ = some (.int .u8 (u6.toNat : Int)) := fun q => hZ.cell rfl
  have cc13 : ∀ q, (w15.drewN q).cell? ⟨gZ, 13, none⟩ = some (.int .u8 (u7.toNat : Int)) := fun q => hZ.cell rfl
  clear hX hY hZ x8 y8
  go_wp2_with fail
  go_quiet (fail)
  have hwn := below_drawn hw nq
  go_wp2
  go_ret
  exact ⟨by simp [hcmp], hwn⟩
end Go.Proofs.Ytmibgmcgicphoaa
