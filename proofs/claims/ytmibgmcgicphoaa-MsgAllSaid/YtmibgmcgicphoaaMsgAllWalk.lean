/-
  THE WALK OF MsgAll. (Written by program: wip/tools/gen_msg_all.py.)
-/
import Derived.Test.YtmibgmcgicphoaaMsgShown
import Derived.Test.YtmibgmcgicphoaaMsgRefTakeR
namespace Go.Proofs.Ytmibgmcgicphoaa
open Go.RowKit Go.Proofs.Ytmibgmcgicphoaa.octets Go.Proofs.Ytmibgmcgicphoaa.given Go.Proofs.Ytmibgmcgicphoaa.msg
set_option linter.unusedVariables false
set_option linter.unusedSimpArgs false

set_option maxRecDepth 100000 in
set_option maxHeartbeats 8000000 in
theorem msgAll_of (H : CodeOk) (v v1 : Value) (a : Option Addr) (len cap : Nat) (z : List Int) (w : World) {base : Nat} (h0 : Value.okWide Try.prog w .any base 24 v) (h1 : Value.okWide Try.prog w .any base 28 v1) (h2 : Nums .u8 w a len cap z) :
    Calls Try.prog 3 #[v, v1, .slice a len cap] w fun e w' => e = .returned (.bool true) ∧ Below w.heap.size w w' := by
  obtain ⟨m, rfl⟩ := msg_came h0
  obtain ⟨r, rfl, r8⟩ := reply_came h1
  obtain ⟨l, hll, hl, hlc⟩ := seen_nums h2
  clear h0 h1 h2
  obtain ⟨n3, hn3⟩ : ∃ n, n = min len 40 := ⟨_, rfl⟩
  have hL : Seen w a (l.take 40) := hl.take 40
  have hL3 : (l.take 40).length = n3 := by rw [List.length_take, hll, hn3]; omega
  have hfew := fun W => few_ok a len cap n3 W hlc hn3
  have hc3 : n3 ≤ cap := by omega
  have hn40 : n3 ≤ 40 := by omega
  clear hl hll hlc hn3
  generalize l.take 40 = L at hL hL3
  have hrl := rv_len r r8
  have hql := rv_len (gotR L) (gotR_eight L)
  have q8 := gotR_eight L
  obtain ⟨n1, hn1⟩ : ∃ n, (bytesM m).length = n := ⟨_, rfl⟩
  obtain ⟨n2, hn2⟩ : ∃ n, (bytesR r).length = n := ⟨_, rfl⟩
  obtain ⟨cm, hcm⟩ : ∃ n, codeM m = n := ⟨_, rfl⟩
  obtain ⟨cr, hcr⟩ : ∃ n, codeR r = n := ⟨_, rfl⟩
  obtain ⟨ct, hct⟩ : ∃ n, codeT L = n := ⟨_, rfl⟩
  obtain ⟨cu, hcu⟩ : ∃ n, codeTR L = n := ⟨_, rfl⟩
  obtain ⟨Q, hQ⟩ : ∃ q, gotM L = q := ⟨_, rfl⟩
  obtain ⟨Y, hY⟩ : ∃ q, gotR L = q := ⟨_, rfl⟩
  rw [hY] at hql q8
  obtain ⟨PM, hPM⟩ : ∃ q, bytesM m = q := ⟨_, rfl⟩
  obtain ⟨PR, hPR⟩ : ∃ q, bytesR r = q := ⟨_, rfl⟩
  rw [hPM] at hn1
  rw [hPR] at hn2
  have hAl : True := trivial
  replace hBl := Lib.hid hrl
  clear hrl
  replace hql := Lib.hid hql
  replace q8 := Lib.hid q8
  replace r8 := Lib.hid r8
  replace hn1 := Lib.hid hn1
  replace hn2 := Lib.hid hn2
  replace hL3 := Lib.hid hL3
  replace hcm := Lib.hid hcm
  replace hcr := Lib.hid hcr
  replace hct := Lib.hid hct
  replace hcu := Lib.hid hcu
  replace hQ := Lib.hid hQ
  replace hY := Lib.hid hY
  replace hPM := Lib.hid hPM
  replace hPR := Lib.hid hPR
  have hA := (Arr.new w (mv m) 24).alloc (.cells (rv r).toArray 28)
  have hB := Arr.new (w.alloc (.cells (mv m).toArray 24)) (rv r) 28
  have hw := (below_one w (.cells (mv m).toArray 24)).alloc (by simp) (.cells (rv r).toArray 28)
  rw [World.size_alloc] at hB
  go_enter Try.func3, Try.ntmps3
  try dsimp only [List.append]
  go_wp2_with fail
  generalize (w.alloc (.cells (mv m).toArray 24)).alloc (.cells (rv r).toArray 28) = W0 at hA hB hw ⊢
  refine (shown_any H _).mono ?_
  rintro e w1 ⟨rfl, hbk⟩
  have hA := hA.since hbk
  have hB := hB.since hbk
  have hw := hw.trans (hbk.mono hw.size)
  clear hbk
  generalize w.heap.size + 1 = gB at hB ⊢
  go_wp2_with fail
  refine (hfew _).mono ?_
  rintro e w' ⟨rfl, rfl⟩
  go_wp2_with (guard_target =~ wpList _ _ _ (Oper.mk _ (Op.load 24 _) _ _ _ _ :: _) _ _; refine wpList_load_arr 12 rfl rfl rfl hA (by kernel_rfl) rfl ?_)
  refine (H.put m _).mono ?_
  rintro e w2 ⟨vs1, rfl, os1, hbk⟩
  have hA := hA.since hbk
  have hB := hB.since hbk
  have hw := hw.trans (hbk.mono hw.size)
  clear hbk
  rw [hcm.out]
  rw [hPM.out] at os1
  obtain ⟨A1, c1, rfl, s1⟩ := os1.seen_at (k := n1) hn1.out
  clear os1
  go_wp2_with (guard_target =~ wpList _ _ _ (Oper.mk _ (Op.load 24 _) _ _ _ _ :: _) _ _; refine wpList_load_arr 12 rfl rfl rfl hA (by kernel_rfl) rfl ?_)
  refine (refPut_ok m _).mono ?_
  rintro e w3 ⟨vs2, rfl, os2, hbk⟩
  have hA := hA.since hbk
  have hB := hB.since hbk
  have s1 := s1.since hbk
  have hw := hw.trans (hbk.mono hw.size)
  clear hbk
  rw [hcm.out]
  rw [hPM.out] at os2
  obtain ⟨A2, c2, rfl, s2⟩ := os2.seen_at (k := n1) hn1.out
  clear os2
  clear hA
  go_wp2_with fail
  refine (H.take _ n3 cap _ _ hL3.out hc3 (by omega) (hL.since hw)).mono ?_
  rintro e w4 ⟨rfl, hbk⟩
  have hB := hB.since hbk
  have s1 := s1.since hbk
  have s2 := s2.since hbk
  have hw := hw.trans (hbk.mono hw.size)
  clear hbk
  rw [hQ.out, hct.out]
  have hz := new_zm w4 24
  have hBlt := hB.lt
  go_wp2_with (guard_target =~ wpList _ _ _ (Oper.mk _ (Op.store 24 _ _) _ _ _ _ :: _) _ _; refine wpList_store_arr (cs' := mv Q) 12 rfl rfl rfl rfl hz (by kernel_rfl) rfl rfl (mv_one _) ?_)
  intro w5 hX ho hb hs
  have hB := (hB.alloc (.cells #[.int .i64 0, .int .i64 0, .int .i64 0, .int .i64 0, .int .i64 0, .int .i64 0, .int .i64 0, .bool false, .int .i64 0, .int .i64 0, .int .i64 0, .int .i64 0] 24)).of_block (ho _ (by omega))
  have s1 := (s1.alloc (.cells #[.int .i64 0, .int .i64 0, .int .i64 0, .int .i64 0, .int .i64 0, .int .i64 0, .int .i64 0, .bool false, .int .i64 0, .int .i64 0, .int .i64 0, .int .i64 0] 24)).below hb (by intro a ha hp; obtain ⟨b, o, hab, hlt, _⟩ := s1 (List.ne_nil_of_length_pos hp); rw [ha] at hab; cases hab; exact hlt)
  have s2 := (s2.alloc (.cells #[.int .i64 0, .int .i64 0, .int .i64 0, .int .i64 0, .int .i64 0, .int .i64 0, .int .i64 0, .bool false, .int .i64 0, .int .i64 0, .int .i64 0, .int .i64 0] 24)).below hb (by intro a ha hp; obtain ⟨b, o, hab, hlt, _⟩ := s2 (List.ne_nil_of_length_pos hp); rw [ha] at hab; cases hab; exact hlt)
  have hw := (hw.alloc hw.size (.cells #[.int .i64 0, .int .i64 0, .int .i64 0, .int .i64 0, .int .i64 0, .int .i64 0, .int .i64 0, .bool false, .int .i64 0, .int .i64 0, .int .i64 0, .int .i64 0] 24)).trans (hb.mono hw.size)
  clear hz ho hb hs hBlt
  generalize w4.heap.size = gX at hX ⊢
  go_wp2_with fail
  refine (refTake_ok _ n3 cap _ _ hL3.out hc3 (by omega) (hL.since hw)).mono ?_
  rintro e w6 ⟨rfl, hbk⟩
  have hB := hB.since hbk
  have hX := hX.since hbk
  have s1 := s1.since hbk
  have s2 := s2.since hbk
  have hw := hw.trans (hbk.mono hw.size)
  clear hbk
  rw [hQ.out, hct.out]
  have hz := new_zm w6 24
  have hBlt := hB.lt
  have hXlt := hX.lt
  go_wp2_with (guard_target =~ wpList _ _ _ (Oper.mk _ (Op.store 24 _ _) _ _ _ _ :: _) _ _; refine wpList_store_arr (cs' := mv Q) 12 rfl rfl rfl rfl hz (by kernel_rfl) rfl rfl (mv_one _) ?_)
  intro w7 hZ ho hb hs
  have hB := (hB.alloc (.cells #[.int .i64 0, .int .i64 0, .int .i64 0, .int .i64 0, .int .i64 0, .int .i64 0, .int .i64 0, .bool false, .int .i64 0, .int .i64 0, .int .i64 0, .int .i64 0] 24)).of_block (ho _ (by omega))
  have hX := (hX.alloc (.cells #[.int .i64 0, .int .i64 0, .int .i64 0, .int .i64 0, .int .i64 0, .int .i64 0, .int .i64 0, .bool false, .int .i64 0, .int .i64 0, .int .i64 0, .int .i64 0] 24)).of_block (ho _ (by omega))
  have s1 := (s1.alloc (.cells #[.int .i64 0, .int .i64 0, .int .i64 0, .int .i64 0, .int .i64 0, .int .i64 0, .int .i64 0, .bool false, .int .i64 0, .int .i64 0, .int .i64 0, .int .i64 0] 24)).below hb (by intro a ha hp; obtain ⟨b, o, hab, hlt, _⟩ := s1 (List.ne_nil_of_length_pos hp); rw [ha] at hab; cases hab; exact hlt)
  have s2 := (s2.alloc (.cells #[.int .i64 0, .int .i64 0, .int .i64 0, .int .i64 0, .int .i64 0, .int .i64 0, .int .i64 0, .bool false, .int .i64 0, .int .i64 0, .int .i64 0, .int .i64 0] 24)).below hb (by intro a ha hp; obtain ⟨b, o, hab, hlt, _⟩ := s2 (List.ne_nil_of_length_pos hp); rw [ha] at hab; cases hab; exact hlt)
  have hw := (hw.alloc hw.size (.cells #[.int .i64 0, .int .i64 0, .int .i64 0, .int .i64 0, .int .i64 0, .int .i64 0, .int .i64 0, .bool false, .int .i64 0, .int .i64 0, .int .i64 0, .int .i64 0] 24)).trans (hb.mono hw.size)
  clear hz ho hb hs hBlt hXlt
  generalize w6.heap.size = gZ at hZ ⊢
  go_wp2_with (guard_target =~ wpList _ _ _ (Oper.mk _ (Op.load 28 _) _ _ _ _ :: _) _ _; refine wpList_load_arr 14 rfl rfl rfl hB (by kernel_rfl) hBl.out ?_)
  refine (H.putReply r _ r8.out).mono ?_
  rintro e w8 ⟨vs3, rfl, os3, hbk⟩
  have hB := hB.since hbk
  have hX := hX.since hbk
  have hZ := hZ.since hbk
  have s1 := s1.since hbk
  have s2 := s2.since hbk
  have hw := hw.trans (hbk.mono hw.size)
  clear hbk
  rw [hcr.out]
  rw [hPR.out] at os3
  obtain ⟨A3, c3, rfl, s3⟩ := os3.seen_at (k := n2) hn2.out
  clear os3
  go_wp2_with (guard_target =~ wpList _ _ _ (Oper.mk _ (Op.load 28 _) _ _ _ _ :: _) _ _; refine wpList_load_arr 14 rfl rfl rfl hB (by kernel_rfl) hBl.out ?_)
  refine (refPutR_ok r _ r8.out).mono ?_
  rintro e w9 ⟨vs4, rfl, os4, hbk⟩
  have hB := hB.since hbk
  have hX := hX.since hbk
  have hZ := hZ.since hbk
  have s1 := s1.since hbk
  have s2 := s2.since hbk
  have s3 := s3.since hbk
  have hw := hw.trans (hbk.mono hw.size)
  clear hbk
  rw [hcr.out]
  rw [hPR.out] at os4
  obtain ⟨A4, c4, rfl, s4⟩ := os4.seen_at (k := n2) hn2.out
  clear os4
  clear hB
  go_wp2_with fail
  refine (H.takeReply _ n3 cap _ _ hL3.out hc3 (by omega) (hL.since hw)).mono ?_
  rintro e w10 ⟨rfl, hbk⟩
  have hX := hX.since hbk
  have hZ := hZ.since hbk
  have s1 := s1.since hbk
  have s2 := s2.since hbk
  have s3 := s3.since hbk
  have s4 := s4.since hbk
  have hw := hw.trans (hbk.mono hw.size)
  clear hbk
  rw [hY.out, hcu.out]
  have hz := new_zr w10 28
  have hXlt := hX.lt
  have hZlt := hZ.lt
  go_wp2_with (guard_target =~ wpList _ _ _ (Oper.mk _ (Op.store 28 _ _) _ _ _ _ :: _) _ _; refine wpList_store_arr (cs' := rv Y) 14 rfl rfl rfl rfl hz (by kernel_rfl) (rv_len _ zr_eight) hql.out (rv_one _) ?_)
  intro w11 hU ho hb hs
  have hX := (hX.alloc (.cells #[.int .i64 0, .int .i64 0, .int .i64 0, .int .i64 0, .int .i64 0, .int .i64 0, .int .u8 0, .int .u8 0, .int .u8 0, .int .u8 0, .int .u8 0, .int .u8 0, .int .u8 0, .int .u8 0] 28)).of_block (ho _ (by omega))
  have hZ := (hZ.alloc (.cells #[.int .i64 0, .int .i64 0, .int .i64 0, .int .i64 0, .int .i64 0, .int .i64 0, .int .u8 0, .int .u8 0, .int .u8 0, .int .u8 0, .int .u8 0, .int .u8 0, .int .u8 0, .int .u8 0] 28)).of_block (ho _ (by omega))
  have s1 := (s1.alloc (.cells #[.int .i64 0, .int .i64 0, .int .i64 0, .int .i64 0, .int .i64 0, .int .i64 0, .int .u8 0, .int .u8 0, .int .u8 0, .int .u8 0, .int .u8 0, .int .u8 0, .int .u8 0, .int .u8 0] 28)).below hb (by intro a ha hp; obtain ⟨b, o, hab, hlt, _⟩ := s1 (List.ne_nil_of_length_pos hp); rw [ha] at hab; cases hab; exact hlt)
  have s2 := (s2.alloc (.cells #[.int .i64 0, .int .i64 0, .int .i64 0, .int .i64 0, .int .i64 0, .int .i64 0, .int .u8 0, .int .u8 0, .int .u8 0, .int .u8 0, .int .u8 0, .int .u8 0, .int .u8 0, .int .u8 0] 28)).below hb (by intro a ha hp; obtain ⟨b, o, hab, hlt, _⟩ := s2 (List.ne_nil_of_length_pos hp); rw [ha] at hab; cases hab; exact hlt)
  have s3 := (s3.alloc (.cells #[.int .i64 0, .int .i64 0, .int .i64 0, .int .i64 0, .int .i64 0, .int .i64 0, .int .u8 0, .int .u8 0, .int .u8 0, .int .u8 0, .int .u8 0, .int .u8 0, .int .u8 0, .int .u8 0] 28)).below hb (by intro a ha hp; obtain ⟨b, o, hab, hlt, _⟩ := s3 (List.ne_nil_of_length_pos hp); rw [ha] at hab; cases hab; exact hlt)
  have s4 := (s4.alloc (.cells #[.int .i64 0, .int .i64 0, .int .i64 0, .int .i64 0, .int .i64 0, .int .i64 0, .int .u8 0, .int .u8 0, .int .u8 0, .int .u8 0, .int .u8 0, .int .u8 0, .int .u8 0, .int .u8 0] 28)).below hb (by intro a ha hp; obtain ⟨b, o, hab, hlt, _⟩ := s4 (List.ne_nil_of_length_pos hp); rw [ha] at hab; cases hab; exact hlt)
  have hw := (hw.alloc hw.size (.cells #[.int .i64 0, .int .i64 0, .int .i64 0, .int .i64 0, .int .i64 0, .int .i64 0, .int .u8 0, .int .u8 0, .int .u8 0, .int .u8 0, .int .u8 0, .int .u8 0, .int .u8 0, .int .u8 0] 28)).trans (hb.mono hw.size)
  clear hz ho hb hs hXlt hZlt
  generalize w10.heap.size = gU at hU ⊢
  go_wp2_with fail
  refine (refTakeR_ok _ n3 cap _ _ hL3.out hc3 (by omega) (hL.since hw)).mono ?_
  rintro e w12 ⟨rfl, hbk⟩
  have hX := hX.since hbk
  have hZ := hZ.since hbk
  have hU := hU.since hbk
  have s1 := s1.since hbk
  have s2 := s2.since hbk
  have s3 := s3.since hbk
  have s4 := s4.since hbk
  have hw := hw.trans (hbk.mono hw.size)
  clear hbk
  rw [hY.out, hcu.out]
  have hz := new_zr w12 28
  have hXlt := hX.lt
  have hZlt := hZ.lt
  have hUlt := hU.lt
  go_wp2_with (guard_target =~ wpList _ _ _ (Oper.mk _ (Op.store 28 _ _) _ _ _ _ :: _) _ _; refine wpList_store_arr (cs' := rv Y) 14 rfl rfl rfl rfl hz (by kernel_rfl) (rv_len _ zr_eight) hql.out (rv_one _) ?_)
  intro w13 hV ho hb hs
  have hX := (hX.alloc (.cells #[.int .i64 0, .int .i64 0, .int .i64 0, .int .i64 0, .int .i64 0, .int .i64 0, .int .u8 0, .int .u8 0, .int .u8 0, .int .u8 0, .int .u8 0, .int .u8 0, .int .u8 0, .int .u8 0] 28)).of_block (ho _ (by omega))
  have hZ := (hZ.alloc (.cells #[.int .i64 0, .int .i64 0, .int .i64 0, .int .i64 0, .int .i64 0, .int .i64 0, .int .u8 0, .int .u8 0, .int .u8 0, .int .u8 0, .int .u8 0, .int .u8 0, .int .u8 0, .int .u8 0] 28)).of_block (ho _ (by omega))
  have hU := (hU.alloc (.cells #[.int .i64 0, .int .i64 0, .int .i64 0, .int .i64 0, .int .i64 0, .int .i64 0, .int .u8 0, .int .u8 0, .int .u8 0, .int .u8 0, .int .u8 0, .int .u8 0, .int .u8 0, .int .u8 0] 28)).of_block (ho _ (by omega))
  have s1 := (s1.alloc (.cells #[.int .i64 0, .int .i64 0, .int .i64 0, .int .i64 0, .int .i64 0, .int .i64 0, .int .u8 0, .int .u8 0, .int .u8 0, .int .u8 0, .int .u8 0, .int .u8 0, .int .u8 0, .int .u8 0] 28)).below hb (by intro a ha hp; obtain ⟨b, o, hab, hlt, _⟩ := s1 (List.ne_nil_of_length_pos hp); rw [ha] at hab; cases hab; exact hlt)
  have s2 := (s2.alloc (.cells #[.int .i64 0, .int .i64 0, .int .i64 0, .int .i64 0, .int .i64 0, .int .i64 0, .int .u8 0, .int .u8 0, .int .u8 0, .int .u8 0, .int .u8 0, .int .u8 0, .int .u8 0, .int .u8 0] 28)).below hb (by intro a ha hp; obtain ⟨b, o, hab, hlt, _⟩ := s2 (List.ne_nil_of_length_pos hp); rw [ha] at hab; cases hab; exact hlt)
  have s3 := (s3.alloc (.cells #[.int .i64 0, .int .i64 0, .int .i64 0, .int .i64 0, .int .i64 0, .int .i64 0, .int .u8 0, .int .u8 0, .int .u8 0, .int .u8 0, .int .u8 0, .int .u8 0, .int .u8 0, .int .u8 0] 28)).below hb (by intro a ha hp; obtain ⟨b, o, hab, hlt, _⟩ := s3 (List.ne_nil_of_length_pos hp); rw [ha] at hab; cases hab; exact hlt)
  have s4 := (s4.alloc (.cells #[.int .i64 0, .int .i64 0, .int .i64 0, .int .i64 0, .int .i64 0, .int .i64 0, .int .u8 0, .int .u8 0, .int .u8 0, .int .u8 0, .int .u8 0, .int .u8 0, .int .u8 0, .int .u8 0] 28)).below hb (by intro a ha hp; obtain ⟨b, o, hab, hlt, _⟩ := s4 (List.ne_nil_of_length_pos hp); rw [ha] at hab; cases hab; exact hlt)
  have hw := (hw.alloc hw.size (.cells #[.int .i64 0, .int .i64 0, .int .i64 0, .int .i64 0, .int .i64 0, .int .i64 0, .int .u8 0, .int .u8 0, .int .u8 0, .int .u8 0, .int .u8 0, .int .u8 0, .int .u8 0, .int .u8 0] 28)).trans (hb.mono hw.size)
  clear hz ho hb hs hXlt hZlt hUlt
  generalize w12.heap.size = gV at hV ⊢
  have hS := fun W => eql_msg Q Q W
  have hT := fun W => eql_reply Y Y q8.out q8.out W
  rw [decide_eq_true rfl] at hS
  rw [decide_eq_true rfl] at hT
  obtain ⟨sp, hsp⟩ : ∃ s : ByteArray, s = ⟨PM.toArray⟩ := ⟨_, rfl⟩
  obtain ⟨sr, hsr⟩ : ∃ s : ByteArray, s = ⟨PR.toArray⟩ := ⟨_, rfl⟩
  have p1 : (convert 29 9 (.slice A1 n1 c1)).run Try.prog w13 = .ok (.string sp) w13 := s1.str n1 c1 hn1.out sp hsp
  have p2 : (convert 29 9 (.slice A2 n1 c2)).run Try.prog w13 = .ok (.string sp) w13 := s2.str n1 c2 hn1.out sp hsp
  have p3 : (convert 29 9 (.slice A3 n2 c3)).run Try.prog w13 = .ok (.string sr) w13 := s3.str n2 c3 hn2.out sr hsr
  have p4 : (convert 29 9 (.slice A4 n2 c4)).run Try.prog w13 = .ok (.string sr) w13 := s4.str n2 c4 hn2.out sr hsr
  have b1 : (sp.toList == sp.toList) = true := by simp
  have b2 : (sr.toList == sr.toList) = true := by simp
  have b3 : (cm == cm) = true := beq_self_eq_true cm
  have b4 : (cr == cr) = true := beq_self_eq_true cr
  have b5 : (ct == ct) = true := beq_self_eq_true ct
  have b6 : (cu == cu) = true := beq_self_eq_true cu
  clear s1 s2 s3 s4 hsp hsr hn1 hn2 hcm hcr hct hcu hQ hY hPM hPR hL hL3 hfew hBl hql hAl r8
  obtain ⟨uk, us, ur, ut, ue, umo, uc, un, ux0, ux1, ux2, ux3⟩ := Q
  obtain ⟨yk, ys, yr, yw, ye, yc, yn⟩ := Y
  obtain ⟨y0, y1, y2, y3, y4, y5, y6, y7, rfl⟩ := eight q8.out
  have hS : ∀ W, (binOp .eql 24 (.agg #[.int .i64 uk, .int .i64 us, .int .i64 ur, .int .i64 ut, .int .i64 ue, .int .i64 umo, .int .i64 uc, .bool un, .int .i64 ux0, .int .i64 ux1, .int .i64 ux2, .int .i64 ux3]) (.agg #[.int .i64 uk, .int .i64 us, .int .i64 ur, .int .i64 ut, .int .i64 ue, .int .i64 umo, .int .i64 uc, .bool un, .int .i64 ux0, .int .i64 ux1, .int .i64 ux2, .int .i64 ux3])).run Try.prog W = .ok (.bool true) W := hS
  have hT : ∀ W, (binOp .eql 28 (.agg #[.int .i64 yk, .int .i64 ys, .int .i64 yr, .int .i64 yw, .int .i64 ye, .int .i64 yc, .int .u8 (y0.toNat : Int), .int .u8 (y1.toNat : Int), .int .u8 (y2.toNat : Int), .int .u8 (y3.toNat : Int), .int .u8 (y4.toNat : Int), .int .u8 (y5.toNat : Int), .int .u8 (y6.toNat : Int), .int .u8 (y7.toNat : Int)]) (.agg #[.int .i64 yk, .int .i64 ys, .int .i64 yr, .int .i64 yw, .int .i64 ye, .int .i64 yc, .int .u8 (y0.toNat : Int), .int .u8 (y1.toNat : Int), .int .u8 (y2.toNat : Int), .int .u8 (y3.toNat : Int), .int .u8 (y4.toNat : Int), .int .u8 (y5.toNat : Int), .int .u8 (y6.toNat : Int), .int .u8 (y7.toNat : Int)])).run Try.prog W = .ok (.bool true) W := hT
  have ca0 : w13.cell? ⟨gX, 0, none⟩ = some (.int .i64 uk) := hX.cell rfl
  have ca1 : w13.cell? ⟨gX, 1, none⟩ = some (.int .i64 us) := hX.cell rfl
  have ca2 : w13.cell? ⟨gX, 2, none⟩ = some (.int .i64 ur) := hX.cell rfl
  have ca3 : w13.cell? ⟨gX, 3, none⟩ = some (.int .i64 ut) := hX.cell rfl
  have ca4 : w13.cell? ⟨gX, 4, none⟩ = some (.int .i64 ue) := hX.cell rfl
  have ca5 : w13.cell? ⟨gX, 5, none⟩ = some (.int .i64 umo) := hX.cell rfl
  have ca6 : w13.cell? ⟨gX, 6, none⟩ = some (.int .i64 uc) := hX.cell rfl
  have ca7 : w13.cell? ⟨gX, 7, none⟩ = some (.bool un) := hX.cell rfl
  have ca8 : w13.cell? ⟨gX, 8, none⟩ = some (.int .i64 ux0) := hX.cell rfl
  have ca9 : w13.cell? ⟨gX, 9, none⟩ = some (.int .i64 ux1) := hX.cell rfl
  have ca10 : w13.cell? ⟨gX, 10, none⟩ = some (.int .i64 ux2) := hX.cell rfl
  have ca11 : w13.cell? ⟨gX, 11, none⟩ = some (.int .i64 ux3) := hX.cell rfl
  have cb0 : w13.cell? ⟨gZ, 0, none⟩ = some (.int .i64 uk) := hZ.cell rfl
  have cb1 : w13.cell? ⟨gZ, 1, none⟩ = some (.int .i64 us) := hZ.cell rfl
  have cb2 : w13.cell? ⟨gZ, 2, none⟩ = some (.int .i64 ur) := hZ.cell rfl
  have cb3 : w13.cell? ⟨gZ, 3, none⟩ = some (.int .i64 ut) := hZ.cell rfl
  have cb4 : w13.cell? ⟨gZ, 4, none⟩ = some (.int .i64 ue) := hZ.cell rfl
  have cb5 : w13.cell? ⟨gZ, 5, none⟩ = some (.int .i64 umo) := hZ.cell rfl
  have cb6 : w13.cell? ⟨gZ, 6, none⟩ = some (.int .i64 uc) := hZ.cell rfl
  have cb7 : w13.cell? ⟨gZ, 7, none⟩ = some (.bool un) := hZ.cell rfl
  have cb8 : w13.cell? ⟨gZ, 8, none⟩ = some (.int .i64 ux0) := hZ.cell rfl
  have cb9 : w13.cell? ⟨gZ, 9, none⟩ = some (.int .i64 ux1) := hZ.cell rfl
  have cb10 : w13.cell? ⟨gZ, 10, none⟩ = some (.int .i64 ux2) := hZ.cell rfl
  have cb11 : w13.cell? ⟨gZ, 11, none⟩ = some (.int .i64 ux3) := hZ.cell rfl
  have cc0 : w13.cell? ⟨gU, 0, none⟩ = some (.int .i64 yk) := hU.cell rfl
  have cc1 : w13.cell? ⟨gU, 1, none⟩ = some (.int .i64 ys) := hU.cell rfl
  have cc2 : w13.cell? ⟨gU, 2, none⟩ = some (.int .i64 yr) := hU.cell rfl
  have cc3 : w13.cell? ⟨gU, 3, none⟩ = some (.int .i64 yw) := hU.cell rfl
  have cc4 : w13.cell? ⟨gU, 4, none⟩ = some (.int .i64 ye) := hU.cell rfl
  have cc5 : w13.cell? ⟨gU, 5, none⟩ = some (.int .i64 yc) := hU.cell rfl
  have cc6 : w13.cell? ⟨gU, 6, none⟩ = some (.int .u8 (y0.toNat : Int)) := hU.cell rfl
  have cc7 : w13.cell? ⟨gU, 7, none⟩ = some (.int .u8 (y1.toNat : Int)) := hU.cell rfl
  have cc8 : w13.cell? ⟨gU, 8, none⟩ = some (.int .u8 (y2.toNat : Int)) := hU.cell rfl
  have cc9 : w13.cell? ⟨gU, 9, none⟩ = some (.int .u8 (y3.toNat : Int)) := hU.cell rfl
  have cc10 : w13.cell? ⟨gU, 10, none⟩ = some (.int .u8 (y4.toNat : Int)) := hU.cell rfl
  have cc11 : w13.cell? ⟨gU, 11, none⟩ = some (.int .u8 (y5.toNat : Int)) := hU.cell rfl
  have cc12 : w13.cell? ⟨gU, 12, none⟩ = some (.int .u8 (y6.toNat : Int)) := hU.cell rfl
  have cc13 : w13.cell? ⟨gU, 13, none⟩ = some (.int .u8 (y7.toNat : Int)) := hU.cell rfl
  have cd0 : w13.cell? ⟨gV, 0, none⟩ = some (.int .i64 yk) := hV.cell rfl
  have cd1 : w13.cell? ⟨gV, 1, none⟩ = some (.int .i64 ys) := hV.cell rfl
  have cd2 : w13.cell? ⟨gV, 2, none⟩ = some (.int .i64 yr) := hV.cell rfl
  have cd3 : w13.cell? ⟨gV, 3, none⟩ = some (.int .i64 yw) := hV.cell rfl
  have cd4 : w13.cell? ⟨gV, 4, none⟩ = some (.int .i64 ye) := hV.cell rfl
  have cd5 : w13.cell? ⟨gV, 5, none⟩ = some (.int .i64 yc) := hV.cell rfl
  have cd6 : w13.cell? ⟨gV, 6, none⟩ = some (.int .u8 (y0.toNat : Int)) := hV.cell rfl
  have cd7 : w13.cell? ⟨gV, 7, none⟩ = some (.int .u8 (y1.toNat : Int)) := hV.cell rfl
  have cd8 : w13.cell? ⟨gV, 8, none⟩ = some (.int .u8 (y2.toNat : Int)) := hV.cell rfl
  have cd9 : w13.cell? ⟨gV, 9, none⟩ = some (.int .u8 (y3.toNat : Int)) := hV.cell rfl
  have cd10 : w13.cell? ⟨gV, 10, none⟩ = some (.int .u8 (y4.toNat : Int)) := hV.cell rfl
  have cd11 : w13.cell? ⟨gV, 11, none⟩ = some (.int .u8 (y5.toNat : Int)) := hV.cell rfl
  have cd12 : w13.cell? ⟨gV, 12, none⟩ = some (.int .u8 (y6.toNat : Int)) := hV.cell rfl
  have cd13 : w13.cell? ⟨gV, 13, none⟩ = some (.int .u8 (y7.toNat : Int)) := hV.cell rfl
  clear hX hZ hU hV q8
  go_wp2
  go_ret
  exact ⟨by simp, hw⟩
end Go.Proofs.Ytmibgmcgicphoaa
