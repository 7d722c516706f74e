/-
  THE WALK OF MsgBack. (Written by program: wip/tools/gen_msg_back.py.)
-/
import Derived.Test.YtmibgmcgicphoaaMsgShown
import Derived.Test.YtmibgmcgicphoaaMsgFit
namespace Go.Proofs.Ytmibgmcgicphoaa
open Go.RowKit Go.Proofs.Ytmibgmcgicphoaa.octets Go.Proofs.Ytmibgmcgicphoaa.given Go.Proofs.Ytmibgmcgicphoaa.msg
set_option linter.unusedVariables false
set_option linter.unusedSimpArgs false

theorem got_some {l : List UInt8} {z : M} (h : takeM l = some z) : codeT l = 0 ∧ gotM l = z := by unfold codeT gotM; rw [h]; exact ⟨rfl, rfl⟩
theorem ok_zero : okM zM = false := by decide

set_option maxRecDepth 100000 in
set_option maxHeartbeats 8000000 in
theorem msgBack_of (H : CodeOk) (v v1 : Value) (a : Option Addr) (len cap : Nat) (z : List Int) (w : World) {base : Nat} (h0 : Value.okWide Try.prog w .any base 24 v) (h1 : Value.okWide Try.prog w .any base 24 v1) (h2 : Nums .u8 w a len cap z) :
    Calls Try.prog 4 #[v, v1, .slice a len cap] w fun e w' => e = .returned (.bool true) ∧ Below w.heap.size w w' := by
  obtain ⟨m, rfl⟩ := msg_came h0
  obtain ⟨m', rfl⟩ := msg_came h1
  obtain ⟨l, hll, hl, hlc⟩ := seen_nums h2
  clear h0 h1 h2
  obtain ⟨n3, hn3⟩ : ∃ n, n = min len 40 := ⟨_, rfl⟩
  have hL : Seen w a (l.take 40) := hl.take 40
  have hL3 : (l.take 40).length = n3 := by rw [List.length_take, hll, hn3]; omega
  have hfew := fun W => few_ok a len cap n3 W hlc hn3
  have hc3 : n3 ≤ cap := by omega
  have hn40 : n3 ≤ 40 := by omega
  clear hl hll hlc hn3
  generalize l.take 40 = L at hL hL3
  have hx := fit_ok m
  have hy := fit_ok m'
  have q1 := fun W => fitM_ok m W
  have q2 := fun W => fitM_ok m' W
  generalize fitM m = X at hx q1
  generalize fitM m' = Y at hy q2
  have hlx := msgB_len (m := X)
  have hly := msgB_len (m := Y)
  have hsx := sizeM_le X.kind
  have hsy := sizeM_le Y.kind
  obtain ⟨n1, hn1⟩ : ∃ n, (msgB X).length = n := ⟨_, rfl⟩
  obtain ⟨n2, hn2⟩ : ∃ n, (msgB Y).length = n := ⟨_, rfl⟩
  rw [hn1] at hlx
  rw [hn2] at hly
  rw [← hlx] at hsx
  rw [← hly] at hsy
  have hinj : msgB X = msgB Y ↔ X = Y := ⟨fun h => msg_inj hx hy h, fun h => by rw [h]⟩
  have g1 := got_ok hx
  have g2 := got_no (msg_more hx [0] (by simp))
  have p1 := fun W => H.put_at X W hx
  have p2 := fun W => H.put_at Y W hy
  have hA := (Arr.new w (mv m) 24).alloc (.cells (mv m').toArray 24)
  have hB := Arr.new (w.alloc (.cells (mv m).toArray 24)) (mv m') 24
  have hw := (below_one w (.cells (mv m).toArray 24)).alloc (by simp) (.cells (mv m').toArray 24)
  rw [World.size_alloc] at hB
  replace hn1 := Lib.hid hn1
  replace hn2 := Lib.hid hn2
  replace hL3 := Lib.hid hL3
  replace hinj := Lib.hid hinj
  replace g1 := Lib.hid g1
  replace g2 := Lib.hid g2
  clear hlx hly hx hy
  obtain ⟨bE, hbE⟩ : ∃ b, decide (X = Y) = b := ⟨_, rfl⟩
  have hE := fun W => eql_msg X Y W
  have hS := fun W => eql_msg X X W
  rw [hbE] at hE
  rw [decide_eq_true rfl] at hS
  obtain ⟨sp, hsp⟩ : ∃ s : ByteArray, s = ⟨(msgB X).toArray⟩ := ⟨_, rfl⟩
  obtain ⟨sq, hsq⟩ : ∃ s : ByteArray, s = ⟨(msgB Y).toArray⟩ := ⟨_, rfl⟩
  obtain ⟨sL, hsL⟩ : ∃ s : ByteArray, s = ⟨L.toArray⟩ := ⟨_, rfl⟩
  have hcmp : (sp.toList == sq.toList) = bE := by
    rw [← hbE, hsp, hsq, ByteArray.toList_eq, ByteArray.toList_eq, Bool.eq_iff_iff, beq_iff_eq, decide_eq_true_eq]
    exact hinj.out
  replace hsp := Lib.hid hsp
  replace hsq := Lib.hid hsq
  replace hsL := Lib.hid hsL
  replace hcmp := Lib.hid hcmp
  clear hbE hinj
  go_enter Try.func4, Try.ntmps4
  try dsimp only [List.append]
  go_wp2_with fail
  generalize (w.alloc (.cells (mv m).toArray 24)).alloc (.cells (mv m').toArray 24) = W0 at hA hB hw ⊢
  refine (shown_any H _).mono ?_
  rintro e w1 ⟨rfl, hbk⟩
  have hA := hA.since hbk
  have hB := hB.since hbk
  have hw := hw.trans (hbk.mono hw.size)
  clear hbk
  generalize w.heap.size + 1 = gB at hB ⊢
  go_wp2_with (guard_target =~ wpList _ _ _ (Oper.mk _ (Op.load 24 _) _ _ _ _ :: _) _ _; refine wpList_load_arr 12 rfl rfl rfl hA (by kernel_rfl) rfl ?_)
  refine (q1 _).mono ?_
  rintro e w2 ⟨rfl, hbk⟩
  have hA := hA.since hbk
  have hB := hB.since hbk
  have hw := hw.trans (hbk.mono hw.size)
  clear hbk
  clear hA
  have hz := new_zm w2 24
  have hBlt := hB.lt
  go_wp2_with (guard_target =~ wpList _ _ _ (Oper.mk _ (Op.store 24 _ _) _ _ _ _ :: _) _ _; refine wpList_store_arr (cs' := mv X) 12 rfl rfl rfl rfl hz (by kernel_rfl) rfl rfl (mv_one _) ?_)
  intro w3 hX ho hb hs
  have hB := (hB.alloc (.cells #[.int .i64 0, .int .i64 0, .int .i64 0, .int .i64 0, .int .i64 0, .int .i64 0, .int .i64 0, .bool false, .int .i64 0, .int .i64 0, .int .i64 0, .int .i64 0] 24)).of_block (ho _ (by omega))
  have hw := (hw.alloc hw.size (.cells #[.int .i64 0, .int .i64 0, .int .i64 0, .int .i64 0, .int .i64 0, .int .i64 0, .int .i64 0, .bool false, .int .i64 0, .int .i64 0, .int .i64 0, .int .i64 0] 24)).trans (hb.mono hw.size)
  clear hz ho hb hs hBlt
  generalize w2.heap.size = gX at hX ⊢
  go_wp2_with (guard_target =~ wpList _ _ _ (Oper.mk _ (Op.load 24 _) _ _ _ _ :: _) _ _; refine wpList_load_arr 12 rfl rfl rfl hB (by kernel_rfl) rfl ?_)
  refine (q2 _).mono ?_
  rintro e w4 ⟨rfl, hbk⟩
  have hB := hB.since hbk
  have hX := hX.since hbk
  have hw := hw.trans (hbk.mono hw.size)
  clear hbk
  clear hB
  have hz := new_zm w4 24
  have hXlt := hX.lt
  go_wp2_with (guard_target =~ wpList _ _ _ (Oper.mk _ (Op.store 24 _ _) _ _ _ _ :: _) _ _; refine wpList_store_arr (cs' := mv Y) 12 rfl rfl rfl rfl hz (by kernel_rfl) rfl rfl (mv_one _) ?_)
  intro w5 hY ho hb hs
  have hX := (hX.alloc (.cells #[.int .i64 0, .int .i64 0, .int .i64 0, .int .i64 0, .int .i64 0, .int .i64 0, .int .i64 0, .bool false, .int .i64 0, .int .i64 0, .int .i64 0, .int .i64 0] 24)).of_block (ho _ (by omega))
  have hw := (hw.alloc hw.size (.cells #[.int .i64 0, .int .i64 0, .int .i64 0, .int .i64 0, .int .i64 0, .int .i64 0, .int .i64 0, .bool false, .int .i64 0, .int .i64 0, .int .i64 0, .int .i64 0] 24)).trans (hb.mono hw.size)
  clear hz ho hb hs hXlt
  generalize w4.heap.size = gY at hY ⊢
  go_wp2_with (guard_target =~ wpList _ _ _ (Oper.mk _ (Op.load 24 _) _ _ _ _ :: _) _ _; refine wpList_load_arr 12 rfl rfl rfl hX (by kernel_rfl) rfl ?_)
  refine (p1 _).mono ?_
  rintro e w6 ⟨bp, cp, rfl, -, hp, hbk⟩
  have hX := hX.since hbk
  have hY := hY.since hbk
  have hw := hw.trans (hbk.mono hw.size)
  clear hbk
  rw [hn1.out]
  go_wp2_with (guard_target =~ wpList _ _ _ (Oper.mk _ (Op.load 24 _) _ _ _ _ :: _) _ _; refine wpList_load_arr 12 rfl rfl rfl hY (by kernel_rfl) rfl ?_)
  refine (p2 _).mono ?_
  rintro e w7 ⟨bq, cq, rfl, -, hq, hbk⟩
  have hX := hX.since hbk
  have hY := hY.since hbk
  have hp := hp.since hbk
  have hw := hw.trans (hbk.mono hw.size)
  clear hbk
  rw [hn2.out]
  have hcp : n1 ≤ cp := by have := hp.1; rw [hn1.out] at this; exact this
  have hcq : n2 ≤ cq := by have := hq.1; rw [hn2.out] at this; exact this
  go_wp2_with fail
  refine (H.take _ n1 cp _ _ hn1.out hcp (by omega) hp.seen).mono ?_
  rintro e w8 ⟨rfl, hbk⟩
  have hX := hX.since hbk
  have hY := hY.since hbk
  have hp := hp.since hbk
  have hq := hq.since hbk
  have hw := hw.trans (hbk.mono hw.size)
  clear hbk
  rw [g1.out.1, g1.out.2]
  have hz := new_zm w8 24
  have hXlt := hX.lt
  have hYlt := hY.lt
  have hplt := hp.lt
  have hqlt := hq.lt
  go_wp2_with (guard_target =~ wpList _ _ _ (Oper.mk _ (Op.store 24 _ _) _ _ _ _ :: _) _ _; refine wpList_store_arr (cs' := mv X) 12 rfl rfl rfl rfl hz (by kernel_rfl) rfl rfl (mv_one _) ?_)
  intro w9 hZ ho hb hs
  have hX := (hX.alloc (.cells #[.int .i64 0, .int .i64 0, .int .i64 0, .int .i64 0, .int .i64 0, .int .i64 0, .int .i64 0, .bool false, .int .i64 0, .int .i64 0, .int .i64 0, .int .i64 0] 24)).of_block (ho _ (by omega))
  have hY := (hY.alloc (.cells #[.int .i64 0, .int .i64 0, .int .i64 0, .int .i64 0, .int .i64 0, .int .i64 0, .int .i64 0, .bool false, .int .i64 0, .int .i64 0, .int .i64 0, .int .i64 0] 24)).of_block (ho _ (by omega))
  have hp := (hp.alloc (.cells #[.int .i64 0, .int .i64 0, .int .i64 0, .int .i64 0, .int .i64 0, .int .i64 0, .int .i64 0, .bool false, .int .i64 0, .int .i64 0, .int .i64 0, .int .i64 0] 24)).of_block (ho _ (by omega))
  have hq := (hq.alloc (.cells #[.int .i64 0, .int .i64 0, .int .i64 0, .int .i64 0, .int .i64 0, .int .i64 0, .int .i64 0, .bool false, .int .i64 0, .int .i64 0, .int .i64 0, .int .i64 0] 24)).of_block (ho _ (by omega))
  have hw := (hw.alloc hw.size (.cells #[.int .i64 0, .int .i64 0, .int .i64 0, .int .i64 0, .int .i64 0, .int .i64 0, .int .i64 0, .bool false, .int .i64 0, .int .i64 0, .int .i64 0, .int .i64 0] 24)).trans (hb.mono hw.size)
  clear hz ho hb hs hXlt hYlt hplt hqlt
  generalize w8.heap.size = gZ at hZ ⊢
  go_wp2_with fail
  refine (hfew _).mono ?_
  rintro e w' ⟨rfl, rfl⟩
  go_wp2_with fail
  refine (H.take _ n3 cap _ _ hL3.out hc3 (by omega) (hL.since hw)).mono ?_
  rintro e w10 ⟨rfl, hbk⟩
  have hX := hX.since hbk
  have hY := hY.since hbk
  have hp := hp.since hbk
  have hq := hq.since hbk
  have hZ := hZ.since hbk
  have hw := hw.trans (hbk.mono hw.size)
  clear hbk
  cases ht : takeM L with
  | none =>
    have gz := got_no ht
    rw [gz.1, gz.2]
    replace gz := Lib.hid gz
    clear ht
    have hz := new_zm w10 24
    have hXlt := hX.lt
    have hYlt := hY.lt
    have hplt := hp.lt
    have hqlt := hq.lt
    have hZlt := hZ.lt
    go_wp2_with (guard_target =~ wpList _ _ _ (Oper.mk _ (Op.store 24 _ _) _ _ _ _ :: _) _ _; refine wpList_store_arr (cs' := mv zM) 12 rfl rfl rfl rfl hz (by kernel_rfl) rfl rfl (mv_one _) ?_)
    intro w11 hQ ho hb hs
    have hX := (hX.alloc (.cells #[.int .i64 0, .int .i64 0, .int .i64 0, .int .i64 0, .int .i64 0, .int .i64 0, .int .i64 0, .bool false, .int .i64 0, .int .i64 0, .int .i64 0, .int .i64 0] 24)).of_block (ho _ (by omega))
    have hY := (hY.alloc (.cells #[.int .i64 0, .int .i64 0, .int .i64 0, .int .i64 0, .int .i64 0, .int .i64 0, .int .i64 0, .bool false, .int .i64 0, .int .i64 0, .int .i64 0, .int .i64 0] 24)).of_block (ho _ (by omega))
    have hp := (hp.alloc (.cells #[.int .i64 0, .int .i64 0, .int .i64 0, .int .i64 0, .int .i64 0, .int .i64 0, .int .i64 0, .bool false, .int .i64 0, .int .i64 0, .int .i64 0, .int .i64 0] 24)).of_block (ho _ (by omega))
    have hq := (hq.alloc (.cells #[.int .i64 0, .int .i64 0, .int .i64 0, .int .i64 0, .int .i64 0, .int .i64 0, .int .i64 0, .bool false, .int .i64 0, .int .i64 0, .int .i64 0, .int .i64 0] 24)).of_block (ho _ (by omega))
    have hZ := (hZ.alloc (.cells #[.int .i64 0, .int .i64 0, .int .i64 0, .int .i64 0, .int .i64 0, .int .i64 0, .int .i64 0, .bool false, .int .i64 0, .int .i64 0, .int .i64 0, .int .i64 0] 24)).of_block (ho _ (by omega))
    have hw := (hw.alloc hw.size (.cells #[.int .i64 0, .int .i64 0, .int .i64 0, .int .i64 0, .int .i64 0, .int .i64 0, .int .i64 0, .bool false, .int .i64 0, .int .i64 0, .int .i64 0, .int .i64 0] 24)).trans (hb.mono hw.size)
    clear hz ho hb hs hXlt hYlt hplt hqlt hZlt
    generalize w10.heap.size = gQ at hQ ⊢
    go_wp2_with (guard_target =~ wpList _ _ _ (Oper.mk _ (Op.load 24 _) _ _ _ _ :: _) _ _; refine wpList_load_arr 12 rfl rfl rfl hQ (by kernel_rfl) rfl ?_)
    refine (H.put zM _).mono ?_
    rintro e w12 ⟨v5, rfl, ho5, hbk⟩
    have hX := hX.since hbk
    have hY := hY.since hbk
    have hp := hp.since hbk
    have hq := hq.since hbk
    have hZ := hZ.since hbk
    have hQ := hQ.since hbk
    have hw := hw.trans (hbk.mono hw.size)
    clear hbk
    rw [(code_no ok_zero).2] at ho5
    rw [(code_no ok_zero).1]
    obtain ⟨A5, c5, rfl, -⟩ := ho5.seen_at (k := 0) rfl
    clear ho5
    have hb6 := below_one w12 (.cells #[] 5)
    have ho6 := Own.empty w12 w12.heap.size (Nat.le_refl _)
    have hs6 := hp.seen.alloc (.cells #[] 5)
    go_wp2_with (at_builtin; refine wpList_append_own_any _ rfl _ _ rfl w12.heap.size _ [] rfl ho6 (some ⟨bp, 0, none⟩) n1 cp rfl (msgB X) hn1.out hs6 (by simp [hn1.out]; omega) hb6.size ?_)
    intro v7 wa ho7 hg7 hat7
    have ho7 : Own wa w12.heap.size v7 (msgB X) := by simpa using ho7
    have hb7 := ho6.grew hb6 (Nat.le_refl _) hb6.size hg7
    have hlit : Seen (wa.alloc (.cells #[.int .u8 0] 5)) (some ⟨wa.heap.size, 0, none⟩) [0] := (Held.lit wa [0] _ rfl (by simp [maxLen])).seen
    have ho8 := ho7.alloc (.cells #[.int .u8 0] 5)
    have hb8 := hb7.alloc hb7.size (.cells #[.int .u8 0] 5)
    clear hb6 ho6 hs6 hg7 hat7 ho7 hb7
    go_wp2_with (at_builtin; refine wpList_append_own_any _ rfl _ _ rfl w12.heap.size _ (msgB X) rfl ho8 _ 1 1 rfl [0] rfl hlit (by rw [hn1.out]; simp; omega) hb8.size ?_)
    intro v9 wb ho9 hg9 hat9
    have hb9 := ho8.grew hb8 (Nat.le_refl _) hb8.size hg9
    obtain ⟨A9, c9, rfl, hs9⟩ := ho9.seen_at (k := n1 + 1) (by rw [List.length_append, hn1.out]; rfl)
    have hc9 : n1 + 1 ≤ c9 := by
      rcases ho9.2 with ⟨h, h'⟩ | ⟨g, cap', cur, h, _, _, hh, _⟩
      · rw [List.length_append, hn1.out] at h'; simp at h'
      · injection h with _ _ h; subst h; rw [List.length_append, hn1.out] at hh; exact hh
    have hX := hX.since hb9
    have hY := hY.since hb9
    have hp := hp.since hb9
    have hq := hq.since hb9
    have hZ := hZ.since hb9
    have hQ := hQ.since hb9
    have hw := hw.trans (hb9.mono hw.size)
    clear ho8 hb8 hlit ho9 hg9 hat9 hb9
    go_wp2_with fail
    refine (H.take _ (n1 + 1) c9 _ _ (by rw [List.length_append, hn1.out]; rfl) hc9 (by omega) hs9).mono ?_
    rintro e w13 ⟨rfl, hbq⟩
    have hX := hX.since hbq
    have hY := hY.since hbq
    have hp := hp.since hbq
    have hq := hq.since hbq
    have hZ := hZ.since hbq
    have hQ := hQ.since hbq
    have hw := hw.trans (hbq.mono hw.size)
    clear hbq
    rw [g2.out.1, g2.out.2]
    have e0 : (mv zM).toArray = #[.int .i64 0, .int .i64 0, .int .i64 0, .int .i64 0, .int .i64 0, .int .i64 0, .int .i64 0, .bool false, .int .i64 0, .int .i64 0, .int .i64 0, .int .i64 0] := rfl
    have hzf := new_zm w13 24
    have hXlt := hX.lt
    have hYlt := hY.lt
    have hplt := hp.lt
    have hqlt := hq.lt
    have hZlt := hZ.lt
    have hQlt := hQ.lt
    go_wp2_with (guard_target =~ wpList _ _ _ (Oper.mk _ (Op.store 24 _ _) _ _ _ _ :: _) _ _; refine wpList_store_arr (cs' := mv zM) 12 rfl rfl rfl rfl hzf (by kernel_rfl) rfl rfl (mv_one _) ?_)
    intro wf hM ho hb hs
    have hX := (hX.alloc (.cells #[.int .i64 0, .int .i64 0, .int .i64 0, .int .i64 0, .int .i64 0, .int .i64 0, .int .i64 0, .bool false, .int .i64 0, .int .i64 0, .int .i64 0, .int .i64 0] 24)).of_block (ho _ (by omega))
    have hY := (hY.alloc (.cells #[.int .i64 0, .int .i64 0, .int .i64 0, .int .i64 0, .int .i64 0, .int .i64 0, .int .i64 0, .bool false, .int .i64 0, .int .i64 0, .int .i64 0, .int .i64 0] 24)).of_block (ho _ (by omega))
    have hp := (hp.alloc (.cells #[.int .i64 0, .int .i64 0, .int .i64 0, .int .i64 0, .int .i64 0, .int .i64 0, .int .i64 0, .bool false, .int .i64 0, .int .i64 0, .int .i64 0, .int .i64 0] 24)).of_block (ho _ (by omega))
    have hq := (hq.alloc (.cells #[.int .i64 0, .int .i64 0, .int .i64 0, .int .i64 0, .int .i64 0, .int .i64 0, .int .i64 0, .bool false, .int .i64 0, .int .i64 0, .int .i64 0, .int .i64 0] 24)).of_block (ho _ (by omega))
    have hZ := (hZ.alloc (.cells #[.int .i64 0, .int .i64 0, .int .i64 0, .int .i64 0, .int .i64 0, .int .i64 0, .int .i64 0, .bool false, .int .i64 0, .int .i64 0, .int .i64 0, .int .i64 0] 24)).of_block (ho _ (by omega))
    have hQ := (hQ.alloc (.cells #[.int .i64 0, .int .i64 0, .int .i64 0, .int .i64 0, .int .i64 0, .int .i64 0, .int .i64 0, .bool false, .int .i64 0, .int .i64 0, .int .i64 0, .int .i64 0] 24)).of_block (ho _ (by omega))
    have hw := (hw.alloc hw.size (.cells #[.int .i64 0, .int .i64 0, .int .i64 0, .int .i64 0, .int .i64 0, .int .i64 0, .int .i64 0, .bool false, .int .i64 0, .int .i64 0, .int .i64 0, .int .i64 0] 24)).trans (hb.mono hw.size)
    clear hzf ho hb hs hM e0 hXlt hYlt hplt hqlt hZlt hQlt
    have t1 : ∀ q, (convert 29 9 (.slice (some ⟨bp, 0, none⟩) n1 cp)).run Try.prog (wf.drewN q) = .ok (.string sp) (wf.drewN q) := fun q => (hp.seen.drewN q).str n1 cp hn1.out sp hsp.out
    have t2 : ∀ q, (convert 29 9 (.slice (some ⟨bq, 0, none⟩) n2 cq)).run Try.prog (wf.drewN q) = .ok (.string sq) (wf.drewN q) := fun q => (hq.seen.drewN q).str n2 cq hn2.out sq hsq.out
    have hn16 : (n1 : Int) ≤ 16 := by omega
    clear hp hq p1 p2 g1 g2 gz hL
    have hX0 := hX
    have hY0 := hY
    have hZ0 := hZ
    have hQ0 := hQ
    obtain ⟨uk, us, ur, ut, ue, umo, uc, un, ux0, ux1, ux2, ux3⟩ := X
    obtain ⟨yk, ys, yr, yt, ye, ymo, yc, yn, yx0, yx1, yx2, yx3⟩ := Y
    have hE : ∀ W, (binOp .eql 24 (.agg #[.int .i64 uk, .int .i64 us, .int .i64 ur, .int .i64 ut, .int .i64 ue, .int .i64 umo, .int .i64 uc, .bool un, .int .i64 ux0, .int .i64 ux1, .int .i64 ux2, .int .i64 ux3]) (.agg #[.int .i64 yk, .int .i64 ys, .int .i64 yr, .int .i64 yt, .int .i64 ye, .int .i64 ymo, .int .i64 yc, .bool yn, .int .i64 yx0, .int .i64 yx1, .int .i64 yx2, .int .i64 yx3])).run Try.prog W = .ok (.bool bE) W := hE
    have hS : ∀ W, (binOp .eql 24 (.agg #[.int .i64 uk, .int .i64 us, .int .i64 ur, .int .i64 ut, .int .i64 ue, .int .i64 umo, .int .i64 uc, .bool un, .int .i64 ux0, .int .i64 ux1, .int .i64 ux2, .int .i64 ux3]) (.agg #[.int .i64 uk, .int .i64 us, .int .i64 ur, .int .i64 ut, .int .i64 ue, .int .i64 umo, .int .i64 uc, .bool un, .int .i64 ux0, .int .i64 ux1, .int .i64 ux2, .int .i64 ux3])).run Try.prog W = .ok (.bool true) W := hS
    have ca0 : ∀ q, (wf.drewN q).cell? ⟨gX, 0, none⟩ = some (.int .i64 uk) := fun q => hX.cell rfl
    have ca1 : ∀ q, (wf.drewN q).cell? ⟨gX, 1, none⟩ = some (.int .i64 us) := fun q => hX.cell rfl
    have ca2 : ∀ q, (wf.drewN q).cell? ⟨gX, 2, none⟩ = some (.int .i64 ur) := fun q => hX.cell rfl
    have ca3 : ∀ q, (wf.drewN q).cell? ⟨gX, 3, none⟩ = some (.int .i64 ut) := fun q => hX.cell rfl
    have ca4 : ∀ q, (wf.drewN q).cell? ⟨gX, 4, none⟩ = some (.int .i64 ue) := fun q => hX.cell rfl
    have ca5 : ∀ q, (wf.drewN q).cell? ⟨gX, 5, none⟩ = some (.int .i64 umo) := fun q => hX.cell rfl
    have ca6 : ∀ q, (wf.drewN q).cell? ⟨gX, 6, none⟩ = some (.int .i64 uc) := fun q => hX.cell rfl
    have ca7 : ∀ q, (wf.drewN q).cell? ⟨gX, 7, none⟩ = some (.bool un) := fun q => hX.cell rfl
    have ca8 : ∀ q, (wf.drewN q).cell? ⟨gX, 8, none⟩ = some (.int .i64 ux0) := fun q => hX.cell rfl
    have ca9 : ∀ q, (wf.drewN q).cell? ⟨gX, 9, none⟩ = some (.int .i64 ux1) := fun q => hX.cell rfl
    have ca10 : ∀ q, (wf.drewN q).cell? ⟨gX, 10, none⟩ = some (.int .i64 ux2) := fun q => hX.cell rfl
    have ca11 : ∀ q, (wf.drewN q).cell? ⟨gX, 11, none⟩ = some (.int .i64 ux3) := fun q => hX.cell rfl
    have cb0 : ∀ q, (wf.drewN q).cell? ⟨gY, 0, none⟩ = some (.int .i64 yk) := fun q => hY.cell rfl
    have cb1 : ∀ q, (wf.drewN q).cell? ⟨gY, 1, none⟩ = some (.int .i64 ys) := fun q => hY.cell rfl
    have cb2 : ∀ q, (wf.drewN q).cell? ⟨gY, 2, none⟩ = some (.int .i64 yr) := fun q => hY.cell rfl
    have cb3 : ∀ q, (wf.drewN q).cell? ⟨gY, 3, none⟩ = some (.int .i64 yt) := fun q => hY.cell rfl
    have cb4 : ∀ q, (wf.drewN q).cell? ⟨gY, 4, none⟩ = some (.int .i64 ye) := fun q => hY.cell rfl
    have cb5 : ∀ q, (wf.drewN q).cell? ⟨gY, 5, none⟩ = some (.int .i64 ymo) := fun q => hY.cell rfl
    have cb6 : ∀ q, (wf.drewN q).cell? ⟨gY, 6, none⟩ = some (.int .i64 yc) := fun q => hY.cell rfl
    have cb7 : ∀ q, (wf.drewN q).cell? ⟨gY, 7, none⟩ = some (.bool yn) := fun q => hY.cell rfl
    have cb8 : ∀ q, (wf.drewN q).cell? ⟨gY, 8, none⟩ = some (.int .i64 yx0) := fun q => hY.cell rfl
    have cb9 : ∀ q, (wf.drewN q).cell? ⟨gY, 9, none⟩ = some (.int .i64 yx1) := fun q => hY.cell rfl
    have cb10 : ∀ q, (wf.drewN q).cell? ⟨gY, 10, none⟩ = some (.int .i64 yx2) := fun q => hY.cell rfl
    have cb11 : ∀ q, (wf.drewN q).cell? ⟨gY, 11, none⟩ = some (.int .i64 yx3) := fun q => hY.cell rfl
    have cc0 : ∀ q, (wf.drewN q).cell? ⟨gZ, 0, none⟩ = some (.int .i64 uk) := fun q => hZ.cell rfl
    have cc1 : ∀ q, (wf.drewN q).cell? ⟨gZ, 1, none⟩ = some (.int .i64 us) := fun q => hZ.cell rfl
    have cc2 : ∀ q, (wf.drewN q).cell? ⟨gZ, 2, none⟩ = some (.int .i64 ur) := fun q => hZ.cell rfl
    have cc3 : ∀ q, (wf.drewN q).cell? ⟨gZ, 3, none⟩ = some (.int .i64 ut) := fun q => hZ.cell rfl
    have cc4 : ∀ q, (wf.drewN q).cell? ⟨gZ, 4, none⟩ = some (.int .i64 ue) := fun q => hZ.cell rfl
    have cc5 : ∀ q, (wf.drewN q).cell? ⟨gZ, 5, none⟩ = some (.int .i64 umo) := fun q => hZ.cell rfl
    have cc6 : ∀ q, (wf.drewN q).cell? ⟨gZ, 6, none⟩ = some (.int .i64 uc) := fun q => hZ.cell rfl
    have cc7 : ∀ q, (wf.drewN q).cell? ⟨gZ, 7, none⟩ = some (.bool un) := fun q => hZ.cell rfl
    have cc8 : ∀ q, (wf.drewN q).cell? ⟨gZ, 8, none⟩ = some (.int .i64 ux0) := fun q => hZ.cell rfl
    have cc9 : ∀ q, (wf.drewN q).cell? ⟨gZ, 9, none⟩ = some (.int .i64 ux1) := fun q => hZ.cell rfl
    have cc10 : ∀ q, (wf.drewN q).cell? ⟨gZ, 10, none⟩ = some (.int .i64 ux2) := fun q => hZ.cell rfl
    have cc11 : ∀ q, (wf.drewN q).cell? ⟨gZ, 11, none⟩ = some (.int .i64 ux3) := fun q => hZ.cell rfl
    have z1 : ∀ W, (binOp .eql 24 (.agg #[.int .i64 0, .int .i64 0, .int .i64 0, .int .i64 0, .int .i64 0, .int .i64 0, .int .i64 0, .bool false, .int .i64 0, .int .i64 0, .int .i64 0, .int .i64 0]) (.agg #[.int .i64 0, .int .i64 0, .int .i64 0, .int .i64 0, .int .i64 0, .int .i64 0, .int .i64 0, .bool false, .int .i64 0, .int .i64 0, .int .i64 0, .int .i64 0])).run Try.prog W = .ok (.bool true) W := fun W => by
      have := eql_msg zM zM W
      rw [decide_eq_true rfl] at this
      exact this
    have cd0 : ∀ q, (wf.drewN q).cell? ⟨gQ, 0, none⟩ = some (.int .i64 0) := fun q => hQ.cell rfl
    have cd1 : ∀ q, (wf.drewN q).cell? ⟨gQ, 1, none⟩ = some (.int .i64 0) := fun q => hQ.cell rfl
    have cd2 : ∀ q, (wf.drewN q).cell? ⟨gQ, 2, none⟩ = some (.int .i64 0) := fun q => hQ.cell rfl
    have cd3 : ∀ q, (wf.drewN q).cell? ⟨gQ, 3, none⟩ = some (.int .i64 0) := fun q => hQ.cell rfl
    have cd4 : ∀ q, (wf.drewN q).cell? ⟨gQ, 4, none⟩ = some (.int .i64 0) := fun q => hQ.cell rfl
    have cd5 : ∀ q, (wf.drewN q).cell? ⟨gQ, 5, none⟩ = some (.int .i64 0) := fun q => hQ.cell rfl
    have cd6 : ∀ q, (wf.drewN q).cell? ⟨gQ, 6, none⟩ = some (.int .i64 0) := fun q => hQ.cell rfl
    have cd7 : ∀ q, (wf.drewN q).cell? ⟨gQ, 7, none⟩ = some (.bool false) := fun q => hQ.cell rfl
    have cd8 : ∀ q, (wf.drewN q).cell? ⟨gQ, 8, none⟩ = some (.int .i64 0) := fun q => hQ.cell rfl
    have cd9 : ∀ q, (wf.drewN q).cell? ⟨gQ, 9, none⟩ = some (.int .i64 0) := fun q => hQ.cell rfl
    have cd10 : ∀ q, (wf.drewN q).cell? ⟨gQ, 10, none⟩ = some (.int .i64 0) := fun q => hQ.cell rfl
    have cd11 : ∀ q, (wf.drewN q).cell? ⟨gQ, 11, none⟩ = some (.int .i64 0) := fun q => hQ.cell rfl
    clear hX hY hZ hQ hX0 hY0 hZ0 hQ0 hn1 hn2
    have hcmq := hcmp.out
    go_wp2_with fail
    go_quiet (fail)
    have hwn := below_drawn hw nq
    go_wp2
    go_ret
    exact ⟨by simp [hcmp.out], hwn⟩
  | some Q =>
    have gz := got_some ht
    have gq := take_is ht
    have cq0 := code_ok gq.1
    rw [gz.1, gz.2]
    replace gz := Lib.hid gz
    clear ht
    replace gq := Lib.hid gq
    replace cq0 := Lib.hid cq0
    have hz := new_zm w10 24
    have hXlt := hX.lt
    have hYlt := hY.lt
    have hplt := hp.lt
    have hqlt := hq.lt
    have hZlt := hZ.lt
    go_wp2_with (guard_target =~ wpList _ _ _ (Oper.mk _ (Op.store 24 _ _) _ _ _ _ :: _) _ _; refine wpList_store_arr (cs' := mv Q) 12 rfl rfl rfl rfl hz (by kernel_rfl) rfl rfl (mv_one _) ?_)
    intro w11 hQ ho hb hs
    have hX := (hX.alloc (.cells #[.int .i64 0, .int .i64 0, .int .i64 0, .int .i64 0, .int .i64 0, .int .i64 0, .int .i64 0, .bool false, .int .i64 0, .int .i64 0, .int .i64 0, .int .i64 0] 24)).of_block (ho _ (by omega))
    have hY := (hY.alloc (.cells #[.int .i64 0, .int .i64 0, .int .i64 0, .int .i64 0, .int .i64 0, .int .i64 0, .int .i64 0, .bool false, .int .i64 0, .int .i64 0, .int .i64 0, .int .i64 0] 24)).of_block (ho _ (by omega))
    have hp := (hp.alloc (.cells #[.int .i64 0, .int .i64 0, .int .i64 0, .int .i64 0, .int .i64 0, .int .i64 0, .int .i64 0, .bool false, .int .i64 0, .int .i64 0, .int .i64 0, .int .i64 0] 24)).of_block (ho _ (by omega))
    have hq := (hq.alloc (.cells #[.int .i64 0, .int .i64 0, .int .i64 0, .int .i64 0, .int .i64 0, .int .i64 0, .int .i64 0, .bool false, .int .i64 0, .int .i64 0, .int .i64 0, .int .i64 0] 24)).of_block (ho _ (by omega))
    have hZ := (hZ.alloc (.cells #[.int .i64 0, .int .i64 0, .int .i64 0, .int .i64 0, .int .i64 0, .int .i64 0, .int .i64 0, .bool false, .int .i64 0, .int .i64 0, .int .i64 0, .int .i64 0] 24)).of_block (ho _ (by omega))
    have hw := (hw.alloc hw.size (.cells #[.int .i64 0, .int .i64 0, .int .i64 0, .int .i64 0, .int .i64 0, .int .i64 0, .int .i64 0, .bool false, .int .i64 0, .int .i64 0, .int .i64 0, .int .i64 0] 24)).trans (hb.mono hw.size)
    clear hz ho hb hs hXlt hYlt hplt hqlt hZlt
    generalize w10.heap.size = gQ at hQ ⊢
    go_wp2_with (guard_target =~ wpList _ _ _ (Oper.mk _ (Op.load 24 _) _ _ _ _ :: _) _ _; refine wpList_load_arr 12 rfl rfl rfl hQ (by kernel_rfl) rfl ?_)
    refine (H.put Q _).mono ?_
    rintro e w12 ⟨v5, rfl, ho5, hbk⟩
    have hX := hX.since hbk
    have hY := hY.since hbk
    have hp := hp.since hbk
    have hq := hq.since hbk
    have hZ := hZ.since hbk
    have hQ := hQ.since hbk
    have hw := hw.trans (hbk.mono hw.size)
    clear hbk
    rw [cq0.out.2, gq.out.2] at ho5
    rw [cq0.out.1]
    obtain ⟨A5, c5, rfl, hA5⟩ := ho5.seen_at (k := n3) hL3.out
    clear ho5
    have hb6 := below_one w12 (.cells #[] 5)
    have ho6 := Own.empty w12 w12.heap.size (Nat.le_refl _)
    have hs6 := hp.seen.alloc (.cells #[] 5)
    go_wp2_with (at_builtin; refine wpList_append_own_any _ rfl _ _ rfl w12.heap.size _ [] rfl ho6 (some ⟨bp, 0, none⟩) n1 cp rfl (msgB X) hn1.out hs6 (by simp [hn1.out]; omega) hb6.size ?_)
    intro v7 wa ho7 hg7 hat7
    have ho7 : Own wa w12.heap.size v7 (msgB X) := by simpa using ho7
    have hb7 := ho6.grew hb6 (Nat.le_refl _) hb6.size hg7
    have hlit : Seen (wa.alloc (.cells #[.int .u8 0] 5)) (some ⟨wa.heap.size, 0, none⟩) [0] := (Held.lit wa [0] _ rfl (by simp [maxLen])).seen
    have ho8 := ho7.alloc (.cells #[.int .u8 0] 5)
    have hb8 := hb7.alloc hb7.size (.cells #[.int .u8 0] 5)
    clear hb6 ho6 hs6 hg7 hat7 ho7 hb7
    go_wp2_with (at_builtin; refine wpList_append_own_any _ rfl _ _ rfl w12.heap.size _ (msgB X) rfl ho8 _ 1 1 rfl [0] rfl hlit (by rw [hn1.out]; simp; omega) hb8.size ?_)
    intro v9 wb ho9 hg9 hat9
    have hb9 := ho8.grew hb8 (Nat.le_refl _) hb8.size hg9
    obtain ⟨A9, c9, rfl, hs9⟩ := ho9.seen_at (k := n1 + 1) (by rw [List.length_append, hn1.out]; rfl)
    have hc9 : n1 + 1 ≤ c9 := by
      rcases ho9.2 with ⟨h, h'⟩ | ⟨g, cap', cur, h, _, _, hh, _⟩
      · rw [List.length_append, hn1.out] at h'; simp at h'
      · injection h with _ _ h; subst h; rw [List.length_append, hn1.out] at hh; exact hh
    have hX := hX.since hb9
    have hY := hY.since hb9
    have hp := hp.since hb9
    have hq := hq.since hb9
    have hZ := hZ.since hb9
    have hQ := hQ.since hb9
    have hA5 := hA5.since hb9
    have hw := hw.trans (hb9.mono hw.size)
    clear ho8 hb8 hlit ho9 hg9 hat9 hb9
    go_wp2_with fail
    refine (H.take _ (n1 + 1) c9 _ _ (by rw [List.length_append, hn1.out]; rfl) hc9 (by omega) hs9).mono ?_
    rintro e w13 ⟨rfl, hbq⟩
    have hX := hX.since hbq
    have hY := hY.since hbq
    have hp := hp.since hbq
    have hq := hq.since hbq
    have hZ := hZ.since hbq
    have hQ := hQ.since hbq
    have hw := hw.trans (hbq.mono hw.size)
    have hA5 := hA5.since hbq
    clear hbq
    rw [g2.out.1, g2.out.2]
    have e0 : (mv zM).toArray = #[.int .i64 0, .int .i64 0, .int .i64 0, .int .i64 0, .int .i64 0, .int .i64 0, .int .i64 0, .bool false, .int .i64 0, .int .i64 0, .int .i64 0, .int .i64 0] := rfl
    have hzf := new_zm w13 24
    have hXlt := hX.lt
    have hYlt := hY.lt
    have hplt := hp.lt
    have hqlt := hq.lt
    have hZlt := hZ.lt
    have hQlt := hQ.lt
    go_wp2_with (guard_target =~ wpList _ _ _ (Oper.mk _ (Op.store 24 _ _) _ _ _ _ :: _) _ _; refine wpList_store_arr (cs' := mv zM) 12 rfl rfl rfl rfl hzf (by kernel_rfl) rfl rfl (mv_one _) ?_)
    intro wf hM ho hb hs
    have hX := (hX.alloc (.cells #[.int .i64 0, .int .i64 0, .int .i64 0, .int .i64 0, .int .i64 0, .int .i64 0, .int .i64 0, .bool false, .int .i64 0, .int .i64 0, .int .i64 0, .int .i64 0] 24)).of_block (ho _ (by omega))
    have hY := (hY.alloc (.cells #[.int .i64 0, .int .i64 0, .int .i64 0, .int .i64 0, .int .i64 0, .int .i64 0, .int .i64 0, .bool false, .int .i64 0, .int .i64 0, .int .i64 0, .int .i64 0] 24)).of_block (ho _ (by omega))
    have hp := (hp.alloc (.cells #[.int .i64 0, .int .i64 0, .int .i64 0, .int .i64 0, .int .i64 0, .int .i64 0, .int .i64 0, .bool false, .int .i64 0, .int .i64 0, .int .i64 0, .int .i64 0] 24)).of_block (ho _ (by omega))
    have hq := (hq.alloc (.cells #[.int .i64 0, .int .i64 0, .int .i64 0, .int .i64 0, .int .i64 0, .int .i64 0, .int .i64 0, .bool false, .int .i64 0, .int .i64 0, .int .i64 0, .int .i64 0] 24)).of_block (ho _ (by omega))
    have hZ := (hZ.alloc (.cells #[.int .i64 0, .int .i64 0, .int .i64 0, .int .i64 0, .int .i64 0, .int .i64 0, .int .i64 0, .bool false, .int .i64 0, .int .i64 0, .int .i64 0, .int .i64 0] 24)).of_block (ho _ (by omega))
    have hQ := (hQ.alloc (.cells #[.int .i64 0, .int .i64 0, .int .i64 0, .int .i64 0, .int .i64 0, .int .i64 0, .int .i64 0, .bool false, .int .i64 0, .int .i64 0, .int .i64 0, .int .i64 0] 24)).of_block (ho _ (by omega))
    have hA5 := (hA5.alloc (.cells #[.int .i64 0, .int .i64 0, .int .i64 0, .int .i64 0, .int .i64 0, .int .i64 0, .int .i64 0, .bool false, .int .i64 0, .int .i64 0, .int .i64 0, .int .i64 0] 24)).below hb (by intro a ha hp; obtain ⟨b, o, hab, hlt, _⟩ := hA5 (List.ne_nil_of_length_pos hp); rw [ha] at hab; cases hab; exact hlt)
    have hw := (hw.alloc hw.size (.cells #[.int .i64 0, .int .i64 0, .int .i64 0, .int .i64 0, .int .i64 0, .int .i64 0, .int .i64 0, .bool false, .int .i64 0, .int .i64 0, .int .i64 0, .int .i64 0] 24)).trans (hb.mono hw.size)
    clear hzf ho hb hs hM e0 hXlt hYlt hplt hqlt hZlt hQlt
    have t1 : ∀ q, (convert 29 9 (.slice (some ⟨bp, 0, none⟩) n1 cp)).run Try.prog (wf.drewN q) = .ok (.string sp) (wf.drewN q) := fun q => (hp.seen.drewN q).str n1 cp hn1.out sp hsp.out
    have t2 : ∀ q, (convert 29 9 (.slice (some ⟨bq, 0, none⟩) n2 cq)).run Try.prog (wf.drewN q) = .ok (.string sq) (wf.drewN q) := fun q => (hq.seen.drewN q).str n2 cq hn2.out sq hsq.out
    have t3 : ∀ q, (convert 29 9 (.slice A5 n3 c5)).run Try.prog (wf.drewN q) = .ok (.string sL) (wf.drewN q) := fun q => (hA5.drewN q).str n3 c5 hL3.out sL hsL.out
    have t4 : ∀ q, (convert 29 9 (.slice a n3 cap)).run Try.prog (wf.drewN q) = .ok (.string sL) (wf.drewN q) := fun q => ((hL.since hw).drewN q).str n3 cap hL3.out sL hsL.out
    have hn16 : (n1 : Int) ≤ 16 := by omega
    clear hp hq p1 p2 g1 g2 gz hL hA5 gq cq0
    have hX0 := hX
    have hY0 := hY
    have hZ0 := hZ
    have hQ0 := hQ
    obtain ⟨uk, us, ur, ut, ue, umo, uc, un, ux0, ux1, ux2, ux3⟩ := X
    obtain ⟨yk, ys, yr, yt, ye, ymo, yc, yn, yx0, yx1, yx2, yx3⟩ := Y
    have hE : ∀ W, (binOp .eql 24 (.agg #[.int .i64 uk, .int .i64 us, .int .i64 ur, .int .i64 ut, .int .i64 ue, .int .i64 umo, .int .i64 uc, .bool un, .int .i64 ux0, .int .i64 ux1, .int .i64 ux2, .int .i64 ux3]) (.agg #[.int .i64 yk, .int .i64 ys, .int .i64 yr, .int .i64 yt, .int .i64 ye, .int .i64 ymo, .int .i64 yc, .bool yn, .int .i64 yx0, .int .i64 yx1, .int .i64 yx2, .int .i64 yx3])).run Try.prog W = .ok (.bool bE) W := hE
    have hS : ∀ W, (binOp .eql 24 (.agg #[.int .i64 uk, .int .i64 us, .int .i64 ur, .int .i64 ut, .int .i64 ue, .int .i64 umo, .int .i64 uc, .bool un, .int .i64 ux0, .int .i64 ux1, .int .i64 ux2, .int .i64 ux3]) (.agg #[.int .i64 uk, .int .i64 us, .int .i64 ur, .int .i64 ut, .int .i64 ue, .int .i64 umo, .int .i64 uc, .bool un, .int .i64 ux0, .int .i64 ux1, .int .i64 ux2, .int .i64 ux3])).run Try.prog W = .ok (.bool true) W := hS
    have ca0 : ∀ q, (wf.drewN q).cell? ⟨gX, 0, none⟩ = some (.int .i64 uk) := fun q => hX.cell rfl
    have ca1 : ∀ q, (wf.drewN q).cell? ⟨gX, 1, none⟩ = some (.int .i64 us) := fun q => hX.cell rfl
    have ca2 : ∀ q, (wf.drewN q).cell? ⟨gX, 2, none⟩ = some (.int .i64 ur) := fun q => hX.cell rfl
    have ca3 : ∀ q, (wf.drewN q).cell? ⟨gX, 3, none⟩ = some (.int .i64 ut) := fun q => hX.cell rfl
    have ca4 : ∀ q, (wf.drewN q).cell? ⟨gX, 4, none⟩ = some (.int .i64 ue) := fun q => hX.cell rfl
    have ca5 : ∀ q, (wf.drewN q).cell? ⟨gX, 5, none⟩ = some (.int .i64 umo) := fun q => hX.cell rfl
    have ca6 : ∀ q, (wf.drewN q).cell? ⟨gX, 6, none⟩ = some (.int .i64 uc) := fun q => hX.cell rfl
    have ca7 : ∀ q, (wf.drewN q).cell? ⟨gX, 7, none⟩ = some (.bool un) := fun q => hX.cell rfl
    have ca8 : ∀ q, (wf.drewN q).cell? ⟨gX, 8, none⟩ = some (.int .i64 ux0) := fun q => hX.cell rfl
    have ca9 : ∀ q, (wf.drewN q).cell? ⟨gX, 9, none⟩ = some (.int .i64 ux1) := fun q => hX.cell rfl
    have ca10 : ∀ q, (wf.drewN q).cell? ⟨gX, 10, none⟩ = some (.int .i64 ux2) := fun q => hX.cell rfl
    have ca11 : ∀ q, (wf.drewN q).cell? ⟨gX, 11, none⟩ = some (.int .i64 ux3) := fun q => hX.cell rfl
    have cb0 : ∀ q, (wf.drewN q).cell? ⟨gY, 0, none⟩ = some (.int .i64 yk) := fun q => hY.cell rfl
    have cb1 : ∀ q, (wf.drewN q).cell? ⟨gY, 1, none⟩ = some (.int .i64 ys) := fun q => hY.cell rfl
    have cb2 : ∀ q, (wf.drewN q).cell? ⟨gY, 2, none⟩ = some (.int .i64 yr) := fun q => hY.cell rfl
    have cb3 : ∀ q, (wf.drewN q).cell? ⟨gY, 3, none⟩ = some (.int .i64 yt) := fun q => hY.cell rfl
    have cb4 : ∀ q, (wf.drewN q).cell? ⟨gY, 4, none⟩ = some (.int .i64 ye) := fun q => hY.cell rfl
    have cb5 : ∀ q, (wf.drewN q).cell? ⟨gY, 5, none⟩ = some (.int .i64 ymo) := fun q => hY.cell rfl
    have cb6 : ∀ q, (wf.drewN q).cell? ⟨gY, 6, none⟩ = some (.int .i64 yc) := fun q => hY.cell rfl
    have cb7 : ∀ q, (wf.drewN q).cell? ⟨gY, 7, none⟩ = some (.bool yn) := fun q => hY.cell rfl
    have cb8 : ∀ q, (wf.drewN q).cell? ⟨gY, 8, none⟩ = some (.int .i64 yx0) := fun q => hY.cell rfl
    have cb9 : ∀ q, (wf.drewN q).cell? ⟨gY, 9, none⟩ = some (.int .i64 yx1) := fun q => hY.cell rfl
    have cb10 : ∀ q, (wf.drewN q).cell? ⟨gY, 10, none⟩ = some (.int .i64 yx2) := fun q => hY.cell rfl
    have cb11 : ∀ q, (wf.drewN q).cell? ⟨gY, 11, none⟩ = some (.int .i64 yx3) := fun q => hY.cell rfl
    have cc0 : ∀ q, (wf.drewN q).cell? ⟨gZ, 0, none⟩ = some (.int .i64 uk) := fun q => hZ.cell rfl
    have cc1 : ∀ q, (wf.drewN q).cell? ⟨gZ, 1, none⟩ = some (.int .i64 us) := fun q => hZ.cell rfl
    have cc2 : ∀ q, (wf.drewN q).cell? ⟨gZ, 2, none⟩ = some (.int .i64 ur) := fun q => hZ.cell rfl
    have cc3 : ∀ q, (wf.drewN q).cell? ⟨gZ, 3, none⟩ = some (.int .i64 ut) := fun q => hZ.cell rfl
    have cc4 : ∀ q, (wf.drewN q).cell? ⟨gZ, 4, none⟩ = some (.int .i64 ue) := fun q => hZ.cell rfl
    have cc5 : ∀ q, (wf.drewN q).cell? ⟨gZ, 5, none⟩ = some (.int .i64 umo) := fun q => hZ.cell rfl
    have cc6 : ∀ q, (wf.drewN q).cell? ⟨gZ, 6, none⟩ = some (.int .i64 uc) := fun q => hZ.cell rfl
    have cc7 : ∀ q, (wf.drewN q).cell? ⟨gZ, 7, none⟩ = some (.bool un) := fun q => hZ.cell rfl
    have cc8 : ∀ q, (wf.drewN q).cell? ⟨gZ, 8, none⟩ = some (.int .i64 ux0) := fun q => hZ.cell rfl
    have cc9 : ∀ q, (wf.drewN q).cell? ⟨gZ, 9, none⟩ = some (.int .i64 ux1) := fun q => hZ.cell rfl
    have cc10 : ∀ q, (wf.drewN q).cell? ⟨gZ, 10, none⟩ = some (.int .i64 ux2) := fun q => hZ.cell rfl
    have cc11 : ∀ q, (wf.drewN q).cell? ⟨gZ, 11, none⟩ = some (.int .i64 ux3) := fun q => hZ.cell rfl
    clear hX hY hZ hQ hX0 hY0 hZ0 hQ0 hn1 hn2
    have hcmq := hcmp.out
    go_wp2_with fail
    go_quiet ((go_at_call 10; exact quiet_eq (hfew _)))
    have hwn := below_drawn hw nq
    go_wp2
    go_ret
    exact ⟨by simp [hcmp.out], hwn⟩
end Go.Proofs.Ytmibgmcgicphoaa
